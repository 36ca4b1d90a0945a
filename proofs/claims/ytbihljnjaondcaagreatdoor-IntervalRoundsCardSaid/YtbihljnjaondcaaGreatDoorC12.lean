/- Part of a proof, said shortly. -/
import Derived.Test.YtbihljnjaondcaaGreatDoorAlz
import Derived.Test.YtbihljnjaondcaaGreatDoorC11
import Derived.Test.YtbihljnjaondcaaGreatDoorC10
import Derived.Test.YtbihljnjaondcaaGreatDoorC6
import Derived.Test.YtbihljnjaondcaaGreatDoorC2
import Derived.Test.YtbihljnjaondcaaGreatDoorC1
import Derived.Test.YtbihljnjaondcaaGreatDoorC5
import Derived.Test.YtbihljnjaondcaaGreatDoorC4
import Derived.Test.YtbihljnjaondcaaGreatDoorC3
import Derived.Test.YtbihljnjaondcaaGreatDoorC9
import Derived.Test.YtbihljnjaondcaaGreatDoorC8
import Derived.Test.YtbihljnjaondcaaGreatDoorC7
namespace Lw
open Go Go.RowKit
theorem amy {N:Nat} (h0:N≠0) (h:N < 4294967296):(bg N).length=1∧dg (bg N) 0=N:=by
 rw [acj h0 h]; exact ⟨rfl,rfl⟩
theorem Bh {z:Int} (h1 : -9223372036854775808≤z) (h2:z≤9223372036854775807):IntKind.i64.wrap z=z:=by rw [IntKind.wrap_i64]; omega
def zU (q:Rat):Bool:=JV q.num.natAbs&&JV (dn q)
theorem Ql {q:Rat} (h:zU q=true):q.num.natAbs < 2147483648∧q.den < 2147483648:=by
 have h1:JV q.num.natAbs=true∧JV (dn q)=true:=by simpa [zU] using h
 unfold JV at h1
 exact ⟨of_decide_eq_true h1.1,aye (of_decide_eq_true h1.2)⟩
end Lw
namespace Go.Proofs.YtbihljnjaondcaaGreatDoor
open Go Go.RowKit Lw
section
variable {W0 w:World} {bs:List Bx} {L:List En} {ts:List Bt} {M:List Qn} {s s':Bool} {A A' B B':Option Addr} {n c n' c' m d m' d' k k':Nat} {q r:Rat} {x y:Int}
set_option maxRecDepth 100000 in
set_option maxHeartbeats 1600000 in
theorem ar4 (HE:bG W0 w bs L ts M) (h:⟨.agg #[.bool s,.slice A n c,.slice A' n' c'],q,k,true⟩∈M) (h1:q.num.natAbs < 2147483648) (h2:q.den < 2147483648) :
  Calls Tryz.prog 227 #[.agg #[.bool s,.slice A n c,.slice A' n' c']] w fun e w'=>e = .returned (.agg #[.int .i64 q.num,.int .i64 (q.den:Int)])∧bG W0 w' bs L ts M:=by
 suffices hs:Calls Tryz.prog 227 #[.agg #[.bool s,.slice A n c,.slice A' n' c']] w (fun e w'=>e = .returned (.agg #[.int .i64 q.num,.int .i64 (q.den:Int)])∧bG w w' [] L [] M) from hs.mono fun _ _ hh=>⟨hh.1,HE.back hh.2⟩
 have H1:=(HE.here.gQ (.bool s) (.slice A n c) (.slice A' n' c')).alloc (.cells #[.int .i64 0,.int .i64 0] 150)
 obtain ⟨hs,hn,hn',r1,r2,-⟩:=(H1.fr _ h).own
 by_cases hq:q=0
 ·obtain rfl:=(Jm hn).2 hq
  obtain ⟨e0,e1,e2,e3,e4,e5⟩:=H1.c3 (.head _)
  have HQ:=Lib.hid (show q.num=0∧q.den=1 by subst hq; exact ⟨rfl,rfl⟩)
  clear hs hn hn' r1 r2 hq h1 h2
  have H2:=(HE.here.gQ (.bool s) (.slice A 0 c) (.slice A' n' c')).alloc (.cells #[.int .i64 0,.int .i64 1] 150)
  go_enter Tryz.func227,Tryz.ntmps227
  go_wp2_with fail
  refine bodyPost_ret (v := .agg #[.int .i64 0,.int .i64 1]) (by simp [results,Tryz.results227,go_sem]) rfl ?_
  rw [HQ.out.1,HQ.out.2]
  exact ⟨rfl,H2.bare⟩
 ·have hN0:q.num.natAbs≠0:=fun e=>hq (Rat.num_eq_zero.1 (Int.natAbs_eq_zero.1 e))
  rw [Zg hq] at hn' r2
  unfold rn at hn r1
  obtain ⟨l1,g1⟩:=amy hN0 (by omega)
  obtain ⟨l2,g2⟩:=amy q.den_nz (by omega)
  rw [l1] at hn
  rw [l2] at hn'
  obtain ⟨b,off,rfl,-,hcell,-⟩:=r1.at_ (k:=0) (by omega)
  obtain ⟨b',off',rfl,-,hcell',-⟩:=r2.at_ (k:=0) (by omega)
  rw [g1,Nat.add_zero] at hcell
  rw [g2,Nat.add_zero] at hcell'
  subst hn hn'
  obtain ⟨N,hN⟩ : ∃ N,N=q.num.natAbs:=⟨_,rfl⟩
  obtain ⟨D,hD⟩ : ∃ D,D=q.den:=⟨_,rfl⟩
  rw [← hN] at hcell h1
  rw [← hD] at hcell' h2
  have u1:IntKind.i64.wrap (N:Int)=(N:Int):=Bh (by omega) (by omega)
  have u2:IntKind.i64.wrap (D:Int)=(D:Int):=Bh (by omega) (by omega)
  have u3:IntKind.i64.wrap (-(N:Int)) = -(N:Int):=Bh (by omega) (by omega)
  obtain ⟨e0,e1,e2,e3,e4,e5⟩:=H1.c3 (.head _)
  by_cases hneg:q.num < 0
  ·have HQ:=Lib.hid (show -(N:Int)=q.num∧(D:Int)=(q.den:Int) from ⟨by omega,by omega⟩)
   obtain rfl:s=true:=by rw [hs]; exact decide_eq_true hneg
   have H2:=(HE.here.gQ (.bool true) (.slice (some ⟨b,off,none⟩) 1 c) (.slice (some ⟨b',off',none⟩) 1 c')).alloc (.cells #[.int .i64 (-(N:Int)),.int .i64 (D:Int)] 150)
   clear hs r1 r2 hq hN0 l1 g1 l2 g2 hN hD hneg
   go_enter Tryz.func227,Tryz.ntmps227
   go_wp2_with fail
   go_region
   go_wp2_with fail
   refine bodyPost_ret (v := .agg #[.int .i64 (-(N:Int)),.int .i64 (D:Int)]) (by simp [results,Tryz.results227,go_sem]) rfl ?_
   rw [← HQ.out.1,← HQ.out.2]
   exact ⟨rfl,H2.drew.bare⟩
  ·have HQ:=Lib.hid (show (N:Int)=q.num∧(D:Int)=(q.den:Int) from ⟨by omega,by omega⟩)
   obtain rfl:s=false:=by rw [hs]; exact decide_eq_false hneg
   have H2:=(HE.here.gQ (.bool false) (.slice (some ⟨b,off,none⟩) 1 c) (.slice (some ⟨b',off',none⟩) 1 c')).alloc (.cells #[.int .i64 (N:Int),.int .i64 (D:Int)] 150)
   clear hs r1 r2 hq hN0 l1 g1 l2 g2 hN hD hneg
   go_enter Tryz.func227,Tryz.ntmps227
   go_wp2_with fail
   go_region
   go_wp2_with fail
   refine bodyPost_ret (v := .agg #[.int .i64 (N:Int),.int .i64 (D:Int)]) (by simp [results,Tryz.results227,go_sem]) rfl ?_
   rw [← HQ.out.1,← HQ.out.2]
   exact ⟨rfl,H2.drew.bare⟩
theorem ac1 {N B:Nat} (hr:Rd w B A (bg N)) (hn:n=(bg N).length) (hk:n≤100000) :
  Calls Tryz.prog 226 #[.slice A n c] w fun e w'=>e = .returned (.bool (JV N))∧w=w':=by
 refine (aAF A (bg N) n c _ w hr hn.symm (by omega)).mono fun e w' ⟨b,h1,h2,h3⟩ => ?_
 refine ⟨?_,h3⟩
 rw [h1]
 congr 2
 rw [Bool.eq_iff_iff,h2,hn,ax4]
 unfold JV
 rw [decide_eq_true_iff]
def shV (b:Bool) (q r:Rat):Value:=if b then .tuple #[.agg #[.int .i64 q.num,.int .i64 (q.den:Int)],.agg #[.int .i64 r.num,.int .i64 (r.den:Int)],.bool true] else .tuple #[.agg #[.int .i64 0,.int .i64 0],.agg #[.int .i64 0,.int .i64 0],.bool false]
theorem ajx (q r:Rat):shV true q r = .tuple #[.agg #[.int .i64 q.num,.int .i64 (q.den:Int)],.agg #[.int .i64 r.num,.int .i64 (r.den:Int)],.bool true]:=rfl
theorem ajw (q r:Rat):shV false q r = .tuple #[.agg #[.int .i64 0,.int .i64 0],.agg #[.int .i64 0,.int .i64 0],.bool false]:=rfl
set_option maxRecDepth 100000 in
set_option maxHeartbeats 2400000 in
theorem Vx (HE:bG W0 w bs L ts M) (h:⟨.agg #[.bool s,.slice A n c,.slice A' n' c'],q,k,true⟩∈M) (h':⟨.agg #[.bool s',.slice B m d,.slice B' m' d'],r,k',true⟩∈M) (hk:k+k'≤100000) :
  Calls Tryz.prog 194 #[.agg #[.bool s,.slice A n c,.slice A' n' c'],.agg #[.bool s',.slice B m d,.slice B' m' d']] w fun e w'=>e = .returned (shV (zU q&&zU r) q r)∧bG W0 w' bs L ts M:=by
 suffices hs:Calls Tryz.prog 194 #[.agg #[.bool s,.slice A n c,.slice A' n' c'],.agg #[.bool s',.slice B m d,.slice B' m' d']] w (fun e w'=>e = .returned (shV (zU q&&zU r) q r)∧bG w w' [] L [] M) from hs.mono fun _ _ hh=>⟨hh.1,HE.back hh.2⟩
 have H1:=(((HE.here.gQ (.bool s) (.slice A n c) (.slice A' n' c')).gQ (.bool s') (.slice B m d) (.slice B' m' d')).alloc (.cells #[.int .i64 0,.int .i64 0] 150)).alloc (.cells #[.int .i64 0,.int .i64 0] 150)
 have TA:=(Two.new ((w.alloc (.cells #[.bool s,.slice A n c,.slice A' n' c'] 24)).alloc (.cells #[.bool s',.slice B m d,.slice B' m' d'] 24)) 150 (.int .i64 0) (.int .i64 0)).alloc (.cells #[.int .i64 0,.int .i64 0] 150)
 have TB:=Two.new (((w.alloc (.cells #[.bool s,.slice A n c,.slice A' n' c'] 24)).alloc (.cells #[.bool s',.slice B m d,.slice B' m' d'] 24)).alloc (.cells #[.int .i64 0,.int .i64 0] 150)) 150 (.int .i64 0) (.int .i64 0)
 simp only [World.size_alloc] at H1 TA TB
 obtain ⟨-,hn,hn',r1,r2,hl1,hl2,-⟩:=(H1.fr _ h).own
 obtain ⟨-,hm,hm',r3,r4,hl3,hl4,-⟩:=(H1.fr _ h').own
 rw [aDV] at hn' r2 hm' r4
 unfold rn at hn r1 hm r3
 have c1:=Lib.hid (ac1 (c:=c) r1 hn (by omega))
 have c2:=Lib.hid (ac1 (c:=c') r2 hn' (by omega))
 have c3:=Lib.hid (ac1 (c:=d) r3 hm (by omega))
 have c4:=Lib.hid (ac1 (c:=d') r4 hm' (by omega))
 have hq1:zU q=true→q.num.natAbs < 2147483648∧q.den < 2147483648:=Ql
 have hq2:zU r=true→r.num.natAbs < 2147483648∧r.den < 2147483648:=Ql
 obtain ⟨e0,e1,e2,e3,e4,e5⟩:=H1.c3 (.tail _ (.head _))
 obtain ⟨f0,f1,f2,f3,f4,f5⟩:=H1.c3 (.head _)
 unfold zU at hq1 hq2 ⊢
 generalize JV q.num.natAbs=b1 at *
 generalize JV (dn q)=b2 at *
 generalize JV r.num.natAbs=b3 at *
 generalize JV (dn r)=b4 at *
 have HQ1:=Lib.hid hq1
 have HQ2:=Lib.hid hq2
 clear hn hn' hm hm' r1 r2 r3 r4 hl1 hl2 hl3 hl4 hq1 hq2
 cases b1
 ·go_enter aZC,aZD
  go_wp2_with fail
  refine c1.out.mono ?_
  rintro e w1 ⟨rfl,rfl⟩
  go_wp2_with fail
  refine bodyPost_ret (v := .tuple #[.agg #[.int .i64 0,.int .i64 0],.agg #[.int .i64 0,.int .i64 0],.bool false]) (by simp [results,Tryz.results194,go_sem]) rfl ?_
  exact ⟨rfl,H1.bare⟩
 cases b2
 ·go_enter aZC,aZD
  go_wp2_with fail
  refine c1.out.mono ?_
  rintro e w1 ⟨rfl,rfl⟩
  go_wp2_with fail
  refine c2.out.mono ?_
  rintro e w1 ⟨rfl,rfl⟩
  go_wp2_with fail
  refine bodyPost_ret (v := .tuple #[.agg #[.int .i64 0,.int .i64 0],.agg #[.int .i64 0,.int .i64 0],.bool false]) (by simp [results,Tryz.results194,go_sem]) rfl ?_
  exact ⟨rfl,H1.bare⟩
 cases b3
 ·go_enter aZC,aZD
  go_wp2_with fail
  refine c1.out.mono ?_
  rintro e w1 ⟨rfl,rfl⟩
  go_wp2_with fail
  refine c2.out.mono ?_
  rintro e w1 ⟨rfl,rfl⟩
  go_wp2_with fail
  refine c3.out.mono ?_
  rintro e w1 ⟨rfl,rfl⟩
  go_wp2_with fail
  refine bodyPost_ret (v := .tuple #[.agg #[.int .i64 0,.int .i64 0],.agg #[.int .i64 0,.int .i64 0],.bool false]) (by simp [results,Tryz.results194,go_sem]) rfl ?_
  exact ⟨rfl,H1.bare⟩
 cases b4
 ·go_enter aZC,aZD
  go_wp2_with fail
  refine c1.out.mono ?_
  rintro e w1 ⟨rfl,rfl⟩
  go_wp2_with fail
  refine c2.out.mono ?_
  rintro e w1 ⟨rfl,rfl⟩
  go_wp2_with fail
  refine c3.out.mono ?_
  rintro e w1 ⟨rfl,rfl⟩
  go_wp2_with fail
  refine c4.out.mono ?_
  rintro e w1 ⟨rfl,rfl⟩
  go_wp2_with fail
  refine bodyPost_ret (v := .tuple #[.agg #[.int .i64 0,.int .i64 0],.agg #[.int .i64 0,.int .i64 0],.bool false]) (by simp [results,Tryz.results194,go_sem]) rfl ?_
  exact ⟨rfl,H1.bare⟩
 go_enter aZC,aZD
 go_wp2_with fail
 refine c1.out.mono ?_
 rintro e w1 ⟨rfl,rfl⟩
 go_wp2_with fail
 refine c2.out.mono ?_
 rintro e w1 ⟨rfl,rfl⟩
 go_wp2_with fail
 refine c3.out.mono ?_
 rintro e w1 ⟨rfl,rfl⟩
 go_wp2_with fail
 refine c4.out.mono ?_
 rintro e w1 ⟨rfl,rfl⟩
 go_wp2_with fail
 have HE:=H1
 go_region_held3 (fun w'=>w'.cell? ⟨w.heap.size,0,none⟩=some (.bool s)∧w'.cell? ⟨w.heap.size,1,none⟩=some (.slice A n c)∧w'.cell? ⟨w.heap.size,2,none⟩=some (.slice A' n' c')∧w'.cell? ⟨w.heap.size+1,0,none⟩=some (.bool s')∧w'.cell? ⟨w.heap.size+1,1,none⟩=some (.slice B m d)∧w'.cell? ⟨w.heap.size+1,2,none⟩=some (.slice B' m' d')) (with_reducible first | exact bG.t2 HE | exact bG.t2 HE.drew | exact bG.t2 HK | exact bG.t2 HK1)
  (first
   | (go_at_call 227; have _:=QN; refine (ar4 (bG.here (by with_reducible first | exact HE | exact HE.drew)) h' (HQ2.out rfl).1 (HQ2.out rfl).2).mono ?_; rintro e wm ⟨rfl,Ui⟩; replace TA:=TA.next Ui.below; replace TB:=TB.next Ui.below; have HE:=bG.back (by with_reducible first | exact HE | exact HE.drew) Ui; obtain ⟨a0,a1,a2,a3⟩:=TA.facts; obtain ⟨b0,b1,b2,b3⟩:=TB.facts; have HK1:=HE.sh1 TA (by omega) q.num (q.den:Int) rfl; have HK:=HK1.sh1 ((TB.far (p:=⟨w.heap.size+1+1,0,none⟩) (by simp) _).far (p:=⟨w.heap.size+1+1,1,none⟩) (by simp) _) (by omega) r.num (r.den:Int) rfl)
   | (go_at_call 227; refine (ar4 (bG.here (by with_reducible first | exact HE | exact HE.drew)) h (HQ1.out rfl).1 (HQ1.out rfl).2).mono ?_; rintro e wn ⟨rfl,QN⟩; replace TA:=TA.next (F7 QN.below); replace TB:=TB.next (F7 QN.below); have HE:=bG.back (by with_reducible first | exact HE | exact HE.drew) QN))
 have TA1:=((TA.put (.int .i64 q.num) (.int .i64 (q.den:Int))).far (p:=⟨w.heap.size+1+1+1,0,none⟩) (by simp) (.int .i64 r.num)).far (p:=⟨w.heap.size+1+1+1,1,none⟩) (by simp) (.int .i64 (r.den:Int))
 have TB1:=((TB.far (p:=⟨w.heap.size+1+1,0,none⟩) (by simp) (.int .i64 q.num)).far (p:=⟨w.heap.size+1+1,1,none⟩) (by simp) (.int .i64 (q.den:Int))).put (.int .i64 r.num) (.int .i64 (r.den:Int))
 go_wp2_with fail
 obtain ⟨x0,x1,-,-⟩:=TA1.facts
 obtain ⟨y0,y1,-,-⟩:=TB1.facts
 refine bodyPost_ret (v := .tuple #[.agg #[.int .i64 q.num,.int .i64 (q.den:Int)],.agg #[.int .i64 r.num,.int .i64 (r.den:Int)],.bool true]) (by simp [results,Tryz.results194,go_sem,x0,x1,y0,y1]) rfl ?_
 exact ⟨rfl,HK.bare⟩
end
end Go.Proofs.YtbihljnjaondcaaGreatDoor
namespace Lw
open Go
theorem SK {a b:Int} (h1:a.natAbs < 2147483648) (h2:b.natAbs < 2147483648):(a*b).natAbs≤4611686014132420609:=by
 rw [Int.natAbs_mul]
 exact Nat.mul_le_mul (show a.natAbs≤2147483647 by omega) (show b.natAbs≤2147483647 by omega)
theorem al8 (a b:Rat):qF a b=vP (a.num*b.den) (b.num*a.den):=axL a b
theorem axG (a b:Int):Lib.compareInt a b=vP a b:=by
 unfold Lib.compareInt vP
 split <;> (try split) <;> (try split) <;> omega
end Lw
namespace Go.Proofs.YtbihljnjaondcaaGreatDoor
open Go Go.RowKit Lw
section
variable {W0 w:World} {bs:List Bx} {L:List En} {ts:List Bt} {M:List Qn} {s s':Bool} {A A' B B':Option Addr} {n c n' c' m d m' d' k k':Nat} {q r:Rat} {x y:Int}
set_option maxRecDepth 100000 in
set_option maxHeartbeats 4000000 in
theorem XH (HE:bG W0 w bs L ts M) (h:⟨.agg #[.bool s,.slice A n c,.slice A' n' c'],q,k,true⟩∈M) (h':⟨.agg #[.bool s',.slice B m d,.slice B' m' d'],r,k',true⟩∈M) (hk:k+k'≤8000) :
  Calls Tryz.prog 149 #[.agg #[.bool s,.slice A n c,.slice A' n' c'],.agg #[.bool s',.slice B m d,.slice B' m' d']] w (fun e w'=>e = .returned (.int .i64 (qF q r))∧bG W0 w' bs L ts M):=by
 suffices hs:Calls Tryz.prog 149 #[.agg #[.bool s,.slice A n c,.slice A' n' c'],.agg #[.bool s',.slice B m d,.slice B' m' d']] w (fun e w'=>e = .returned (.int .i64 (qF q r))∧bG w w' [] L [] M) from hs.mono fun _ _ hh=>⟨hh.1,HE.back hh.2⟩
 have H1:=(HE.here.gQ (.bool s) (.slice A n c) (.slice A' n' c')).gQ (.bool s') (.slice B m d) (.slice B' m' d')
 simp only [World.size_alloc] at H1
 by_cases hb:(zU q&&zU r)=true
 ·have hb2:zU q=true∧zU r=true:=by simpa using hb
  obtain ⟨z1,z2⟩:=Ql hb2.1
  obtain ⟨z3,z4⟩:=Ql hb2.2
  have HB:=Lib.hid hb
  have p1:=SK (a:=q.num) (b:=(r.den:Int)) z1 (by omega)
  have p2:=SK (a:=r.num) (b:=(q.den:Int)) z3 (by omega)
  have y1:IntKind.i64.wrap (q.num*(r.den:Int))=q.num*(r.den:Int):=Bh (by omega) (by omega)
  have y2:IntKind.i64.wrap (r.num*(q.den:Int))=r.num*(q.den:Int):=Bh (by omega) (by omega)
  clear p1 p2
  clear hb hb2 z1 z2 z3 z4
  go_enter Tryz.func149,Tryz.ntmps149
  have HE:=H1
  clear H1
  obtain ⟨q0,q1,q2,q3,q4,q5⟩:=HE.c3 (.head _)
  obtain ⟨q6,q7,q8,q9,q10,q11⟩:=HE.c3 (.tail _ (.head _))
  go_wp2_with fail
  refine (Vx HE h h' (by omega)).mono ?_
  clear HE
  rw [HB.out,ajx]
  rintro e w1 ⟨rfl,HE⟩
  clear q0 q1 q2 q3 q4 q5 q6 q7 q8 q9 q10 q11
  have TA:=(Two.new w1 150 (.int .i64 q.num) (.int .i64 (q.den:Int))).alloc (.cells #[.int .i64 r.num,.int .i64 (r.den:Int)] 150)
  have TB:=Two.new (w1.alloc (.cells #[.int .i64 q.num,.int .i64 (q.den:Int)] 150)) 150 (.int .i64 r.num) (.int .i64 (r.den:Int))
  replace HE:=(HE.alloc (.cells #[.int .i64 q.num,.int .i64 (q.den:Int)] 150)).alloc (.cells #[.int .i64 r.num,.int .i64 (r.den:Int)] 150)
  simp only [World.size_alloc] at TA TB
  obtain ⟨u0,u1,u2,u3⟩:=TA.facts
  obtain ⟨v0,v1,v2,v3⟩:=TB.facts
  obtain ⟨q12,q13,jC,jD,q16,jE⟩:=HE.c3 (.head _)
  obtain ⟨kL,kM,lH,lI,q22,q23⟩:=HE.c3 (.tail _ (.head _))
  go_wp2_with fail
  refine (Tryz.cmp_Compare_int _ _ _).mono ?_
  rintro e w2 ⟨rfl,rfl⟩
  go_wp2_with fail
  go_ret
  exact ⟨rF (by rw [axG,al8]),HE.bare⟩
 ·have HB:=Lib.hid (Bool.eq_false_iff.2 hb)
  clear hb
  go_enter Tryz.func149,Tryz.ntmps149
  have HE:=H1
  clear H1
  obtain ⟨q0,q1,q2,q3,q4,q5⟩:=HE.c3 (.head _)
  obtain ⟨q6,q7,q8,q9,q10,q11⟩:=HE.c3 (.tail _ (.head _))
  go_wp2_with fail
  refine (Vx HE h h' (by omega)).mono ?_
  clear HE
  rw [HB.out,ajw]
  rintro e w1 ⟨rfl,HE⟩
  clear q0 q1 q2 q3 q4 q5 q6 q7 q8 q9 q10 q11
  have TA:=(Two.new w1 150 (.int .i64 0) (.int .i64 0)).alloc (.cells #[.int .i64 0,.int .i64 0] 150)
  have TB:=Two.new (w1.alloc (.cells #[.int .i64 0,.int .i64 0] 150)) 150 (.int .i64 0) (.int .i64 0)
  replace HE:=(HE.alloc (.cells #[.int .i64 0,.int .i64 0] 150)).alloc (.cells #[.int .i64 0,.int .i64 0] 150)
  simp only [World.size_alloc] at TA TB
  clear TA TB
  obtain ⟨q12,q13,jC,jD,q16,jE⟩:=HE.c3 (.head _)
  obtain ⟨kL,kM,lH,lI,q22,q23⟩:=HE.c3 (.tail _ (.head _))
  go_wp2_with fail
  refine (KO HE h).mono ?_
  clear HE
  rintro e w2 ⟨s1,D1,m1,d1,s2,D2,m2,d2,rfl,HE⟩
  have HLW:=Lib.hid HE.below.size
  clear q12 q13 jC jD q16 jE kL kM lH lI q22 q23
  replace HE:=(HE.fF (.bool s1) (.slice D1 m1 d1)).fF (.bool s2) (.slice D2 m2 d2)
  simp only [World.size_alloc] at HE
  obtain ⟨q24,mG,mX,mY⟩:=HE.c2 (.head _)
  obtain ⟨nV,nX,q30,nY⟩:=HE.c2 (.tail _ (.head _))
  obtain ⟨q32,og,pg,q35,vS,q37⟩:=HE.c3 (.head _)
  obtain ⟨wG,wX,wY,wZ,xA,xB⟩:=HE.c3 (.tail _ (.head _))
  go_wp2_with fail
  refine (KO HE h').mono ?_
  clear HE
  rintro e w3 ⟨s3,D3,m3,d3,s4,D4,m4,d4,rfl,HE⟩
  have Po:=Lib.hid (HE.Oa (.head _))
  clear q24 mG mX mY nV nX q30 nY q32 og pg q35 vS q37 wG wX wY wZ xA xB
  replace HE:=(HE.fF (.bool s3) (.slice D3 m3 d3)).fF (.bool s4) (.slice D4 m4 d4)
  simp only [World.size_alloc] at HE
  obtain ⟨yG,yH,yI,yJ⟩:=HE.c2 (.head _)
  obtain ⟨zq,zu,zx,zy⟩:=HE.c2 (.tail _ (.head _))
  obtain ⟨zA,zB,He,Hg⟩:=HE.c2 (.tail _ (.tail _ (.head _)))
  obtain ⟨Jq,Jr,Js,Jt⟩:=HE.c2 (.tail _ (.tail _ (.tail _ (.head _))))
  obtain ⟨Ju,Jw,Jy,Jz,JA,JB⟩:=HE.c3 (.head _)
  obtain ⟨JD,JE,JF,JG,JH,JI⟩:=HE.c3 (.tail _ (.head _))
  go_wp2_with fail
  go_region_held3 (fun w'=>w'.cell? ⟨w2.heap.size,0,none⟩=some (.bool s1)∧w'.cell? ⟨w2.heap.size,1,none⟩=some (.slice D1 m1 d1)∧w'.cell? ⟨w2.heap.size+1,0,none⟩=some (.bool s2)∧w'.cell? ⟨w2.heap.size+1,1,none⟩=some (.slice D2 m2 d2)∧w'.cell? ⟨w3.heap.size,0,none⟩=some (.bool s3)∧w'.cell? ⟨w3.heap.size,1,none⟩=some (.slice D3 m3 d3)∧w'.cell? ⟨w3.heap.size+1,0,none⟩=some (.bool s4)∧w'.cell? ⟨w3.heap.size+1,1,none⟩=some (.slice D4 m4 d4)) (with_reducible first | exact bG.c4 HE | exact bG.c4 HE.drew)
   (first
    | (go_at_call 112; have _:=HM; refine (aoa (by with_reducible first | exact HE | exact HE.drew) (by repeat (first | exact .head _ | assumption | refine .tail _ ?_)) (by repeat (first | exact .head _ | assumption | refine .tail _ ?_)) (by omega)).mono ?_; rintro e wn ⟨rfl,HE⟩)
    | (go_at_call 91; refine (Su (by with_reducible first | exact HE | exact HE.drew) (by repeat (first | exact .head _ | assumption | refine .tail _ ?_)) (by repeat (first | exact .head _ | assumption | refine .tail _ ?_)) (by omega)).mono ?_; rintro e wn ⟨sx,Ax,nx,cx,rfl,HE⟩; have HM:=HE))
  go_wp2_with fail
  go_ret
  exact ⟨rF (by rw [al8]),HE.bare.tl.tl.tl.tl.tl.tl⟩
end
end Go.Proofs.YtbihljnjaondcaaGreatDoor
namespace Lw
open Go
theorem alB {q r:Rat} {k k':Nat} (h1:q.num.natAbs < pw k∧q.den < pw (k+1)) (h2:r.num.natAbs < pw k'∧r.den < pw (k'+1)):(q+r).num.natAbs < pw (k+k'+2)∧(q+r).den < pw (k+k'+2):=by
 have hb:=aw6 q r
 have e1:=Nat.mul_lt_mul'' h1.1 h2.2
 have e2:=Nat.mul_lt_mul'' h2.1 h1.2
 have e3:=Nat.mul_lt_mul'' h1.2 h2.2
 rw [← OB] at e1 e2 e3
 rw [show k+(k'+1)=k+k'+1 by omega] at e1
 rw [show k'+(k+1)=k+k'+1 by omega] at e2
 rw [show k+1+(k'+1)=k+k'+2 by omega] at e3
 have e4:pw (k+k'+2)=pw (k+k'+1)*4294967296:=by unfold pw; rw [Nat.pow_succ]
 omega
theorem ao2 {q r:Rat} {k k':Nat} (h1:q.num.natAbs < pw k∧q.den < pw (k+1)) (h2:r.num.natAbs < pw k'∧r.den < pw (k'+1)):(q*r).num.natAbs < pw (k+k'+2)∧(q*r).den < pw (k+k'+2):=by
 have hb:=aBd q r
 have e1:=Nat.mul_lt_mul'' h1.1 h2.1
 have e3:=Nat.mul_lt_mul'' h1.2 h2.2
 rw [← OB] at e1 e3
 rw [show k+1+(k'+1)=k+k'+2 by omega] at e3
 have e4:pw (k+k')≤pw (k+k'+2):=uX (by omega)
 omega
theorem fJ.weak {w:World} {v:Value} {q:Rat} {k K:Nat} {b:Bool} (h:fJ w ⟨v,q,k,b⟩) (hk:k≤K):fJ w ⟨v,q,K,b⟩:=by
 obtain ⟨s,A,n,c,A',n',c',ns,ms,e1,r1,r2,e2,e3,e4,e5,e6⟩:=h
 exact ⟨s,A,n,c,A',n',c',ns,ms,e1,r1,r2,e2,e3,Nat.le_trans e4 hk,Nat.le_trans e5 hk,e6⟩
end Lw
namespace Go.Proofs.YtbihljnjaondcaaGreatDoor
open Go Go.RowKit Lw
section
variable {W0 w:World} {bs:List Bx} {L:List En} {ts:List Bt} {M:List Qn} {s s':Bool} {A A' B B':Option Addr} {n c n' c' m d m' d' k k':Nat} {q r:Rat} {x y:Int}
theorem bG.Qq {e:Qn} (h:bG W0 w bs L ts (e :: M)):bG W0 w bs L ts M:=⟨h.env,fun e' he=>h.fr e' (.tail _ he),h.tri,h.tz,h.tab,h.lo,h.lot⟩
theorem bG.hd {v:Value} {q:Rat} {k K:Nat} {b:Bool} (h:bG W0 w bs L ts (⟨v,q,k,b⟩ :: M)) (hk:fJ w ⟨v,q,k,b⟩→fJ w ⟨v,q,K,b⟩):bG W0 w bs L ts (⟨v,q,K,b⟩ :: M):=h.Qq.cons (hk (h.fr _ (.head _)))
theorem aqB (HE:bG W0 w bs L ts M) (n1 : -9223372036854775808≤x) (n2:x≤9223372036854775807) (d0:0 < y) (d2:y≤9223372036854775807) :
  Calls Tryz.prog 150 #[.int .i64 x,.int .i64 y] w (jB W0 bs L ts M (Rat.divInt x y) 2):=by
 refine (aqA x y w n1 n2 (by omega) d2 (by omega) (HE.tz.next HE.below)).mono fun e w' hh => ?_
 obtain ⟨A,c,A',c',rfl,hc,hc',hr,hr',hb⟩:=hh
 have hl:=ahj (n:=x) d0
 have hp:pw 2=18446744073709551616:=rfl
 exact ⟨_,_,_,_,_,_,_,rfl,(HE.next hb).cons (adW hr hr' (N9 (by omega)) (aia (by omega)) hc hc')⟩
set_option maxRecDepth 100000 in
set_option maxHeartbeats 4000000 in
theorem apK (HE:bG W0 w bs L ts M) (h:⟨.agg #[.bool s,.slice A n c,.slice A' n' c'],q,k,true⟩∈M) (h':⟨.agg #[.bool s',.slice B m d,.slice B' m' d'],r,k',true⟩∈M) (hk:k+k'≤8000) :
  Calls Tryz.prog 147 #[.agg #[.bool s,.slice A n c,.slice A' n' c'],.agg #[.bool s',.slice B m d,.slice B' m' d']] w (jB W0 bs L ts M (q+r) (k+k'+2)):=by
 suffices hs:Calls Tryz.prog 147 #[.agg #[.bool s,.slice A n c,.slice A' n' c'],.agg #[.bool s',.slice B m d,.slice B' m' d']] w (jB w [] L [] M (q+r) (k+k'+2)) from hs.mono fun _ _ hh=>jB.of HE hh
 have H1:=((HE.here.gQ (.bool s) (.slice A n c) (.slice A' n' c')).gQ (.bool s') (.slice B m d) (.slice B' m' d')).gQ (.bool false) (.slice none 0 0) (.slice none 0 0)
 simp only [World.size_alloc] at H1
 have HP:=Lib.hid (alB (HE.fr _ h).lt (HE.fr _ h').lt)
 by_cases hb:(zU q&&zU r)=true
 ·have hb2:zU q=true∧zU r=true:=by simpa using hb
  obtain ⟨z1,z2⟩:=Ql hb2.1
  obtain ⟨z3,z4⟩:=Ql hb2.2
  have HB:=Lib.hid hb
  have p1:=SK (a:=q.num) (b:=(r.den:Int)) z1 (by omega)
  have p2:=SK (a:=r.num) (b:=(q.den:Int)) z3 (by omega)
  have p3:=SK (a:=(q.den:Int)) (b:=(r.den:Int)) (by omega) (by omega)
  have p4:=Int.mul_pos (den_pos q) (den_pos r)
  have y1:IntKind.i64.wrap (q.num*(r.den:Int))=q.num*(r.den:Int):=Bh (by omega) (by omega)
  have y2:IntKind.i64.wrap (r.num*(q.den:Int))=r.num*(q.den:Int):=Bh (by omega) (by omega)
  have y3:IntKind.i64.wrap (q.num*(r.den:Int)+r.num*(q.den:Int))=q.num*(r.den:Int)+r.num*(q.den:Int):=Bh (by omega) (by omega)
  have y4:IntKind.i64.wrap ((q.den:Int)*(r.den:Int))=(q.den:Int)*(r.den:Int):=Bh (by omega) (by omega)
  have HS:=Lib.hid (show (-9223372036854775808≤q.num*(r.den:Int)+r.num*(q.den:Int)∧q.num*(r.den:Int)+r.num*(q.den:Int)≤9223372036854775807)∧0 < (q.den:Int)*(r.den:Int)∧(q.den:Int)*(r.den:Int)≤9223372036854775807 from ⟨⟨by omega,by omega⟩,p4,by omega⟩)
  clear p1 p2 p3 p4
  clear hb hb2 z1 z2 z3 z4
  go_enter Tryz.func147,Tryz.ntmps147
  have HE:=H1
  clear H1
  obtain ⟨q0,q1,q2,q3,q4,q5⟩:=HE.c3 (.head _)
  obtain ⟨q6,q7,q8,q9,q10,q11⟩:=HE.c3 (.tail _ (.head _))
  obtain ⟨q12,q13,jC,jD,q16,jE⟩:=HE.c3 (.tail _ (.tail _ (.head _)))
  go_wp2_with fail
  refine (Vx HE h h' (by omega)).mono ?_
  clear HE
  rw [HB.out,ajx]
  rintro e w1 ⟨rfl,HE⟩
  clear q0 q1 q2 q3 q4 q5 q6 q7 q8 q9 q10 q11 q12 q13 jC jD q16 jE
  have TA:=(Two.new w1 150 (.int .i64 q.num) (.int .i64 (q.den:Int))).alloc (.cells #[.int .i64 r.num,.int .i64 (r.den:Int)] 150)
  have TB:=Two.new (w1.alloc (.cells #[.int .i64 q.num,.int .i64 (q.den:Int)] 150)) 150 (.int .i64 r.num) (.int .i64 (r.den:Int))
  replace HE:=(HE.alloc (.cells #[.int .i64 q.num,.int .i64 (q.den:Int)] 150)).alloc (.cells #[.int .i64 r.num,.int .i64 (r.den:Int)] 150)
  simp only [World.size_alloc] at TA TB
  obtain ⟨u0,u1,u2,u3⟩:=TA.facts
  obtain ⟨v0,v1,v2,v3⟩:=TB.facts
  obtain ⟨kL,kM,lH,lI,q22,q23⟩:=HE.c3 (.head _)
  obtain ⟨q24,mG,mX,mY,nV,nX⟩:=HE.c3 (.tail _ (.head _))
  obtain ⟨q30,nY,q32,og,pg,q35⟩:=HE.c3 (.tail _ (.tail _ (.head _)))
  go_wp2_with fail
  refine (aqB HE HS.out.1.1 HS.out.1.2 HS.out.2.1 HS.out.2.2).mono ?_
  rintro e w2 ⟨sx,Ax,nx,cx,Ay,ny,cy,rfl,HE⟩
  rw [← agU] at HE
  clear u0 u1 u2 u3 v0 v1 v2 v3 TA TB
  clear kL kM lH lI q22 q23 q24 mG mX mY nV nX q30 nY q32 og pg q35
  obtain ⟨vS,q37,wG,wX,wY,wZ⟩:=HE.c3 (.head _)
  obtain ⟨xA,xB,yG,yH,yI,yJ⟩:=HE.c3 (.tail _ (.head _))
  obtain ⟨zq,zu,zx,zy,zA,zB⟩:=HE.c3 (.tail _ (.tail _ (.head _)))
  go_wp2_with fail
  have HF:=HE.tK (D:=Ax) (m:=nx) (d:=cx) (.head _) sx (.slice Ay ny cy)
  refine bodyPost_ret (v := .agg #[.bool sx,.slice Ax nx cx,.slice Ay ny cy]) (by simp [results,Tryz.results147,go_sem,vS,q37,wG]) rfl ?_
  exact ⟨_,_,_,_,_,_,_,rfl,HF.bare.hd (·.weak (by omega))⟩
 ·have HB:=Lib.hid (Bool.eq_false_iff.2 hb)
  obtain ⟨g,hg⟩ : ∃ g:Int,g=(Nat.gcd (q.den:Int).natAbs (r.den:Int).natAbs:Nat):=⟨_,rfl⟩
  have HG:=Lib.hid hg
  rw [Int.natAbs_natCast,Int.natAbs_natCast] at hg
  obtain ⟨S,hS⟩ : ∃ S:Int,S=q.num*((r.den:Int) / g)+r.num*((q.den:Int) / g):=⟨_,rfl⟩
  have HS:=Lib.hid hS
  obtain ⟨g1,hg1⟩ : ∃ g1:Int,g1=(Nat.gcd S.natAbs g.natAbs:Nat):=⟨_,rfl⟩
  have HG1:=Lib.hid hg1
  have hl:=aw9 q r hg rfl rfl hS hg1
  have HL:=Lib.hid (show (q+r).num=S / g1∧((q+r).den:Int)=(q.den:Int) / g*((r.den:Int) / g1)∧0 < g∧0 < g1 from ⟨hl.1,hl.2.1,by omega,by omega⟩)
  clear hg hS hg1 hl
  clear hb
  go_enter Tryz.func147,Tryz.ntmps147
  have HE:=H1
  clear H1
  obtain ⟨q0,q1,q2,q3,q4,q5⟩:=HE.c3 (.head _)
  obtain ⟨q6,q7,q8,q9,q10,q11⟩:=HE.c3 (.tail _ (.head _))
  obtain ⟨q12,q13,jC,jD,q16,jE⟩:=HE.c3 (.tail _ (.tail _ (.head _)))
  go_wp2_with fail
  refine (Vx HE h h' (by omega)).mono ?_
  clear HE
  rw [HB.out,ajw]
  rintro e w1 ⟨rfl,HE⟩
  clear q0 q1 q2 q3 q4 q5 q6 q7 q8 q9 q10 q11 q12 q13 jC jD q16 jE
  have TA:=(Two.new w1 150 (.int .i64 0) (.int .i64 0)).alloc (.cells #[.int .i64 0,.int .i64 0] 150)
  have TB:=Two.new (w1.alloc (.cells #[.int .i64 0,.int .i64 0] 150)) 150 (.int .i64 0) (.int .i64 0)
  replace HE:=(HE.alloc (.cells #[.int .i64 0,.int .i64 0] 150)).alloc (.cells #[.int .i64 0,.int .i64 0] 150)
  simp only [World.size_alloc] at TA TB
  clear TA TB
  obtain ⟨kL,kM,lH,lI,q22,q23⟩:=HE.c3 (.head _)
  obtain ⟨q24,mG,mX,mY,nV,nX⟩:=HE.c3 (.tail _ (.head _))
  obtain ⟨q30,nY,q32,og,pg,q35⟩:=HE.c3 (.tail _ (.tail _ (.head _)))
  go_wp2_with fail
  refine (KO HE h).mono ?_
  clear HE
  rintro e w2 ⟨s1,D1,m1,d1,s2,D2,m2,d2,rfl,HE⟩
  have HLW:=Lib.hid HE.below.size
  clear kL kM lH lI q22 q23 q24 mG mX mY nV nX q30 nY q32 og pg q35
  replace HE:=(HE.fF (.bool s1) (.slice D1 m1 d1)).fF (.bool s2) (.slice D2 m2 d2)
  simp only [World.size_alloc] at HE
  obtain ⟨vS,q37,wG,wX⟩:=HE.c2 (.head _)
  obtain ⟨wY,wZ,xA,xB⟩:=HE.c2 (.tail _ (.head _))
  obtain ⟨yG,yH,yI,yJ,zq,zu⟩:=HE.c3 (.head _)
  obtain ⟨zx,zy,zA,zB,He,Hg⟩:=HE.c3 (.tail _ (.head _))
  obtain ⟨Jq,Jr,Js,Jt,Ju,Jw⟩:=HE.c3 (.tail _ (.tail _ (.head _)))
  go_wp2_with fail
  refine (KO HE h').mono ?_
  clear HE
  rintro e w3 ⟨s3,D3,m3,d3,s4,D4,m4,d4,rfl,HE⟩
  have Po:=Lib.hid (HE.Oa (.head _))
  clear vS q37 wG wX wY wZ xA xB yG yH yI yJ zq zu zx zy zA zB He Hg Jq Jr Js Jt Ju Jw
  replace HE:=(HE.fF (.bool s3) (.slice D3 m3 d3)).fF (.bool s4) (.slice D4 m4 d4)
  simp only [World.size_alloc] at HE
  obtain ⟨Jy,Jz,JA,JB⟩:=HE.c2 (.head _)
  obtain ⟨JD,JE,JF,JG⟩:=HE.c2 (.tail _ (.head _))
  obtain ⟨JH,JI,KP,KQ⟩:=HE.c2 (.tail _ (.tail _ (.head _)))
  obtain ⟨KR,KT,KU,KW⟩:=HE.c2 (.tail _ (.tail _ (.tail _ (.head _))))
  obtain ⟨S9,Tc,Td,Tf,Ti,Tj⟩:=HE.c3 (.head _)
  obtain ⟨Tm,Tn,U9,Va,Vb,Vd⟩:=HE.c3 (.tail _ (.head _))
  obtain ⟨Ve,Vf,Vg,Vh,Y9,Za⟩:=HE.c3 (.tail _ (.tail _ (.head _)))
  go_wp2_with fail
  refine (abO HE (by repeat (first | exact .head _ | assumption | refine .tail _ ?_)) (by repeat (first | exact .head _ | assumption | refine .tail _ ?_)) (by omega)).mono ?_
  clear HE
  rintro e w4 ⟨s5,D5,m5,d5,rfl,HE⟩
  rw [← HG.out] at HE
  clear Jy Jz JA JB JD JE JF JG JH JI KP KQ KR KT KU KW S9 Tc Td Tf Ti Tj Tm Tn U9 Va Vb Vd Ve Vf Vg Vh Y9 Za
  have HL4:=Lib.hid (HE.Oa (.head _))
  replace HE:=HE.fF (.bool s5) (.slice D5 m5 d5)
  obtain ⟨Zb,Zc,Zd,Ze⟩:=HE.c2 (.head _)
  obtain ⟨adY,adZ,ad1,ad2⟩:=HE.c2 (.tail _ (.head _))
  obtain ⟨ad3,ad4,ad5,ad6⟩:=HE.c2 (.tail _ (.tail _ (.head _)))
  obtain ⟨aiF,aiH,aiI,aiJ⟩:=HE.c2 (.tail _ (.tail _ (.tail _ (.head _))))
  obtain ⟨aiK,aiL,aiM,aiN⟩:=HE.c2 (.tail _ (.tail _ (.tail _ (.tail _ (.head _)))))
  obtain ⟨aiO,aiP,aiQ,aiR,aiS,aiT⟩:=HE.c3 (.head _)
  obtain ⟨aiU,aiV,aiW,aiX,aiY,aiZ⟩:=HE.c3 (.tail _ (.head _))
  obtain ⟨ai0,ai1,ai2,ai3,ai4,ai5⟩:=HE.c3 (.tail _ (.tail _ (.head _)))
  go_wp2_with fail
  refine (XE HE (by repeat (first | exact .head _ | assumption | refine .tail _ ?_)) (by repeat (first | exact .head _ | assumption | refine .tail _ ?_)) (by omega) HL.out.2.2.1).mono ?_
  clear HE
  rintro e w5 ⟨s6,D6,m6,d6,rfl,HE⟩
  have MS:=Lib.hid (HE.Oa (.head _))
  clear Zb Zc Zd Ze adY adZ ad1 ad2 ad3 ad4 ad5 ad6 aiF aiH aiI aiJ aiK aiL aiM aiN aiO aiP aiQ aiR aiS aiT aiU aiV aiW aiX aiY aiZ ai0 ai1 ai2 ai3 ai4 ai5
  obtain ⟨ai6,ai7,ai8,ai9⟩:=HE.c2 (.head _)
  obtain ⟨apN,apO,apQ,apR⟩:=HE.c2 (.tail _ (.head _))
  obtain ⟨apS,apT,apU,apV⟩:=HE.c2 (.tail _ (.tail _ (.head _)))
  obtain ⟨apW,apX,apY,apZ⟩:=HE.c2 (.tail _ (.tail _ (.tail _ (.head _))))
  obtain ⟨ap0,ap1,ap2,ap3⟩:=HE.c2 (.tail _ (.tail _ (.tail _ (.tail _ (.head _)))))
  obtain ⟨ap4,ap5,ap6,ap7,ap8,ap9⟩:=HE.c3 (.head _)
  obtain ⟨ap',aqa,aqb,aqc,aqd,aqe⟩:=HE.c3 (.tail _ (.head _))
  obtain ⟨aqf,aqg,aqh,aqi,aqj,aqk⟩:=HE.c3 (.tail _ (.tail _ (.head _)))
  have HE2:=HE.zo (.tail _ (.tail _ (.tail _ (.head _)))) [⟨w4.heap.size,.bool s5,.slice D5 m5 d5⟩,⟨w3.heap.size+1,.bool s4,.slice D4 m4 d4⟩,⟨w3.heap.size,.bool s3,.slice D3 m3 d3⟩,⟨w2.heap.size,.bool s1,.slice D1 m1 d1⟩] (fun b hb=>by simp only [List.mem_cons,List.not_mem_nil,or_false] at hb; rcases hb with rfl | rfl | rfl | rfl <;> exact ⟨(by repeat (first | exact .head _ | assumption | refine .tail _ ?_)),by dsimp only; have:=Po.out; have:=HL4.out; omega⟩) s6 (.slice D6 m6 d6)
  go_wp2_with fail
  clear ai6 ai7 ai8 ai9 apN apO apQ apR apS apT apU apV apW apX apY apZ ap0 ap1 ap2 ap3 ap4 ap5 ap6 ap7 ap8 ap9 ap' aqa aqb aqc aqd aqe aqf aqg aqh aqi aqj aqk
  replace HE:=HE2
  clear HE2
  have hsz:((w5.setCell ⟨w2.heap.size+1,0,none⟩ (.bool s6)).setCell ⟨w2.heap.size+1,1,none⟩ (.slice D6 m6 d6)).heap.size=w5.heap.size:=by simp
  have HSZ:=Lib.hid hsz
  clear hsz
  generalize (w5.setCell ⟨w2.heap.size+1,0,none⟩ (.bool s6)).setCell ⟨w2.heap.size+1,1,none⟩ (.slice D6 m6 d6)=W5 at *
  have hS : ∀ v,Below W5.heap.size W5 v→(fun w'=>w'.cell? ⟨w2.heap.size,0,none⟩=some (.bool s1)∧w'.cell? ⟨w2.heap.size,1,none⟩=some (.slice D1 m1 d1)∧w'.cell? ⟨w3.heap.size,0,none⟩=some (.bool s3)∧w'.cell? ⟨w3.heap.size,1,none⟩=some (.slice D3 m3 d3)∧w'.cell? ⟨w3.heap.size+1,0,none⟩=some (.bool s4)∧w'.cell? ⟨w3.heap.size+1,1,none⟩=some (.slice D4 m4 d4)∧w'.cell? ⟨w4.heap.size,0,none⟩=some (.bool s5)∧w'.cell? ⟨w4.heap.size,1,none⟩=some (.slice D5 m5 d5)∧w'.cell? ⟨w2.heap.size+1,0,none⟩=some (.bool s6)∧w'.cell? ⟨w2.heap.size+1,1,none⟩=some (.slice D6 m6 d6)) v:=fun v hv=>bG.c5 (HE.next hv)
  have HR:=HE.here
  go_cut [13] (fun sl wx => ∃ (gm:Nat) (sx:Bool) (Ax:Option Addr) (nx cx:Nat),sl = .pointer (some ⟨gm,0,none⟩)∧bG W5 wx [⟨gm,.bool sx,.slice Ax nx cx⟩] (⟨.agg #[.bool sx,.slice Ax nx cx],S,(2*(k+k')+14),true⟩ :: ⟨.agg #[.bool s6,.slice D6 m6 d6],(q.den:Int) / g,k+2+1,true⟩ :: ⟨.agg #[.bool s5,.slice D5 m5 d5],g,k+2+(k'+2)+2,true⟩ :: ⟨.agg #[.bool s3,.slice D3 m3 d3],r.num,k'+2,true⟩ :: ⟨.agg #[.bool s4,.slice D4 m4 d4],(r.den:Int),k'+2,true⟩ :: ⟨.agg #[.bool s1,.slice D1 m1 d1],q.num,k+2,true⟩ :: ⟨.agg #[.bool s2,.slice D2 m2 d2],(q.den:Int),k+2,true⟩ :: L) [] M)
  case first =>
   go_region_held3 (fun w'=>w'.cell? ⟨w2.heap.size,0,none⟩=some (.bool s1)∧w'.cell? ⟨w2.heap.size,1,none⟩=some (.slice D1 m1 d1)∧w'.cell? ⟨w3.heap.size,0,none⟩=some (.bool s3)∧w'.cell? ⟨w3.heap.size,1,none⟩=some (.slice D3 m3 d3)∧w'.cell? ⟨w3.heap.size+1,0,none⟩=some (.bool s4)∧w'.cell? ⟨w3.heap.size+1,1,none⟩=some (.slice D4 m4 d4)∧w'.cell? ⟨w4.heap.size,0,none⟩=some (.bool s5)∧w'.cell? ⟨w4.heap.size,1,none⟩=some (.slice D5 m5 d5)∧w'.cell? ⟨w2.heap.size+1,0,none⟩=some (.bool s6)∧w'.cell? ⟨w2.heap.size+1,1,none⟩=some (.slice D6 m6 d6)) (first | exact hS _ HR.below | exact hS _ HR.drew.below | exact hS _ (bG.fF HR (.bool false) (.slice none 0 0)).below | exact hS _ (bG.fF HR.drew (.bool false) (.slice none 0 0)).below | exact hS _ (bG.fF HR (.bool false) (.slice none 0 0)).drew.below | exact hS _ HK.below)
    (first
     | (go_at_call 196; refine (XE (by with_reducible first | exact HR | exact HR.drew | exact bG.fF HR (.bool false) (.slice none 0 0) | exact bG.fF HR.drew (.bool false) (.slice none 0 0) | exact (bG.fF HR (.bool false) (.slice none 0 0)).drew) (by repeat (first | exact .head _ | assumption | refine .tail _ ?_)) (by repeat (first | exact .head _ | assumption | refine .tail _ ?_)) (by omega) HL.out.2.2.1).mono ?_; rintro e wn ⟨sx,Ax,nx,cx,rfl,HR⟩)
     | (go_at_call 91; refine (Su (by with_reducible first | exact HR | exact HR.drew | exact bG.fF HR (.bool false) (.slice none 0 0) | exact bG.fF HR.drew (.bool false) (.slice none 0 0) | exact (bG.fF HR (.bool false) (.slice none 0 0)).drew) (by repeat (first | exact .head _ | assumption | refine .tail _ ?_)) (by repeat (first | exact .head _ | assumption | refine .tail _ ?_)) (by omega)).mono ?_; rintro e wn ⟨sx,Ax,nx,cx,rfl,HR⟩)
     | (go_at_call 192; refine (an' (by with_reducible first | exact HR | exact HR.drew | exact bG.fF HR (.bool false) (.slice none 0 0) | exact bG.fF HR.drew (.bool false) (.slice none 0 0) | exact (bG.fF HR (.bool false) (.slice none 0 0)).drew) (by repeat (first | exact .head _ | assumption | refine .tail _ ?_)) (by repeat (first | exact .head _ | assumption | refine .tail _ ?_)) (by omega)).mono ?_; rintro e w6 ⟨sx,Ax,nx,cx,rfl,HR⟩; rw [← HS.out] at HR; first | (have HK:=HR.zo (.head _) [] (fun _ hb=>by simp at hb) sx (.slice Ax nx cx); obtain ⟨z0,z1,z2,z3⟩:=HR.c2 (.head _)) | (have HK:=HR.fF (.bool sx) (.slice Ax nx cx))))
   all_goals
    go_wp2_with fail
    go_meet
    exact ⟨_,sx,Ax,nx,cx,rfl,(HK.hdi (K:=(2*(k+k')+14)) (·.weak (by omega))).pick (fun _ he=>by rcases List.mem_cons.1 he with rfl | he; exact .head _; exact .tail _ (.tail _ (.tail _ (.tail _ (he))))) (fun _ he=>he)⟩
  case rest =>
   clear HR hS
   obtain ⟨gm,sx,Ax,nx,cx,rfl,HR⟩:=hcut
   have HL6:=Lib.hid (HR.lo _ (.head _))
   replace HE:=HE.join HR
   clear HR
   simp only [List.cons_append,List.nil_append] at HE
   obtain ⟨aql,aqm,aqn,aqo⟩:=HE.c2 (.head _)
   obtain ⟨aqp,aqr,aqs,aqt⟩:=HE.c2 (.tail _ (.head _))
   obtain ⟨aqu,aqv,aqw,aqx⟩:=HE.c2 (.tail _ (.tail _ (.head _)))
   obtain ⟨aB4,aB5,aB6,aB7⟩:=HE.c2 (.tail _ (.tail _ (.tail _ (.head _))))
   obtain ⟨aB8,aB9,aCd,aCe⟩:=HE.c2 (.tail _ (.tail _ (.tail _ (.tail _ (.head _)))))
   obtain ⟨aCf,aCg,aCh,aCi⟩:=HE.c2 (.tail _ (.tail _ (.tail _ (.tail _ (.tail _ (.head _))))))
   obtain ⟨aCj,aCk,aCm,aCn,aCo,aCp⟩:=HE.c3 (.head _)
   obtain ⟨aCr,aCs,aCu,aCv,aCw,aCy⟩:=HE.c3 (.tail _ (.head _))
   obtain ⟨aCz,aCD,aCE,aCF,aCG,aCH⟩:=HE.c3 (.tail _ (.tail _ (.head _)))
   go_wp2_with fail
   refine (abO HE (by repeat (first | exact .head _ | assumption | refine .tail _ ?_)) (by repeat (first | exact .head _ | assumption | refine .tail _ ?_)) (by omega)).mono ?_
   clear HE
   rintro e w7 ⟨s7,D7,m7,d7,rfl,HE⟩
   rw [← HG1.out] at HE
   clear aql aqm aqn aqo aqp aqr aqs aqt aqu aqv aqw aqx aB4 aB5 aB6 aB7 aB8 aB9 aCd aCe aCf aCg aCh aCi aCj aCk aCm aCn aCo aCp aCr aCs aCu aCv aCw aCy aCz aCD aCE aCF aCG aCH
   obtain ⟨aCI,aCJ,aCK,aCM⟩:=HE.c2 (.head _)
   obtain ⟨aCN,aCO,aCP,aCR⟩:=HE.c2 (.tail _ (.head _))
   obtain ⟨aCS,aCU,aCV,aCW⟩:=HE.c2 (.tail _ (.tail _ (.head _)))
   obtain ⟨aCY,aCZ,aC0,aC1⟩:=HE.c2 (.tail _ (.tail _ (.tail _ (.head _))))
   obtain ⟨aC2,aC3,aC4,aC5⟩:=HE.c2 (.tail _ (.tail _ (.tail _ (.tail _ (.head _)))))
   obtain ⟨aC6,aC7,aC8,aC9⟩:=HE.c2 (.tail _ (.tail _ (.tail _ (.tail _ (.tail _ (.head _))))))
   obtain ⟨aDa,aDb,aDe,aDf,aDg,aDh⟩:=HE.c3 (.head _)
   obtain ⟨aDi,aDk,aDl,aDm,aDn,aDo⟩:=HE.c3 (.tail _ (.head _))
   obtain ⟨aDp,aDq,aDr,aDs,aDt,aDu⟩:=HE.c3 (.tail _ (.tail _ (.head _)))
   have HE2:=HE.zo (.tail _ (.tail _ (.head _))) [⟨gm,.bool sx,.slice Ax nx cx⟩,⟨w2.heap.size+1,.bool s6,.slice D6 m6 d6⟩,⟨w3.heap.size+1,.bool s4,.slice D4 m4 d4⟩,⟨w3.heap.size,.bool s3,.slice D3 m3 d3⟩,⟨w2.heap.size,.bool s1,.slice D1 m1 d1⟩] (fun b hb=>by simp only [List.mem_cons,List.not_mem_nil,or_false] at hb; rcases hb with rfl | rfl | rfl | rfl | rfl <;> exact ⟨(by repeat (first | exact .head _ | assumption | refine .tail _ ?_)),by have h1:=Po.out; have h2:=HL4.out; have h3:=HL6.out; have h4:=HSZ.out; have h5:=MS.out; dsimp only at h3 ⊢; omega⟩) s7 (.slice D7 m7 d7)
   go_wp2_with fail
   clear aCI aCJ aCK aCM aCN aCO aCP aCR aCS aCU aCV aCW aCY aCZ aC0 aC1 aC2 aC3 aC4 aC5 aC6 aC7 aC8 aC9 aDa aDb aDe aDf aDg aDh aDi aDk aDl aDm aDn aDo aDp aDq aDr aDs aDt aDu
   replace HE:=HE2
   clear HE2
   go_region_held3 (fun w'=>w'.cell? ⟨w2.heap.size,0,none⟩=some (.bool s1)∧w'.cell? ⟨w2.heap.size,1,none⟩=some (.slice D1 m1 d1)∧w'.cell? ⟨w3.heap.size,0,none⟩=some (.bool s3)∧w'.cell? ⟨w3.heap.size,1,none⟩=some (.slice D3 m3 d3)∧w'.cell? ⟨w3.heap.size+1,0,none⟩=some (.bool s4)∧w'.cell? ⟨w3.heap.size+1,1,none⟩=some (.slice D4 m4 d4)∧w'.cell? ⟨w2.heap.size+1,0,none⟩=some (.bool s6)∧w'.cell? ⟨w2.heap.size+1,1,none⟩=some (.slice D6 m6 d6)∧w'.cell? ⟨gm,0,none⟩=some (.bool sx)∧w'.cell? ⟨gm,1,none⟩=some (.slice Ax nx cx)∧w'.cell? ⟨w4.heap.size,0,none⟩=some (.bool s7)∧w'.cell? ⟨w4.heap.size,1,none⟩=some (.slice D7 m7 d7)) (with_reducible first | exact bG.c6 HE | exact bG.c6 HE.drew | exact bG.c6 HK)
    (first
     | (go_at_call 196; refine (XE (by with_reducible first | exact HE | exact HE.drew) (by repeat (first | exact .head _ | assumption | refine .tail _ ?_)) (by repeat (first | exact .head _ | assumption | refine .tail _ ?_)) (by omega) HL.out.2.2.2).mono ?_; rintro e wn ⟨sx,Ax,nx,cx,rfl,HE⟩)
     | (go_at_call 91; refine (Su (by with_reducible first | exact HE | exact HE.drew) (by repeat (first | exact .head _ | assumption | refine .tail _ ?_)) (by repeat (first | exact .head _ | assumption | refine .tail _ ?_)) (by omega)).mono ?_; rintro e wn ⟨sx,Ax,nx,cx,rfl,HE⟩)
     | (go_at_call 86; refine (aif (by with_reducible first | exact HE | exact HE.drew) (by repeat (first | exact .head _ | assumption | refine .tail _ ?_)) (by repeat (first | exact .head _ | assumption | refine .tail _ ?_)) HL.out.1 HL.out.2.1).mono ?_; rintro e w8 ⟨sx,Ax,nx,cx,Ay,ny,cy,rfl,HE⟩; have HK:=HE.tK (D:=Ax) (m:=nx) (d:=cx) (.head _) sx (.slice Ay ny cy); obtain ⟨z0,z1,z2,z3,z4,z5⟩:=HE.c3 (.head _)))
   go_wp2_with fail
   refine bodyPost_ret (v := .agg #[.bool sx,.slice Ax nx cx,.slice Ay ny cy]) (by simp [results,Tryz.results147,go_sem,z0,z1,z2]) rfl ?_
   have HF:=HK.bare.hd (fun hh=>fJ.tight hh HP.out.1 HP.out.2)
   exact ⟨_,_,_,_,_,_,_,rfl,HF.pick (fun _ he => .tail _ (.tail _ (.tail _ (.tail _ (.tail _ (.tail _ (.tail _ (.tail _ (.tail _ (.tail _ (.tail _ (he)))))))))))) (fun _ he=>he)⟩
end
end Go.Proofs.YtbihljnjaondcaaGreatDoor
