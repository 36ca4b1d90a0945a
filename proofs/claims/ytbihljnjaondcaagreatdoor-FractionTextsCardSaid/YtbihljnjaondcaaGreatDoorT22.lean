/- Part of a proof, said shortly. -/
import Derived.Test.YtbihljnjaondcaaGreatDoorAlt
import Derived.Test.YtbihljnjaondcaaGreatDoorT21
import Derived.Test.YtbihljnjaondcaaGreatDoorT20
import Derived.Test.YtbihljnjaondcaaGreatDoorT14
import Derived.Test.YtbihljnjaondcaaGreatDoorT4
import Derived.Test.YtbihljnjaondcaaGreatDoorT3
import Derived.Test.YtbihljnjaondcaaGreatDoorT2
import Derived.Test.YtbihljnjaondcaaGreatDoorT1
import Derived.Test.YtbihljnjaondcaaGreatDoorT13
import Derived.Test.YtbihljnjaondcaaGreatDoorT9
import Derived.Test.YtbihljnjaondcaaGreatDoorT8
import Derived.Test.YtbihljnjaondcaaGreatDoorT6
import Derived.Test.YtbihljnjaondcaaGreatDoorT5
import Derived.Test.YtbihljnjaondcaaGreatDoorT7
import Derived.Test.YtbihljnjaondcaaGreatDoorT19
import Derived.Test.YtbihljnjaondcaaGreatDoorT18
import Derived.Test.YtbihljnjaondcaaGreatDoorT16
import Derived.Test.YtbihljnjaondcaaGreatDoorT15
import Derived.Test.YtbihljnjaondcaaGreatDoorT17
import Derived.Test.YtbihljnjaondcaaGreatDoorT10
import Derived.Test.YtbihljnjaondcaaGreatDoorT11
import Derived.Test.YtbihljnjaondcaaGreatDoorT12
namespace Lw
open Go Go.RowKit
theorem bcl {N:Nat} (h0:N≠0) (h:N < 4294967296):(Uy N).length=1∧dg (Uy N) 0=N:=by
 rw [a7v h0 h]; exact ⟨rfl,rfl⟩
theorem w64 {z:Int} (h1 : -9223372036854775808≤z) (h2:z≤9223372036854775807):IntKind.i64.wrap z=z:=by rw [IntKind.wrap_i64]; omega
def shQ (q:Rat):Bool:=shN q.num.natAbs&&shN (dn q)
theorem a8r {q:Rat} (h:shQ q=true):q.num.natAbs < 2147483648∧q.den < 2147483648:=by
 have h1:shN q.num.natAbs=true∧shN (dn q)=true:=by simpa [shQ] using h
 unfold shN at h1
 exact ⟨of_decide_eq_true h1.1,bik (of_decide_eq_true h1.2)⟩
end Lw
namespace Go.Proofs.YtbihljnjaondcaaGreatDoor
open Go Go.RowKit Lw
section
variable {W0 w:World} {bs:List Bx} {L:List En} {ts:List Bt} {M:List Qn} {s s':Bool} {A A' B B':Option Addr} {n c n' c' m d m' d' k k':Nat} {q r:Rat} {x y:Int}
set_option maxRecDepth 100000 in
set_option maxHeartbeats 1600000 in
theorem bfm (HE:Uz W0 w bs L ts M) (h:⟨.agg #[.bool s,.slice A n c,.slice A' n' c'],q,k,true⟩∈M) (h1:q.num.natAbs < 2147483648) (h2:q.den < 2147483648) :
  Calls Tryz.prog 227 #[.agg #[.bool s,.slice A n c,.slice A' n' c']] w fun e w'=>e = .returned (.agg #[.int .i64 q.num,.int .i64 (q.den:Int)])∧Uz W0 w' bs L ts M:=by
 suffices hs:Calls Tryz.prog 227 #[.agg #[.bool s,.slice A n c,.slice A' n' c']] w (fun e w'=>e = .returned (.agg #[.int .i64 q.num,.int .i64 (q.den:Int)])∧Uz w w' [] L [] M) from hs.mono fun _ _ hh=>⟨hh.1,HE.back hh.2⟩
 have H1:=(HE.here.ae' (.bool s) (.slice A n c) (.slice A' n' c')).alloc (.cells #[.int .i64 0,.int .i64 0] 150)
 obtain ⟨hs,hn,hn',r1,r2,-⟩:=(H1.fr _ h).own
 by_cases hq:q=0
 ·obtain rfl:=(a3r hn).2 hq
  obtain ⟨e0,e1,e2,e3,e4,e5⟩:=H1.c3 (.head _)
  have HQ:=Lib.hid (show q.num=0∧q.den=1 by subst hq; exact ⟨rfl,rfl⟩)
  clear hs hn hn' r1 r2 hq h1 h2
  have H2:=(HE.here.ae' (.bool s) (.slice A 0 c) (.slice A' n' c')).alloc (.cells #[.int .i64 0,.int .i64 1] 150)
  go_enter Tryz.func227,Tryz.ntmps227
  go_wp2_with fail
  refine bodyPost_ret (v := .agg #[.int .i64 0,.int .i64 1]) (by simp [results,Tryz.results227,go_sem]) rfl ?_
  rw [HQ.out.1,HQ.out.2]
  exact ⟨rfl,H2.bare⟩
 ·have hN0:q.num.natAbs≠0:=fun e=>hq (Rat.num_eq_zero.1 (Int.natAbs_eq_zero.1 e))
  rw [a6N hq] at hn' r2
  unfold rn at hn r1
  obtain ⟨l1,g1⟩:=bcl hN0 (by omega)
  obtain ⟨l2,g2⟩:=bcl q.den_nz (by omega)
  rw [l1] at hn
  rw [l2] at hn'
  obtain ⟨b,off,rfl,-,hcell,-⟩:=r1.at_ (k:=0) (by omega)
  obtain ⟨b',off',rfl,-,hcell',-⟩:=r2.at_ (k:=0) (by omega)
  rw [g1,Nat.add_zero] at hcell
  rw [g2,Nat.add_zero] at hcell'
  subst hn hn'
  obtain ⟨N,hN⟩ : ∃ N,N=q.num.natAbs:=⟨_,rfl⟩
  obtain ⟨D,hD⟩ : ∃ D,D=q.den:=⟨_,rfl⟩
  rw [← hN] at hcell h1
  rw [← hD] at hcell' h2
  have u1:IntKind.i64.wrap (N:Int)=(N:Int):=w64 (by omega) (by omega)
  have u2:IntKind.i64.wrap (D:Int)=(D:Int):=w64 (by omega) (by omega)
  have u3:IntKind.i64.wrap (-(N:Int)) = -(N:Int):=w64 (by omega) (by omega)
  obtain ⟨e0,e1,e2,e3,e4,e5⟩:=H1.c3 (.head _)
  by_cases hneg:q.num < 0
  ·have HQ:=Lib.hid (show -(N:Int)=q.num∧(D:Int)=(q.den:Int) from ⟨by omega,by omega⟩)
   obtain rfl:s=true:=by rw [hs]; exact decide_eq_true hneg
   have H2:=(HE.here.ae' (.bool true) (.slice (some ⟨b,off,none⟩) 1 c) (.slice (some ⟨b',off',none⟩) 1 c')).alloc (.cells #[.int .i64 (-(N:Int)),.int .i64 (D:Int)] 150)
   clear hs r1 r2 hq hN0 l1 g1 l2 g2 hN hD hneg
   go_enter Tryz.func227,Tryz.ntmps227
   go_wp2_with fail
   go_region
   go_wp2_with fail
   refine bodyPost_ret (v := .agg #[.int .i64 (-(N:Int)),.int .i64 (D:Int)]) (by simp [results,Tryz.results227,go_sem]) rfl ?_
   rw [← HQ.out.1,← HQ.out.2]
   exact ⟨rfl,H2.drew.bare⟩
  ·have HQ:=Lib.hid (show (N:Int)=q.num∧(D:Int)=(q.den:Int) from ⟨by omega,by omega⟩)
   obtain rfl:s=false:=by rw [hs]; exact decide_eq_false hneg
   have H2:=(HE.here.ae' (.bool false) (.slice (some ⟨b,off,none⟩) 1 c) (.slice (some ⟨b',off',none⟩) 1 c')).alloc (.cells #[.int .i64 (N:Int),.int .i64 (D:Int)] 150)
   clear hs r1 r2 hq hN0 l1 g1 l2 g2 hN hD hneg
   go_enter Tryz.func227,Tryz.ntmps227
   go_wp2_with fail
   go_region
   go_wp2_with fail
   refine bodyPost_ret (v := .agg #[.int .i64 (N:Int),.int .i64 (D:Int)]) (by simp [results,Tryz.results227,go_sem]) rfl ?_
   rw [← HQ.out.1,← HQ.out.2]
   exact ⟨rfl,H2.drew.bare⟩
theorem a7P {N B:Nat} (hr:Rd w B A (Uy N)) (hn:n=(Uy N).length) (hk:n≤100000) :
  Calls Tryz.prog 226 #[.slice A n c] w fun e w'=>e = .returned (.bool (shN N))∧w=w':=by
 refine (bkk A (Uy N) n c _ w hr hn.symm (by omega)).mono fun e w' ⟨b,h1,h2,h3⟩ => ?_
 refine ⟨?_,h3⟩
 rw [h1]
 congr 2
 rw [Bool.eq_iff_iff,h2,hn,bh6]
 unfold shN
 rw [decide_eq_true_iff]
def shV (b:Bool) (q r:Rat):Value:=if b then .tuple #[.agg #[.int .i64 q.num,.int .i64 (q.den:Int)],.agg #[.int .i64 r.num,.int .i64 (r.den:Int)],.bool true] else .tuple #[.agg #[.int .i64 0,.int .i64 0],.agg #[.int .i64 0,.int .i64 0],.bool false]
theorem bnO (q r:Rat):shV true q r = .tuple #[.agg #[.int .i64 q.num,.int .i64 (q.den:Int)],.agg #[.int .i64 r.num,.int .i64 (r.den:Int)],.bool true]:=rfl
theorem bnN (q r:Rat):shV false q r = .tuple #[.agg #[.int .i64 0,.int .i64 0],.agg #[.int .i64 0,.int .i64 0],.bool false]:=rfl
set_option maxRecDepth 100000 in
set_option maxHeartbeats 2400000 in
theorem bfn (HE:Uz W0 w bs L ts M) (h:⟨.agg #[.bool s,.slice A n c,.slice A' n' c'],q,k,true⟩∈M) (h':⟨.agg #[.bool s',.slice B m d,.slice B' m' d'],r,k',true⟩∈M) (hk:k+k'≤100000) :
  Calls Tryz.prog 194 #[.agg #[.bool s,.slice A n c,.slice A' n' c'],.agg #[.bool s',.slice B m d,.slice B' m' d']] w fun e w'=>e = .returned (shV (shQ q&&shQ r) q r)∧Uz W0 w' bs L ts M:=by
 suffices hs:Calls Tryz.prog 194 #[.agg #[.bool s,.slice A n c,.slice A' n' c'],.agg #[.bool s',.slice B m d,.slice B' m' d']] w (fun e w'=>e = .returned (shV (shQ q&&shQ r) q r)∧Uz w w' [] L [] M) from hs.mono fun _ _ hh=>⟨hh.1,HE.back hh.2⟩
 have H1:=(((HE.here.ae' (.bool s) (.slice A n c) (.slice A' n' c')).ae' (.bool s') (.slice B m d) (.slice B' m' d')).alloc (.cells #[.int .i64 0,.int .i64 0] 150)).alloc (.cells #[.int .i64 0,.int .i64 0] 150)
 have TA:=(Two.new ((w.alloc (.cells #[.bool s,.slice A n c,.slice A' n' c'] 24)).alloc (.cells #[.bool s',.slice B m d,.slice B' m' d'] 24)) 150 (.int .i64 0) (.int .i64 0)).alloc (.cells #[.int .i64 0,.int .i64 0] 150)
 have TB:=Two.new (((w.alloc (.cells #[.bool s,.slice A n c,.slice A' n' c'] 24)).alloc (.cells #[.bool s',.slice B m d,.slice B' m' d'] 24)).alloc (.cells #[.int .i64 0,.int .i64 0] 150)) 150 (.int .i64 0) (.int .i64 0)
 simp only [World.size_alloc] at H1 TA TB
 obtain ⟨-,hn,hn',r1,r2,hl1,hl2,-⟩:=(H1.fr _ h).own
 obtain ⟨-,hm,hm',r3,r4,hl3,hl4,-⟩:=(H1.fr _ h').own
 rw [bmE] at hn' r2 hm' r4
 unfold rn at hn r1 hm r3
 have c1:=Lib.hid (a7P (c:=c) r1 hn (by omega))
 have c2:=Lib.hid (a7P (c:=c') r2 hn' (by omega))
 have c3:=Lib.hid (a7P (c:=d) r3 hm (by omega))
 have c4:=Lib.hid (a7P (c:=d') r4 hm' (by omega))
 have hq1:shQ q=true→q.num.natAbs < 2147483648∧q.den < 2147483648:=a8r
 have hq2:shQ r=true→r.num.natAbs < 2147483648∧r.den < 2147483648:=a8r
 obtain ⟨e0,e1,e2,e3,e4,e5⟩:=H1.c3 (.tail _ (.head _))
 obtain ⟨f0,f1,f2,f3,f4,f5⟩:=H1.c3 (.head _)
 unfold shQ at hq1 hq2 ⊢
 generalize shN q.num.natAbs=b1 at *
 generalize shN (dn q)=b2 at *
 generalize shN r.num.natAbs=b3 at *
 generalize shN (dn r)=b4 at *
 have HQ1:=Lib.hid hq1
 have HQ2:=Lib.hid hq2
 clear hn hn' hm hm' r1 r2 r3 r4 hl1 hl2 hl3 hl4 hq1 hq2
 cases b1
 ·go_enter btB,btC
  go_wp2_with fail
  refine c1.out.mono ?_
  rintro e w1 ⟨rfl,rfl⟩
  go_wp2_with fail
  refine bodyPost_ret (v := .tuple #[.agg #[.int .i64 0,.int .i64 0],.agg #[.int .i64 0,.int .i64 0],.bool false]) (by simp [results,Tryz.results194,go_sem]) rfl ?_
  exact ⟨rfl,H1.bare⟩
 cases b2
 ·go_enter btB,btC
  go_wp2_with fail
  refine c1.out.mono ?_
  rintro e w1 ⟨rfl,rfl⟩
  go_wp2_with fail
  refine c2.out.mono ?_
  rintro e w1 ⟨rfl,rfl⟩
  go_wp2_with fail
  refine bodyPost_ret (v := .tuple #[.agg #[.int .i64 0,.int .i64 0],.agg #[.int .i64 0,.int .i64 0],.bool false]) (by simp [results,Tryz.results194,go_sem]) rfl ?_
  exact ⟨rfl,H1.bare⟩
 cases b3
 ·go_enter btB,btC
  go_wp2_with fail
  refine c1.out.mono ?_
  rintro e w1 ⟨rfl,rfl⟩
  go_wp2_with fail
  refine c2.out.mono ?_
  rintro e w1 ⟨rfl,rfl⟩
  go_wp2_with fail
  refine c3.out.mono ?_
  rintro e w1 ⟨rfl,rfl⟩
  go_wp2_with fail
  refine bodyPost_ret (v := .tuple #[.agg #[.int .i64 0,.int .i64 0],.agg #[.int .i64 0,.int .i64 0],.bool false]) (by simp [results,Tryz.results194,go_sem]) rfl ?_
  exact ⟨rfl,H1.bare⟩
 cases b4
 ·go_enter btB,btC
  go_wp2_with fail
  refine c1.out.mono ?_
  rintro e w1 ⟨rfl,rfl⟩
  go_wp2_with fail
  refine c2.out.mono ?_
  rintro e w1 ⟨rfl,rfl⟩
  go_wp2_with fail
  refine c3.out.mono ?_
  rintro e w1 ⟨rfl,rfl⟩
  go_wp2_with fail
  refine c4.out.mono ?_
  rintro e w1 ⟨rfl,rfl⟩
  go_wp2_with fail
  refine bodyPost_ret (v := .tuple #[.agg #[.int .i64 0,.int .i64 0],.agg #[.int .i64 0,.int .i64 0],.bool false]) (by simp [results,Tryz.results194,go_sem]) rfl ?_
  exact ⟨rfl,H1.bare⟩
 go_enter btB,btC
 go_wp2_with fail
 refine c1.out.mono ?_
 rintro e w1 ⟨rfl,rfl⟩
 go_wp2_with fail
 refine c2.out.mono ?_
 rintro e w1 ⟨rfl,rfl⟩
 go_wp2_with fail
 refine c3.out.mono ?_
 rintro e w1 ⟨rfl,rfl⟩
 go_wp2_with fail
 refine c4.out.mono ?_
 rintro e w1 ⟨rfl,rfl⟩
 go_wp2_with fail
 have HE:=H1
 go_region_held3 (fun w'=>w'.cell? ⟨w.heap.size,0,none⟩=some (.bool s)∧w'.cell? ⟨w.heap.size,1,none⟩=some (.slice A n c)∧w'.cell? ⟨w.heap.size,2,none⟩=some (.slice A' n' c')∧w'.cell? ⟨w.heap.size+1,0,none⟩=some (.bool s')∧w'.cell? ⟨w.heap.size+1,1,none⟩=some (.slice B m d)∧w'.cell? ⟨w.heap.size+1,2,none⟩=some (.slice B' m' d')) (with_reducible first | exact Uz.t2 HE | exact Uz.t2 HE.drew | exact Uz.t2 HK | exact Uz.t2 HK1)
  (first
   | (go_at_call 227; have _:=HN1; refine (bfm (Uz.here (by with_reducible first | exact HE | exact HE.drew)) h' (HQ2.out rfl).1 (HQ2.out rfl).2).mono ?_; rintro e wm ⟨rfl,HN2⟩; replace TA:=TA.next HN2.below; replace TB:=TB.next HN2.below; have HE:=Uz.back (by with_reducible first | exact HE | exact HE.drew) HN2; obtain ⟨a0,a1,a2,a3⟩:=TA.facts; obtain ⟨b0,b1,b2,b3⟩:=TB.facts; have HK1:=HE.sh1 TA (by omega) q.num (q.den:Int) rfl; have HK:=HK1.sh1 ((TB.far (p:=⟨w.heap.size+1+1,0,none⟩) (by simp) _).far (p:=⟨w.heap.size+1+1,1,none⟩) (by simp) _) (by omega) r.num (r.den:Int) rfl)
   | (go_at_call 227; refine (bfm (Uz.here (by with_reducible first | exact HE | exact HE.drew)) h (HQ1.out rfl).1 (HQ1.out rfl).2).mono ?_; rintro e wn ⟨rfl,HN1⟩; replace TA:=TA.next (azl HN1.below); replace TB:=TB.next (azl HN1.below); have HE:=Uz.back (by with_reducible first | exact HE | exact HE.drew) HN1))
 have TA1:=((TA.put (.int .i64 q.num) (.int .i64 (q.den:Int))).far (p:=⟨w.heap.size+1+1+1,0,none⟩) (by simp) (.int .i64 r.num)).far (p:=⟨w.heap.size+1+1+1,1,none⟩) (by simp) (.int .i64 (r.den:Int))
 have TB1:=((TB.far (p:=⟨w.heap.size+1+1,0,none⟩) (by simp) (.int .i64 q.num)).far (p:=⟨w.heap.size+1+1,1,none⟩) (by simp) (.int .i64 (q.den:Int))).put (.int .i64 r.num) (.int .i64 (r.den:Int))
 go_wp2_with fail
 obtain ⟨x0,x1,-,-⟩:=TA1.facts
 obtain ⟨y0,y1,-,-⟩:=TB1.facts
 refine bodyPost_ret (v := .tuple #[.agg #[.int .i64 q.num,.int .i64 (q.den:Int)],.agg #[.int .i64 r.num,.int .i64 (r.den:Int)],.bool true]) (by simp [results,Tryz.results194,go_sem,x0,x1,y0,y1]) rfl ?_
 exact ⟨rfl,HK.bare⟩
end
end Go.Proofs.YtbihljnjaondcaaGreatDoor
namespace Lw
open Go
theorem bdT {a b:Int} (h1:a.natAbs < 2147483648) (h2:b.natAbs < 2147483648):(a*b).natAbs≤4611686014132420609:=by
 rw [Int.natAbs_mul]
 exact Nat.mul_le_mul (show a.natAbs≤2147483647 by omega) (show b.natAbs≤2147483647 by omega)
end Lw
namespace Lw
open Go
theorem bkN {q r:Rat} {k k':Nat} (h1:q.num.natAbs < pw k∧q.den < pw (k+1)) (h2:r.num.natAbs < pw k'∧r.den < pw (k'+1)):(q*r).num.natAbs < pw (k+k'+2)∧(q*r).den < pw (k+k'+2):=by
 have hb:=bkK q r
 have e1:=Nat.mul_lt_mul'' h1.1 h2.1
 have e3:=Nat.mul_lt_mul'' h1.2 h2.2
 rw [← a2t] at e1 e3
 rw [show k+1+(k'+1)=k+k'+2 by omega] at e3
 have e4:pw (k+k')≤pw (k+k'+2):=ajj (by omega)
 omega
theorem Fop.weak {w:World} {v:Value} {q:Rat} {k K:Nat} {b:Bool} (h:Fop w ⟨v,q,k,b⟩) (hk:k≤K):Fop w ⟨v,q,K,b⟩:=by
 obtain ⟨s,A,n,c,A',n',c',ns,ms,e1,r1,r2,e2,e3,e4,e5,e6⟩:=h
 exact ⟨s,A,n,c,A',n',c',ns,ms,e1,r1,r2,e2,e3,Nat.le_trans e4 hk,Nat.le_trans e5 hk,e6⟩
end Lw
namespace Go.Proofs.YtbihljnjaondcaaGreatDoor
open Go Go.RowKit Lw
section
variable {W0 w:World} {bs:List Bx} {L:List En} {ts:List Bt} {M:List Qn} {s s':Bool} {A A' B B':Option Addr} {n c n' c' m d m' d' k k':Nat} {q r:Rat} {x y:Int}
theorem Uz.tlq {e:Qn} (h:Uz W0 w bs L ts (e :: M)):Uz W0 w bs L ts M:=⟨h.env,fun e' he=>h.fr e' (.tail _ he),h.tri,h.tz,h.tab,h.lo,h.lot⟩
theorem Uz.hd {v:Value} {q:Rat} {k K:Nat} {b:Bool} (h:Uz W0 w bs L ts (⟨v,q,k,b⟩ :: M)) (hk:Fop w ⟨v,q,k,b⟩→Fop w ⟨v,q,K,b⟩):Uz W0 w bs L ts (⟨v,q,K,b⟩ :: M):=h.tlq.cons (hk (h.fr _ (.head _)))
theorem bmB (HE:Uz W0 w bs L ts M) (n1 : -9223372036854775808≤x) (n2:x≤9223372036854775807) (d0:0 < y) (d2:y≤9223372036854775807) :
  Calls Tryz.prog 150 #[.int .i64 x,.int .i64 y] w (akn W0 bs L ts M (Rat.divInt x y) 2):=by
 refine (bey x y w n1 n2 (by omega) d2 (by omega) (HE.tz.next HE.below)).mono fun e w' hh => ?_
 obtain ⟨A,c,A',c',rfl,hc,hc',hr,hr',hb⟩:=hh
 have hl:=bcq (n:=x) d0
 have hp:pw 2=18446744073709551616:=rfl
 exact ⟨_,_,_,_,_,_,_,rfl,(HE.next hb).cons (baB hr hr' (a1t (by omega)) (baj (by omega)) hc hc')⟩
end
end Go.Proofs.YtbihljnjaondcaaGreatDoor
