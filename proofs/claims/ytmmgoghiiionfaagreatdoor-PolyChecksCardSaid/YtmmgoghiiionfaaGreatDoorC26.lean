/- Part of a proof, said shortly. -/
import Derived.OpenShut
import Derived.Test.YtmmgoghiiionfaaGreatDoorAlz
import Derived.Test.YtmmgoghiiionfaaGreatDoorC11
import Derived.Test.YtmmgoghiiionfaaGreatDoorC10
import Derived.Test.YtmmgoghiiionfaaGreatDoorC9
import Derived.Test.YtmmgoghiiionfaaGreatDoorC25
import Derived.Test.YtmmgoghiiionfaaGreatDoorC20
import Derived.Test.YtmmgoghiiionfaaGreatDoorC19
import Derived.Test.YtmmgoghiiionfaaGreatDoorC18
import Derived.Test.YtmmgoghiiionfaaGreatDoorC17
import Derived.Test.YtmmgoghiiionfaaGreatDoorC16
import Derived.Test.YtmmgoghiiionfaaGreatDoorC15
import Derived.Test.YtmmgoghiiionfaaGreatDoorC8
import Derived.Test.YtmmgoghiiionfaaGreatDoorC7
import Derived.Test.YtmmgoghiiionfaaGreatDoorC4
import Derived.Test.YtmmgoghiiionfaaGreatDoorC2
import Derived.Test.YtmmgoghiiionfaaGreatDoorC1
import Derived.Test.YtmmgoghiiionfaaGreatDoorC3
import Derived.Test.YtmmgoghiiionfaaGreatDoorC6
import Derived.Test.YtmmgoghiiionfaaGreatDoorC5
import Derived.Test.YtmmgoghiiionfaaGreatDoorC14
import Derived.Test.YtmmgoghiiionfaaGreatDoorC12
import Derived.Test.YtmmgoghiiionfaaGreatDoorC13
import Derived.Test.YtmmgoghiiionfaaGreatDoorC24
import Derived.Test.YtmmgoghiiionfaaGreatDoorC23
import Derived.Test.YtmmgoghiiionfaaGreatDoorC22
import Derived.Test.YtmmgoghiiionfaaGreatDoorC21
set_option linter.unusedVariables false
set_option linter.unusedSimpArgs false
namespace Go.Proofs.AZQ
open Go Go.RowKit Lw bJ
section
variable {W0 w:World} {U:List Box} {Ps:List (World->Prop)}
theorem Va{α:Type}{R:α->List Value->World->Prop}{sz n c:Nat}{A:Option Addr}{vs:List Value}{xs:List α}{w:World}(h:FL R sz (.slice A n c) vs xs w):RL R sz (vs,xs) [.slice A n c] w:=⟨A,n,c,rfl,h⟩
theorem SI{α:Type}[DecidableEq α]{z:α}{xs:List α} : (fQ z xs).length<=xs.length:=by
 unfold fQ;rw [List.length_reverse];have:=(List.dropWhile_suffix (fun x=>decide (x=z)) (l:=xs.reverse)).length_le
 simpa using this
set_option maxRecDepth 100000 in
set_option maxHeartbeats 400000 in
theorem aaP(HT:Tz W0)(HB:Tab W0){A1:Option Addr}{n1 c1:Nat}{vs1:List Value}{bz:List (Rat×Bool)}{k1:Nat}(HS:St W0 U Ps w)(f1:fC U w (FL (dL k1) 3 (.slice A1 n1 c1) vs1 bz))  : bP Tryz.prog 3 [.slice A1 n1 c1] w (dB W0 U Ps (.bool true)):=by
 obtain ⟨HS,hn1⟩:=HS.arg f1;clear f1;refine fD ahd rfl Tryz.ntmps3 rfl<|Js<|La rfl<|Jn<|JC.seq<|Js<|Lm rfl<|JL.buildSlice (vs:=[.slice A1 n1 c1]) HS rfl (fun a ha=>ha.jE rfl) Tryz.runUnderlying80 Tryz.sizeOf23 Tryz.zeroValue23 rfl rfl ah rfl (fun g21 jU HS => ?_);have HS:=HS.iC 1 rfl (fun _ h=>Va (R:=dL k1) (h));have HS:=HS.iC 0 rfl (fun _ h=>EL.one h rfl);have HS:=HS.freeze 0 rfl 0 rfl (n:=1) (c:=1) (by first | omega | (simp <;> omega)) af;refine JL.call rfl rfl Tryz.call12 (aa8 HT HB HS (HS.dJ 0 rfl) (by first | omega | decide))<|?_;rintro v22 Jm ⟨Hl,rfl,Gi,HS⟩;have Gi:Hl=true -> ∀ j,j<1->sS (el ([(vs1,bz)]) j):=Gi;refine Lz (.bool (!Hl)) (fun a ha=>kE (ha.ev rfl))<|?_
 cases Hl
 ·skip
  refine Lm rfl<|Lq<|Lq<|Lt rfl rfl<|Jn<|JC.dh rfl<|Js<|JL.call rfl rfl Tryz.call13 (Qj HT HB HS)<|?_;rintro v24 Jp ⟨rfl,HS⟩;refine La rfl<|Jn<|Ja Tryz.results3 (.tmp rfl)<|?_;exact ⟨rfl,HS.o0 0 5⟩
 ·skip
  have hsh:sS (vs1,bz):=Gi rfl 0 af;have hnl:n1<=100:=hn1 ▸ hsh.1;have HS:=(HS.iC 4 rfl (fun _ h=>Un h hsh)).iC 4 rfl (fun _ h=>JU h hsh);refine Lm rfl<|JL.iH rfl rfl rfl rfl rfl rfl Tryz.call13 (Qj HT HB HS)<|?_;rintro v25 Dq ⟨rfl,HS⟩;refine bK (.bool false) (fun a ha=>kE (b:=true) (ha.ev rfl))<|Lf rfl rfl<|Jn<|JC.cO rfl<|Jk<|Js<|Lm rfl<|?_
  by_cases nU:dU bz=0
  ·skip
   refine JL.call rfl rfl Tryz.call14 (aba HT HB HS (HS.dJ 1 rfl) af af (LM nU))<|?_;rintro v27 Du ⟨rfl,HS⟩;refine Lm rfl<|Lx rfl rfl<|Lx rfl rfl<|La rfl<|La rfl<|Jn<|Js<|Lm rfl<|JL.call rfl rfl Tryz.call15 (acw HT HB HS (HS.dJ 1 rfl) af af nU)<|?_;rintro v28 TB ⟨rfl,HS⟩;refine Lm rfl<|Lx rfl rfl<|Lx rfl rfl<|La rfl<|La rfl<|Jn<|Js<|Lm rfl<|JL.call rfl rfl ahb (Qo HT HB HS (HS.dJ 1 rfl) af af (LM nU))<|?_;rintro v29 Jq ⟨rfl,HS⟩;refine JL.call rfl rfl ahe (G7 HS)<|?_;rintro v30 yB ⟨rfl,HS⟩;refine Lm rfl<|JL.call rfl rfl ahc (Rj HT HB HS (HS.dJ 1 rfl) af af nU)<|?_;rintro v31 Dw ⟨rfl,HS⟩;refine Lz (.bool true) (fun a ha=>gY (ha.ev rfl) (ha.ev rfl) ai)<|Lm rfl<|dI rfl<|JL.iH rfl rfl rfl rfl rfl rfl Tryz.call20 (Qy HT HB HS (HS.dJ 1 rfl) af af)<|?_;rintro v32 w32 ⟨DN,n32,c32,af0,rfl,HS⟩;have hn32:=FL.len (HS.at_ 1 rfl);have hL32:=hn32
   try simp only [List.length_append,ai6,aij,aiI] at hL32
   refine dI rfl<|JL.iH rfl rfl rfl rfl rfl rfl Tryz.call21 (Rl HT HB HS (HS.dJ 3 rfl) af af)<|?_;rintro v33 TC ⟨A33,n33,V9,af1,rfl,HS⟩;have Zd:=FL.len (HS.at_ 1 rfl);have Yz:=Zd
   try simp only [List.length_append,ai6,aij,aiI] at Yz
   refine JL.iH rfl rfl rfl rfl rfl rfl Tryz.call19 (Qu HT HB HS (HS.dJ 3 rfl) (HS.dJ 1 rfl) af (by rw [<- hL32];exact ahk SI (by simp only [aij,aiI];omega)) rfl)<|?_;rintro v34 TD ⟨rfl,HS⟩;refine Lt rfl rfl<|Lm rfl<|dI rfl<|JL.iH rfl rfl rfl rfl rfl rfl Tryz.call22 (Qp HT HB HS (HS.dJ 5 rfl) af af)<|?_;rintro v35 w35 ⟨rfl,HS⟩;refine dI rfl<|bK (aj n1) (fun a ha=>iL (ha.ev rfl) ags)<|bK (.int .i64 ((n1:Int)-1)) (fun a ha=>fF (ha.ev rfl) (ha.ev rfl) ((IntKind.wrap_i64 _).trans af))<|bK (.bool true) (fun a ha=>gY (ha.ev rfl) (ha.ev rfl) (by simp))<|Lt rfl rfl<|Lm rfl<|dI rfl<|JL.iH rfl rfl rfl rfl rfl rfl ahe (G7 HS)<|?_;rintro v36 w36 ⟨rfl,HS⟩;refine dI rfl<|bK (.bool true) (fun a ha=>gY (ha.ev rfl) (ha.ev rfl) ai)<|Lt rfl rfl<|Lm rfl<|dI rfl<|dI rfl<|bK (.bool true) (fun a ha=>yw (ha.ev rfl) (ha.ev rfl) (by simp))<|Lt rfl rfl<|La rfl<|Jn<|Ja Tryz.results3 (.tmp rfl)<|?_;exact ⟨rfl,HS.o0 0 11⟩
  ·skip
   refine JL.call rfl rfl Tryz.call14 (aa' HT HB HS (HS.dJ 1 rfl) af af nU)<|?_;rintro v37 w37 ⟨rfl,HS⟩;refine Lm rfl<|Lx rfl rfl<|Lx rfl rfl<|La rfl<|La rfl<|Jn<|Js<|Lm rfl<|JL.call rfl rfl Tryz.call15 (acv HT HB HS (HS.dJ 1 rfl) af af nU)<|?_;rintro v38 TE ⟨rfl,HS⟩;refine Lm rfl<|Lx rfl rfl<|Lx rfl rfl<|La rfl<|La rfl<|Jn<|Js<|Lm rfl<|JL.call rfl rfl ahb (Ql HT HB HS (HS.dJ 1 rfl) af af nU)<|?_;rintro v39 w39 ⟨rfl,HS⟩;refine JL.call rfl rfl ahe (PZ HS (dU bz))<|?_;rintro v40 TG ⟨rfl,HS⟩;refine Lm rfl<|JL.call rfl rfl ahc (Iu HT HB HS (HS.dJ 1 rfl) af af)<|?_;rintro v41 w41 ⟨rfl,HS⟩;refine Lz (.bool true) (fun a ha=>gY (ha.ev rfl) (ha.ev rfl) (by simp))<|Lm rfl<|dI rfl<|JL.iH rfl rfl rfl rfl rfl rfl Tryz.call20 (Qy HT HB HS (HS.dJ 1 rfl) af af)<|?_;rintro v42 w42 ⟨A42,n42,c42,af2,rfl,HS⟩;have Ze:=FL.len (HS.at_ 1 rfl);have Ny:=Ze
   try simp only [List.length_append,ai6,aij,aiI] at Ny
   refine dI rfl<|JL.iH rfl rfl rfl rfl rfl rfl Tryz.call21 (Rl HT HB HS (HS.dJ 3 rfl) af af)<|?_;rintro v43 w43 ⟨A43,n43,c43,af4,rfl,HS⟩;have hn43:=FL.len (HS.at_ 1 rfl);have YA:=hn43
   try simp only [List.length_append,ai6,aij,aiI] at YA
   refine JL.iH rfl rfl rfl rfl rfl rfl Tryz.call19 (Qu HT HB HS (HS.dJ 3 rfl) (HS.dJ 1 rfl) af (by rw [<- Ny];exact ahk SI (by simp only [aij,aiI];omega)) rfl)<|?_;rintro v44 w44 ⟨rfl,HS⟩;refine Lt rfl rfl<|Lm rfl<|dI rfl<|JL.iH rfl rfl rfl rfl rfl rfl Tryz.call22 (Qp HT HB HS (HS.dJ 5 rfl) af af)<|?_;rintro v45 w45 ⟨rfl,HS⟩;refine dI rfl<|bK (aj n1) (fun a ha=>iL (ha.ev rfl) ags)<|bK (.int .i64 ((n1:Int)-1)) (fun a ha=>fF (ha.ev rfl) (ha.ev rfl) ((IntKind.wrap_i64 _).trans af))<|bK (.bool true) (fun a ha=>gY (ha.ev rfl) (ha.ev rfl) (by simp))<|Lt rfl rfl<|Lm rfl<|dI rfl<|JL.iH rfl rfl rfl rfl rfl rfl ahe (PZ HS (dU bz))<|?_;rintro v46 w46 ⟨rfl,HS⟩;refine dI rfl<|bK (.bool true) (fun a ha=>gY (ha.ev rfl) (ha.ev rfl) (by simp))<|Lt rfl rfl<|Lm rfl<|dI rfl<|dI rfl<|bK (.bool true) (fun a ha=>yw (ha.ev rfl) (ha.ev rfl) (by simp))<|Lt rfl rfl<|La rfl<|Jn<|Ja Tryz.results3 (.tmp rfl)<|?_;exact ⟨rfl,HS.o0 0 11⟩
end
end Go.Proofs.AZQ
namespace bJ
open Go Go.RowKit
theorem MR{α:Type}{Q:Nat->α->Nat->Prop}(hm : ∀ i x k k',k<=k'->Q i x k->Q i x k') : ∀ n,(∀ i,i<n -> ∃ x k,Q i x k) -> ∃ (xs:List α) (K:Nat),xs.length=n /\ ∀ i x,xs[i]? = some x->Q i x K
 | 0,_=>⟨[],0,rfl,fun i x h=>by simp at h⟩
 | n+1,h=>by
  obtain ⟨xs,K,hl,hx⟩:=MR hm n (fun i hi=>h i af);obtain ⟨x,k,hq⟩:=h n af;refine ⟨xs++[x],max K k,by simp [hl],fun i y hy => ?_⟩
  by_cases hi:i<n
  ·rw [ah4 af] at hy
   exact hm _ _ _ _ (Nat.le_max_left _ _) (hx i y hy)
  ·have hlt:=(ahy.1 hy).1
   simp at hlt;obtain rfl:i=n:=af;rw [aje af,hl,Nat.sub_self] at hy;obtain rfl:x=y:=by simpa using hy
   exact hm _ _ _ _ (Nat.le_max_right _ _) hq
theorem cells_at{W:World}{base n:Nat}{a:Addr}{cs:List Value}(h:W.cells? base a n=some cs)(hn:0<n) : ∃ g off c t fz,a=⟨g,off,none⟩/\W.heap[g]? = some (.cells c t fz)/\off+n<=c.size/\(c.toList.drop off).take n=cs:=by
 obtain ⟨_,hl,hc⟩:=World.cells?_some h;obtain ⟨g,off,spot⟩:=a;have get : ∀ i,i<n -> ∃ v,W.cell? ((⟨g,off,spot⟩:Addr).add i)=some v:=fun i hi=>⟨cs[i]'af,by rw [hc i hi];exact ahR _⟩;obtain ⟨v0,h0⟩:=get 0 hn;have hspot:spot=none:=by simpa [Addr.add] using World.cell?_spot h0
 subst hspot;have hadd : ∀ i,(⟨g,off,none⟩:Addr).add i=⟨g,off+i,none⟩:=fun i=>by unfold Addr.add;split <;> simp_all
 have hb : ∃ c t fz,W.heap[g]? = some (.cells c t fz):=by
  rw [hadd] at h0;unfold World.cell? at h0
  split at h0
  ·rename_i c t fz hg;exact ⟨c,t,fz,hg⟩
  ·cases h0
 obtain ⟨c,t,fz,hg⟩:=hb;have hcell : ∀ i,W.cell? ⟨g,off+i,none⟩=c[off+i]? := fun i=>by unfold World.cell?;simp only [hg];simp
 have hsz:off+n<=c.size:=by
  obtain ⟨v,hv⟩:=get (n-1) af;rw [hadd,hcell] at hv;have:=(ahD.1 hv).1;omega
 refine ⟨g,off,c,t,fz,rfl,hg,hsz,aiw fun i => ?_⟩
 by_cases hi:i<n
 ·rw [ahQ,if_pos hi,aib,ais,<- hcell,<- hadd,hc i hi]
 ·rw [ahX (by simp;omega),ahX af]
theorem adz{α:Type}{R:Nat->α->List Value->World->Prop}{W:World}{a:Addr}{len cap sz base:Nat}(hs:0<sz)(hcap:len<=cap)(hm : ∀ k k' x cs,k<=k'->R k x cs W->R k' x cs W)(h : ∀ i,i<len -> ∃ cs x k,W.cells? base (a.add (i*sz)) sz=some cs/\R k x cs W) : ∃ (vs:List Value) (xs:List α) (K:Nat),FL (R K) sz (.slice (some a) len cap) vs xs W:=by
 by_cases h0:len=0
 ·subst h0
  exact ⟨[],[],0,some a,0,cap,rfl,rfl,hcap,.inl rfl,EL.nil _ _ _⟩
 have at_ : ∀ i,i<len -> ∃ g off c t fz,a.add (i*sz)=⟨g,off,none⟩/\W.heap[g]? = some (.cells c t fz)/\off+sz<=c.size /\ ∃ x k,R k x ((c.toList.drop off).take sz) W:=fun i hi=>by
  obtain ⟨cs,x,k,h1,h2⟩:=h i hi;obtain ⟨g,off,c,t,fz,e1,e2,e3,e4⟩:=cells_at h1 hs;exact ⟨g,off,c,t,fz,e1,e2,e3,x,k,by rw [e4];exact h2⟩
 obtain ⟨g,off,c,t,fz,e1,e2,e3,-⟩:=at_ 0 af;obtain ⟨g0,o0,sp0⟩:=a;have e1':(⟨g0,o0,sp0⟩:Addr)=⟨g,off,none⟩:=by rw [<- e1];simp [Addr.add]
 injection e1' with a1 a2 a3;subst a1 a2 a3;have hadd : ∀ i,(⟨g0,o0,none⟩:Addr).add i=⟨g0,o0+i,none⟩:=fun i=>by unfold Addr.add;split <;> simp_all
 have each : ∀ i,i<len->o0+i*sz+sz<=c.size /\ ∃ x k,R k x ((c.toList.drop (o0+i*sz)).take sz) W:=fun i hi=>by
  obtain ⟨g',off',c',t',fz',d1,d2,d3,x,k,d4⟩:=at_ i hi;rw [hadd] at d1
  injection d1 with b1 b2;subst b1 b2;rw [e2] at d2
  injection d2 with d2
  injection d2 with d2;subst d2;exact ⟨d3,x,k,d4⟩
 have hend:o0+len*sz<=c.size:=by
  have:=(each (len-1) af).1;have e:(len-1)*sz+sz=len*sz:=by rw [<- ahP];congr 1;omega
  omega
 obtain ⟨xs,K,hl,hx⟩:=MR (Q:=fun i x k=>R k x ((c.toList.drop (o0+i*sz)).take sz) W) (fun i x k k' hk hr=>hm k k' x _ hk hr) len (fun i hi=>(each i hi).2);refine ⟨(c.toList.drop o0).take (len*sz),xs,K,some ⟨g0,o0,none⟩,len,cap,rfl,hl,hcap,.inr ⟨g0,o0,c,t,fz,rfl,e2,by rw [aic,ahI,aiy,ahS af]⟩,by rw [aic,ahI,aiy,hl];omega,fun i x hi => ?_⟩;have hil:=(ahy.1 hi).1;have h3:i*sz+sz<=len*sz:=by rw [<- ahP];exact ahp sz af
 have e:((((c.toList.drop o0).take (len*sz)).drop (i*sz)).take sz)=(c.toList.drop (o0+i*sz)).take sz:=by
  rw [aiF,List.drop_drop,aiK,ahS af]
 rw [e];exact hx i x hi
end bJ
namespace Go.Proofs.AZQ
open Go Go.ChangeShapes Go.WideShapes Go.ChangeAt Go.RowKit Go.Joins Lw bJ
theorem Wp:Tryz.prog.cellsOf 40=3:=ah
theorem Vb{k K:Nat}{x:Rat×Bool}{cs:List Value}{w:World}(h:dL k x cs w)(hk:k<=K):dL K x cs w:=by
 obtain ⟨s,A,n,c,B,m,d,e,h⟩:=h;exact ⟨s,A,n,c,B,m,d,e,dn.weak h hk⟩
set_option maxRecDepth 100000 in
theorem abD{H:Type}{enc:TypeId×Value->H}{W:World}{m:Nat}{c0 c1 c2:Value}{y:DataW H×List MemPlace}(h:DataW.trod enc Tryz.prog W 0 (fun _=>true) true m 40 [c0,c1,c2]=some y) :
  ∃ s A n c B m c' k q b,c0 = .bool s/\c1 = .slice A n c/\c2 = .slice B m c'/\dn W ⟨.agg #[.bool s,.slice A n c,.slice B m c'],q,k,b⟩:=by
 obtain ⟨y0,y1,y2,n,_,_,h0,h1,h2⟩:=Deep.trod_struct3 Tryz.underlying40 h;obtain ⟨s,e0,_⟩:=DataW.trod_bool agB (show DataW.trod enc Tryz.prog W 0 (fun _=>true) true n 4 [c0]=some y0 from h0)
 injection e0 with e0;obtain ⟨A,n1,c,l,rfl,a1,a2,a3⟩:=TN (show DataW.trod enc Tryz.prog W 0 (fun _=>true) true n 38 [c1]=some y1 from h1);obtain ⟨B,m1,c',l',rfl,g1,g2,g3⟩:=TN (show DataW.trod enc Tryz.prog W 0 (fun _=>true) true n 38 [c2]=some y2 from h2);subst e0;exact ⟨s,A,n1,c,B,m1,c',max n1 m1,qv s l l',fV s l l',rfl,rfl,rfl,s,A,n1,c,B,m1,c',l,l',rfl,a1,g1,a2,g2,Nat.le_max_left _ _,Nat.le_max_right _ _,a3,g3,rfl,rfl⟩
set_option maxRecDepth 100000 in
theorem aaY{H:Type}{enc:TypeId×Value->H}{W:World}{m:Nat}{cs:List Value}{y:DataW H×List MemPlace}(h:DataW.trod enc Tryz.prog W 0 (fun _=>true) true m 23 cs=some y) :
  ∃ (A:Option Addr) (n c:Nat) (vs:List Value) (xs:List (Rat×Bool)) (k:Nat),cs=[.slice A n c]/\FL (dL k) 3 (.slice A n c) vs xs W:=by
 rcases DataW.trod_slice Tryz.underlying23 h with ⟨rfl,_⟩ | ⟨a,len,cap,elems,rest,n,_,rfl,_,_,hl,_,hlen,hel,_⟩
 ·exact ⟨none,0,0,[],[],0,rfl,FL.nil _ _ _ _ _⟩
 ·rw [Wp] at hel
  obtain ⟨vs,xs,K,hf⟩:=adz (R:=dL) (W:=W) (a:=a) (len:=len) (cap:=cap) (sz:=3) (base:=0) ai hl (fun k k' x cs hk hr=>Vb hr hk) (fun i hi=>by
   have h1:=hel i hi;rw [ahR af] at h1;obtain ⟨cs,h2,h3⟩:=Option.bind_eq_some_iff.1 h1;obtain ⟨_,hcl,_⟩:=World.cells?_some h2
   match cs,hcl with
   | [c0,c1,c2],_ =>
    obtain ⟨s,A,n,c,B,m,c',k,q,b,rfl,rfl,rfl,f⟩:=abD h3;exact ⟨_,(q,b),k,h2,s,A,n,c,B,m,c',rfl,f⟩)
  exact ⟨some a,len,cap,vs,xs,K,rfl,hf⟩
set_option maxRecDepth 100000 in
theorem aaZ{H:Type}{enc:TypeId×Value->H}{W:World}{base:Nat}{v:Value}{d:DataW H}{p:List MemPlace}(hv:Value.okWide Tryz.prog W .any base 23 v)(h:DataW.Trod enc Tryz.prog W 0 (fun _=>true) true 23 v d p) :
  ∃ (A:Option Addr) (n c:Nat) (vs:List Value) (xs:List (Rat×Bool)) (k:Nat),v = .slice A n c/\FL (dL k) 3 (.slice A n c) vs xs W:=by
 obtain ⟨A,n,c,rfl⟩:=okWide_slice Tryz.underlying23 hv;obtain ⟨fuel,hf⟩:=h;obtain ⟨A',n',c',vs,xs,k,e,hl⟩:=aaY hf;have e':Value.slice A n c = .slice A' n' c':=(List.cons.inj (show [Value.slice A n c]=[.slice A' n' c'] from e)).1
 injection e' with e1 e2 e3;subst e1 e2 e3;exact ⟨A,n,c,vs,xs,k,rfl,hl⟩
section
theorem aaO{A1:Option Addr}{n1 c1:Nat}{vs1:List Value}{bz:List (Rat×Bool)}{k1:Nat}(W:World)(ht:Tz W)(hb:Tab W)(f1:FL (dL k1) 3 (.slice A1 n1 c1) vs1 bz W):Calls Tryz.prog 3 #[.slice A1 n1 c1] W fun e w'=>e = .returned (.bool true)/\Below W.heap.size W w':=law_true (aaP ht hb (St.init W) (fun _ ha=>FL.old (fun x cs=>(dL.stable _ _ _).old) _ _ ha f1))
end
end Go.Proofs.AZQ
