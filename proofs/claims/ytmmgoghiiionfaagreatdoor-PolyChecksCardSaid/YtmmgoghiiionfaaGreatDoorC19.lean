/- Part of a proof, said shortly. -/
import Derived.Test.YtmmgoghiiionfaaGreatDoorAlz
import Derived.Test.YtmmgoghiiionfaaGreatDoorC11
import Derived.Test.YtmmgoghiiionfaaGreatDoorC10
import Derived.Test.YtmmgoghiiionfaaGreatDoorC9
import Derived.Test.YtmmgoghiiionfaaGreatDoorC18
import Derived.Test.YtmmgoghiiionfaaGreatDoorC17
import Derived.Test.YtmmgoghiiionfaaGreatDoorC16
import Derived.Test.YtmmgoghiiionfaaGreatDoorC15
import Derived.Test.YtmmgoghiiionfaaGreatDoorC8
import Derived.Test.YtmmgoghiiionfaaGreatDoorC7
import Derived.Test.YtmmgoghiiionfaaGreatDoorC4
import Derived.Test.YtmmgoghiiionfaaGreatDoorC2
import Derived.Test.YtmmgoghiiionfaaGreatDoorC1
import Derived.Test.YtmmgoghiiionfaaGreatDoorC3
import Derived.Test.YtmmgoghiiionfaaGreatDoorC6
import Derived.Test.YtmmgoghiiionfaaGreatDoorC5
import Derived.Test.YtmmgoghiiionfaaGreatDoorC14
import Derived.Test.YtmmgoghiiionfaaGreatDoorC12
import Derived.Test.YtmmgoghiiionfaaGreatDoorC13
set_option linter.unusedVariables false
set_option linter.unusedSimpArgs false
namespace Go.Proofs.AZQ
open Go Go.RowKit Lw bJ
section
variable {W0 w:World} {U:List Box} {Ps:List (World->Prop)}
def dU(xs:List (Rat×Bool)):Int:=if 65<xs.length then 4 else if gK xs=true then (if 0<xs.length/\(el xs (xs.length-1)).1=0 then 8 else 0) else 2
theorem Ws{xs:List (Rat×Bool)}{n:Nat}(hn:xs.length=n)(h:65<n):4=dU xs:=by subst hn;unfold dU;rw [if_pos h]
theorem Wq{xs:List (Rat×Bool)}{n:Nat}(hn:xs.length=n)(h:¬ 65<n)(ha:false=gK xs):2=dU xs:=by subst hn;unfold dU;rw [if_neg h,if_neg (by rw [<- ha];decide)]
theorem Wu{xs:List (Rat×Bool)}{n:Nat}(hn:xs.length=n)(h:¬ 65<n)(ha:true=gK xs)(h0:0<n)(hz:(el xs (n-1)).1=0):8=dU xs:=by subst hn;unfold dU;rw [if_neg h,if_pos ha.symm,if_pos ⟨h0,hz⟩]
theorem LG{xs:List (Rat×Bool)}{n:Nat}(hn:xs.length=n)(h:¬ 65<n)(ha:true=gK xs)(h0:n=0\/¬ (el xs (n-1)).1=0):0=dU xs:=by subst hn;unfold dU;rw [if_neg h,if_pos ha.symm,if_neg (fun hh=>h0.elim af (fun h2=>h2 hh.2))]
theorem ac9{P:Program}{ρ:Operand->Value}{w:World}{dst:Option Tmp}{ty:TypeId}{pos:String}{bn:Array Edge}{gd:Option (Nat×Bool)}{t:TypeId}{x y z:Operand}{l m:List UInt8}{k k':IntKind}{i i':Int}{a b:Nat}(hx:ρ x = .string ⟨l.toArray⟩)(hy:ρ y = .int k i)(hz:ρ z = .int k' i')(hu : ∀ w,(underlying t).run P w = .ok .string w)(hi:i=(a:Int))(hi':i'=(b:Int))(hab:a<=b)(hb:b<=l.length)(hm:(l.drop a).take (b-a)=m) :
  (execOp ρ ⟨dst,.slice t x (some y) (some z) none,ty,pos,bn,gd⟩).run P w = .ok (.value (.string ⟨m.toArray⟩)) w:=by
 subst hi hi' hm;have hs:(⟨l.toArray⟩:ByteArray).size=l.length:=by simp [ByteArray.size]
 simp [execOp,hx,hy,hz,Instr.sliceAt,Instr.slice,Instr.sliceBounds,Instr.sliceBound,asIntOf,hu,hs,V6,hb,hab];exact aiF
theorem Xa{m:Nat}(h:m<10):(([48,49,50,51,52,53,54,55,56,57]:List UInt8).drop m).take (m+1-m)=Lib.decDigits m:=by
 rw [Lib.decDigits_one h];exact (show ∀ m,m<10->(([48,49,50,51,52,53,54,55,56,57]:List UInt8).drop m).take (m+1-m)=[UInt8.ofNat (48+m)] from ai) m h
theorem Xb{m:Nat}(h1:¬ m<10)(h2:m<100):Lib.decDigits (m/10)++Lib.decDigits (m%10)=Lib.decDigits m:=by
 rw [Lib.decDigits_two h1 h2,Lib.decDigits_one af,Lib.decDigits_one af];rfl
theorem ZN{xs:List (List UInt8)}{x sep:List UInt8} : Lib.join (xs++[x]) sep=(if xs=[] then [] else Lib.join xs sep++sep)++x:=by
 cases xs with
 | nil=>rw [air,Lib.join_one,if_pos rfl,air]
 | cons y ys =>
  rw [List.cons_append,Lib.join_cons,Lib.join_cons,if_neg (by simp)];unfold Lib.joinTail;rw [List.map_append,List.flatten_append];simp
theorem O7(x:Int):Lib.itoa x≠[]:=by
 unfold Lib.itoa
 split
 ·simp
 ·intro h
  have h1:=congrArg List.length h;rw [Lib.decDigits] at h1
  split at h1 <;> simp at h1
theorem abv(q:Rat):bW q≠[]:=by
 unfold bW
 split
 ·exact O7 _
 ·intro h;exact O7 _ (List.append_eq_nil_iff.1 h).1
theorem GK{xs:List (Rat×Bool)}{n i:Nat} : Lib.join (fO xs n i) [32,43,32]=[]↔fO xs n i=[]:=by
 constructor
 ·intro h
  cases hx:fO xs n i with
  | nil=>rfl
  | cons y ys =>
   rw [hx,Lib.join_cons] at h;have hy:y∈fO xs n i:=by rw [hx];exact ak
   unfold fO at hy;obtain ⟨k,_,hk⟩:=List.mem_flatMap.1 hy
   split at hk
   ·cases hk
   ·obtain rfl:=ahG.1 hk
    exact absurd (List.append_eq_nil_iff.1 (List.append_eq_nil_iff.1 h).1).1 (abv _)
 ·intro h;rw [h];rfl
def jw(xs:List (Rat×Bool))(n j:Nat):List UInt8:=Lib.join (fO xs n (n-j)) [32,43,32]
theorem acF{xs:List (Rat×Bool)}{n j:Nat}(h0:0<j)(hj:j<=n)(h:(el xs (j-1)).1=0):jw xs n j=jw xs n (j-1):=by
 unfold jw;rw [show n-(j-1)=n-j+1 from af,<- Qw (by rw [show n-1-(n-j)=j-1 by omega];exact h)]
theorem uO{xs:List (Rat×Bool)}{n j:Nat}(h0:0<j)(hj:j<=n)(h:¬ (el xs (j-1)).1=0):jw xs n (j-1)=(if jw xs n j=[] then [] else jw xs n j++[32,43,32])++(bW (el xs (j-1)).1++fE (j-1)):=by
 have h1:=Qv (xs:=xs) (n:=n) (i:=n-j) (by rw [show n-1-(n-j)=j-1 by omega];exact h);rw [show n-1-(n-j)=j-1 by omega] at h1;unfold jw;rw [show n-(j-1)=n-j+1 from af,<- h1,ZN]
 congr 1
 by_cases e:fO xs n (n-j)=[]
 ·rw [if_pos e,if_pos (GK.2 e)]
 ·rw [if_neg e,if_neg (mt GK.1 e)]
theorem QB{m:Nat}(h:m=0):[]=fE m:=by unfold fE;rw [if_pos h]
theorem QC{m:Nat}(h:m=1):[32,120]=fE m:=by unfold fE;rw [if_neg af,if_pos h]
theorem QD{m:Nat}(h:1<m):[32,120,94]++Lib.decDigits m=fE m:=by unfold fE;rw [if_neg af,if_neg af]
theorem acz{xs:List (Rat×Bool)}{n:Nat} : []=jw xs n n:=by unfold jw;rw [Nat.sub_self];rfl
theorem aao(l:List UInt8):(l != []) = !(decide (l=[])):=by cases l <;> simp
theorem XE(l:List UInt8):(l==[])=decide (l=[]):=by cases l <;> simp
theorem LH{xs:List (Rat×Bool)}{n:Nat}(hn:xs.length=n)(h:dU xs=0):n<=65/\gK xs=true:=by
 subst hn;unfold dU at h
 split at h
 ·cases h
 ·split at h
  ·exact ⟨af,by assumption⟩
  ·cases h
theorem acD{xs:List (Rat×Bool)}{n:Nat}(hn:xs.length=n)(hok:dU xs=0)(h:jw xs n 0≠[]):jw xs n 0=mQ xs:=by
 subst hn;unfold mQ;rw [if_neg (fun e=>h (by unfold jw;rw [e];rfl))];rfl
theorem acE{xs:List (Rat×Bool)}{n:Nat}(hn:xs.length=n)(hok:dU xs=0)(h:jw xs n 0=[]):[48]=mQ xs:=by
 subst hn;unfold mQ
 by_cases h0:xs.length=0
 ·rw [if_pos h0]
 ·exfalso
  have h1:=GK.1 (show Lib.join (fO xs xs.length xs.length) [32,43,32]=[] from h);obtain ⟨h2,h3⟩:=LH rfl hok
  have h4:¬ (el xs (xs.length-1)).1=0:=fun e=>by
   unfold dU at hok;rw [if_neg af,if_pos h3,if_pos ⟨af,e⟩] at hok
   cases hok
  have h5:bW (el xs (xs.length-1)).1++fE (xs.length-1)∈fO xs xs.length xs.length:=by
   unfold fO;refine List.mem_flatMap.2 ⟨0,List.mem_range.2 af,?_⟩;rw [Nat.sub_zero,if_neg h4];exact ak
  rw [h1] at h5;cases h5
theorem SS{a b:List UInt8}(h:a=b):Value.tuple #[.string ⟨a.toArray⟩,.int .i64 0] = .tuple #[.string ⟨b.toArray⟩,.int .i64 0]:=by rw [h]
set_option maxRecDepth 100000 in
set_option maxHeartbeats 400000 in
theorem Iu(HT:Tz W0)(HB:Tab W0){A1:Option Addr}{n1 c1:Nat}{vs1:List Value}{bz:List (Rat×Bool)}{k1:Nat}(HS:St W0 U Ps w)(f1:fC U w (FL (dL k1) 3 (.slice A1 n1 c1) vs1 bz))(hk:k1<=900)(hn:n1<=100000):bP Tryz.prog 18 [.slice A1 n1 c1] w (dB W0 U Ps (.int .i64 (dU bz))):=by
 obtain ⟨HS,hn1⟩:=HS.arg f1;clear f1;refine fD Tryz.func18 rfl Tryz.ntmps18 rfl<|Js<|La rfl<|Jn<|JC.seq<|Js<|Lm rfl<|Ll rfl ags<|Lz (.bool (decide ((n1:Int) > 65))) (fun a ha=>iK (ha.ev rfl) (ha.ev rfl) rfl)<|Jn<|?_
 cases fK:(decide ((n1:Int) > 65))
 ·skip
  have jh:=of_decide_eq_false fK;refine JC.cO rfl<|Jk<|JC.seq<|Js<|Lm rfl<|Ll rfl ags<|Lm rfl<|Jn<|JC.block<|kL HS.tg (ι:=Nat) (fun i=>n1-i) (fun i=>[(0,.slice A1 n1 c1),(8,.slice A1 n1 c1),(9,aj n1),(10,aj i)]) (fun i w Ua Pa=>(i<=n1 /\ ∀ j,j<i->(el bz j).2=true)/\St W0 (Ua) (Pa) w) ?_ 0 _ ⟨⟨ahl _,fun _ h=>absurd h (ah2 _)⟩,HS⟩;skip;rintro i rZ ⟨bH,HS⟩
  try dsimp only at *
  refine Js<|Lb rfl rfl<|Jn<|JC.seq<|?_
  cases gX:(decide ((i:Int)<(n1:Int)))
  ·skip
   have jH:=of_decide_eq_false gX;refine JC.cO rfl<|JC.exit (fun _ _ h=>h) (fun _ _ h=>h)<|JC.seq<|Js<|Lm rfl<|Ll rfl ags<|Lz (.bool (decide ((n1:Int) > 0))) (fun a ha=>iK (ha.ev rfl) (ha.ev rfl) rfl)<|?_
   cases mF:(decide ((n1:Int) > 0))
   ·skip
    have xg:=of_decide_eq_false mF;refine Lm rfl<|Lq<|Lq<|Lq<|Lq<|Lq<|Lq<|Lq<|Lq<|Lf rfl rfl<|Jn<|JC.cO rfl<|Jk<|Js<|La rfl<|Jn<|Ja Tryz.results18 (.tmp rfl)<|?_;exact ⟨(congrArg (Value.int .i64) (LG hn1 af (yT hn1 bH.2 af) (by first | exact .inl af | exact .inr (by assumption)))),HS.o0 0 2⟩
   ·skip
    have xg:=of_decide_eq_true mF;refine Lm rfl<|dI rfl<|dI rfl<|bK (aj n1) (fun a ha=>iL (ha.ev rfl) ags)<|bK (.int .i64 ((n1-1:Nat):Int)) (fun a ha=>fF (ha.ev rfl) (ha.ev rfl) (iP af af))<|?_;have iD:n1-1<n1:=af;refine bK (.pointer (some (eaddr A1 ((n1-1)*3)))) (fun a ha=>oK (ha.ev rfl) (ha.ev rfl) ags agr rfl iD (FL.some_ (HS.at_ 1 rfl) ai iD) rfl)<|?_;have hx25:n1-1<bz.length:=af;obtain ⟨lH,kG,n25,c25,kH,m25,d25,hc25,HS⟩:=HS.kV 0 rfl (n1-1) hx25;refine bK (.agg #[.bool lH,.slice kG n25 c25,.slice kH m25 d25]) (fun a ha=>jk (o:=0) (j:=(n1-1)) (ha.ev rfl) agt agr (HS.at_ 2 rfl) iD ai ai hc25 rfl)<|JL.iH rfl rfl rfl rfl rfl rfl Tryz.call65 (Iq HT HB HS (HS.at_ 0 rfl) af)<|?_;rintro v26 Dt ⟨rfl,HS⟩;refine bK (.bool (decide (((el bz (n1-1)).1)=0))) (fun a ha=>gY (ha.ev rfl) (ha.ev rfl) (IW _))<|Lt rfl rfl<|Jn<|?_
    cases oq:((decide (((el bz (n1-1)).1)=0)))
    ·skip
     have hd27:=of_decide_eq_false oq;refine JC.cO rfl<|Jk<|Js<|La rfl<|Jn<|Ja Tryz.results18 (.tmp rfl)<|?_;exact ⟨(congrArg (Value.int .i64) (LG hn1 af (yT hn1 bH.2 af) (by first | exact .inl af | exact .inr (by assumption)))),HS.o0 0 3⟩
    ·skip
     have hd27:=of_decide_eq_true oq;refine JC.dh rfl<|Js<|La rfl<|Jn<|Ja Tryz.results18 (.tmp rfl)<|?_;exact ⟨(congrArg (Value.int .i64) (Wu hn1 af (yT hn1 bH.2 af) af (by assumption))),HS.o0 0 3⟩
  ·skip
   have jH:=of_decide_eq_true gX;refine JC.dh rfl<|Jk<|JC.seq<|JC.block<|Js<|?_;have kZ:i<n1:=af;refine kM rfl rfl ags agr rfl kZ (FL.some_ (HS.at_ 1 rfl) ai kZ)<|?_;have hx29:i<bz.length:=af;obtain ⟨rQ,qG,n29,c29,qI,m29,d29,hc29,HS⟩:=HS.kV 0 rfl i hx29;refine Lz (.agg #[.bool rQ,.slice qG n29 c29,.slice qI m29 d29]) (fun a ha=>jk (o:=0) (j:=i) (ha.ev rfl) agt agr (HS.at_ 2 rfl) kZ ai ai hc29 rfl)<|JL.alloc (vs:=[.bool false,.slice none 0 0,.slice none 0 0]) HS rfl agw rfl rfl (fun X4 yB HS => ?_);refine JL.store HS rfl rfl (i:=0) rfl agr rfl rfl rfl (vs':=[.bool rQ,.slice qG n29 c29,.slice qI m29 d29]) rfl rfl (fun Dw HS => ?_);refine Jn<|Js<|JL.load (.agg #[.bool rQ,.slice qG n29 c29,.slice qI m29 d29]) HS 0 rfl rfl rfl agt agr rfl rfl<|JL.call rfl rfl Tryz.call69 (acm HT HB HS (HS.at_ 0 rfl) af)<|?_;rintro v32 w32 ⟨rfl,HS⟩;refine Lz (.bool (!((el bz i).2))) (fun a ha=>kE (ha.ev rfl))<|Jn<|?_
   cases uj:(((el bz i).2))
   ·skip
    refine JC.dh rfl<|Js<|La rfl<|Jn<|Ja Tryz.results18 (.tmp rfl)<|?_;exact ⟨(congrArg (Value.int .i64) (Wq hn1 af (KX hn1 af (by assumption)))),HS.o0 1 3⟩
   ·skip
    refine JC.cO rfl<|JC.lI (fun _ _ h=>h)<|JC.region<|Lz (.int .i64 ((i+1:Nat):Int)) (fun a ha=>kD (ha.ev rfl) (ha.ev rfl) (iP af af))<|Lm rfl<|?_;exact Jr (i+1) ⟨⟨af,(vg bH.2 (by assumption))⟩,HS.o0 1 1⟩
 ·skip
  have jh:=of_decide_eq_true fK;refine JC.dh rfl<|Js<|La rfl<|Jn<|Ja Tryz.results18 (.tmp rfl)<|?_;exact ⟨(congrArg (Value.int .i64) (Ws hn1 af)),HS.o0 0 2⟩
set_option maxRecDepth 100000 in
set_option maxHeartbeats 400000 in
theorem Rl(HT:Tz W0)(HB:Tab W0){A1:Option Addr}{n1 c1:Nat}{vs1:List Value}{bz:List (Rat×Bool)}{k1:Nat}(HS:St W0 U Ps w)(f1:fC U w (FL (dL k1) 3 (.slice A1 n1 c1) vs1 bz))(hk:k1<=700)(hn:n1<=100000):bP Tryz.prog 21 [.slice A1 n1 c1] w (DU W0 U Ps (eG (k1+2)) 3 (fQ 0 ((List.range n1).map (fun i=>(el bz i).1)))):=by
 obtain ⟨HS,hn1⟩:=HS.arg f1;clear f1;refine fD Tryz.func21 rfl Tryz.ntmps21 rfl<|Js<|La rfl<|Jn<|Js<|La rfl<|Jn<|JC.seq<|Js<|Lm rfl<|Ll rfl agx<|Lm rfl<|Jn<|JC.block<|?_;have HS:=HS.jq (fun w _=>EL.nil (eG (k1+2)) 3 w);refine kL HS.tg (ι:=Nat×Option Addr×Nat×List Value×List Value) (fun ⟨i1,oQ,c01,tH,qA⟩=>n1-i1) (fun ⟨i1,oQ,c01,tH,qA⟩=>[(6,.slice A1 n1 c1),(7,aj n1),(3,.slice oQ i1 c01),(8,aj i1)]) (fun ⟨i1,oQ,c01,tH,qA⟩ w _ Pa=>(i1<=n1/\Row 3 oQ i1 c01 tH qA)/\St W0 ((rowB oQ 40 tH++U)) (EL (eG (k1+2)) 3 qA ((List.range i1).map (fun i=>(el bz i).1))::Pa) w) ?_ (0,none,0,[],[]) _ ⟨⟨ahl _,(Row.nil 3)⟩,HS.iC 0 rfl (fun _ h=>h)⟩;skip;rintro ⟨i1,oQ,c01,tH,qA⟩ rZ ⟨bH,HS⟩
 try dsimp only at *
 have bH:i1<=n1/\Row 3 oQ i1 c01 tH qA:=bH;have hin1:=bH.1;have hrw1:=bH.2;refine Js<|Lb rfl rfl<|Jn<|JC.seq<|?_
 cases fK:(decide ((i1:Int)<(n1:Int)))
 ·skip
  have jh:=of_decide_eq_false fK;refine JC.cO rfl<|?_;obtain rfl:n1=i1:=af;refine JC.exit (fun _ _ h=>h) (fun _ _ h=>h)<|JC.seq<|JC.block<|?_;have HS:=St.Nc (Ub:=[]) HS hrw1 0 rfl (by first | omega | (simp <;> omega));refine kL HS.tg (ι:=Option Addr×Nat×Nat×List Value×List Rat) (fun ⟨A,n,c,vs,xs⟩=>n) (fun ⟨A,n,c,vs,xs⟩=>[(3,.slice A n c)]) (fun ⟨A,n,c,vs,xs⟩ w Ua Pa=>(xs.length=n/\fQ 0 xs=fQ 0 ((List.range n1).map (fun i=>(el bz i).1))/\n<=n1)/\St W0 (Ua) (EL (eG (k1+2)) 3 vs xs::FL (eG (k1+2)) 3 (.slice A n c) vs xs::Pa) w) ?_ (oQ,n1,c01,qA,((List.range n1).map (fun i=>(el bz i).1))) _ ⟨⟨by simp,rfl,ahj _⟩,(HS.iC 0 rfl (fun _ h=>h)).iC 2 rfl (fun _ h=>h)⟩;skip;rintro ⟨A,n,c,vs,xs⟩ wl2 ⟨iT,HS⟩
  try dsimp only at *
  have iT:xs.length=n/\fQ 0 xs=fQ 0 ((List.range n1).map (fun i=>(el bz i).1))/\n<=n1:=iT;have hxl:=iT.1;have ZF:=iT.2.2;refine JC.seq<|Js<|Lm rfl<|Ll rfl ags<|Lz (.bool (decide ((n:Int) > 0))) (fun a ha=>iK (ha.ev rfl) (ha.ev rfl) rfl)<|?_
  cases gX:(decide ((n:Int) > 0))
  ·skip
   have jH:=of_decide_eq_false gX;refine Lm rfl<|Lq<|Lq<|Lq<|Lq<|Lq<|Lq<|Lq<|Lq<|Lf rfl rfl<|Jn<|JC.cO rfl<|JC.exit (fun _ _ h=>h) (fun _ _ h=>h)<|Js<|Lm rfl<|La rfl<|Jn<|Ja Tryz.results21 (.tmp rfl)<|?_;exact ⟨_,_,_,_,rfl,HS.oG 0 7 0 1 rfl rfl rfl (fun _ h=>EL.to h (qp iT.2.1 iT.1 (by first | exact .inl af | exact .inr (by assumption))) (fun _ _ h=>h)) rfl (fun _ h=>FL.to h (qp iT.2.1 iT.1 (by first | exact .inl af | exact .inr (by assumption))) (fun _ _ h=>h))⟩
  ·skip
   have jH:=of_decide_eq_true gX;refine Lm rfl<|dI rfl<|dI rfl<|bK (aj n) (fun a ha=>iL (ha.ev rfl) ags)<|bK (.int .i64 ((n-1:Nat):Int)) (fun a ha=>fF (ha.ev rfl) (ha.ev rfl) (iP af af))<|?_;have F7:n-1<n:=af;refine bK (.pointer (some (eaddr A ((n-1)*3)))) (fun a ha=>oK (ha.ev rfl) (ha.ev rfl) ags agr rfl F7 (FL.some_ (HS.at_ 1 rfl) ai F7) rfl)<|?_;have hx24:n-1<xs.length:=af;obtain ⟨s24,DJ,n24,c24,DW,m24,d24,hc24,HS⟩:=HS.zn 0 rfl (n-1) hx24;refine bK (.agg #[.bool s24,.slice DJ n24 c24,.slice DW m24 d24]) (fun a ha=>jk (o:=0) (j:=(n-1)) (ha.ev rfl) agt agr (HS.at_ 2 rfl) F7 ai ai hc24 rfl)<|JL.iH rfl rfl rfl rfl rfl rfl Tryz.call65 (Iq HT HB HS (HS.at_ 0 rfl) af)<|?_;rintro v25 Dq ⟨rfl,HS⟩;refine bK (.bool (decide ((el xs (n-1))=0))) (fun a ha=>gY (ha.ev rfl) (ha.ev rfl) (IW _))<|Lt rfl rfl<|Jn<|?_
   cases pI:((decide ((el xs (n-1))=0)))
   ·skip
    have xh:=of_decide_eq_false pI;refine JC.cO rfl<|JC.exit (fun _ _ h=>h) (fun _ _ h=>h)<|Js<|Lm rfl<|La rfl<|Jn<|Ja Tryz.results21 (.tmp rfl)<|?_;exact ⟨_,_,_,_,rfl,HS.oG 0 8 1 2 rfl rfl rfl (fun _ h=>EL.to h (qp iT.2.1 iT.1 (by first | exact .inl af | exact .inr (by assumption))) (fun _ _ h=>h)) rfl (fun _ h=>FL.to h (qp iT.2.1 iT.1 (by first | exact .inl af | exact .inr (by assumption))) (fun _ _ h=>h))⟩
   ·skip
    have xh:=of_decide_eq_true pI;refine JC.dh rfl<|Jk<|JC.block<|JC.region<|Lm rfl<|Lm rfl<|Ll rfl ags<|Lz (.int .i64 ((n-1:Nat):Int)) (fun a ha=>fF (ha.ev rfl) (ha.ev rfl) (iP af af))<|?_;have N8:0<=n-1:=af;have NW:n-1<=n:=af;have YV:=(FL.parts (HS.at_ 2 rfl)).2.1;obtain ⟨JF,hA27⟩ : ∃ B,B=(if c=0 then A else Option.map (fun a=>Addr.add a (0*3)) A):=⟨_,rfl⟩;have HS:=HS.sub 2 rfl N8 NW hA27;obtain ⟨aer,ZA⟩ : ∃ v,v=((vs.drop (0*3)).take (((n-1)-0)*3)):=⟨_,rfl⟩;obtain ⟨JE,OW⟩ : ∃ v,v=((xs.drop 0).take ((n-1)-0)):=⟨_,rfl⟩;rw [<- ZA,<- OW] at HS;have afc:JE.length=n-1:=FL.len (HS.at_ 1 rfl);have afs:JE=xs.take (n-1):=by rw [OW];rfl
    refine Lz (.slice JF (n-1) c) (fun a ha=>RJ (l:=0) (h:=n-1) hA27 (ha.ev rfl) ags agr (.inl ⟨rfl,rfl⟩) (.inr ⟨_,_,rfl,ha.ev rfl⟩) N8 (ahk NW YV))<|La rfl<|?_;exact Kw (JF,(n-1),c,aer,JE) ⟨⟨(by dsimp only;omega),SL iT.2.1 iT.1 af (by assumption) (by assumption),(by dsimp only;omega)⟩,HS.oG 0 5 0 1 rfl rfl rfl (fun _ h=>h) rfl (fun _ h=>h)⟩
 ·skip
  have jh:=of_decide_eq_true fK;refine JC.dh rfl<|Jk<|JC.seq<|JC.block<|Js<|?_;have kZ:i1<n1:=af;refine kM rfl rfl agx agr rfl kZ (FL.some_ (HS.at_ 3 rfl) ai kZ)<|?_;have hx29:i1<bz.length:=af;obtain ⟨rQ,qG,n29,c29,qI,m29,d29,hc29,HS⟩:=HS.kV 2 rfl i1 hx29;refine Lz (.agg #[.bool rQ,.slice qG n29 c29,.slice qI m29 d29]) (fun a ha=>jk (o:=0) (j:=i1) (ha.ev rfl) agt agr (HS.at_ 4 rfl) kZ ai ai hc29 rfl)<|JL.alloc (vs:=[.bool false,.slice none 0 0,.slice none 0 0]) HS rfl agw rfl rfl (fun X4 yB HS => ?_);refine JL.store HS rfl rfl (i:=0) rfl agr rfl rfl rfl (vs':=[.bool rQ,.slice qG n29 c29,.slice qI m29 d29]) rfl rfl (fun Dw HS => ?_);refine Jn<|JC.region<|Lm rfl<|JL.load (.agg #[.bool rQ,.slice qG n29 c29,.slice qI m29 d29]) HS 0 rfl rfl rfl agt agr rfl rfl<|Lz (.agg #[.bool false,.slice none 0 0,.slice none 0 0]) (fun a ha=>bJ.run_build (ha.jE rfl) agu agw AY rfl)<|JL.call rfl rfl Tryz.call73 (ace HT HB HS (HS.at_ 0 rfl) (FV.zero 0 _) af)<|?_;rintro v32 w32 ⟨RN,DN,n32,c32,JP,m32,d32,rfl,HS⟩;refine JL.buildSlice (vs:=[.bool RN,.slice DN n32 c32,.slice JP m32 d32]) HS rfl (fun a ha=>ha.jE rfl) ags agr agw rfl rfl ah rfl (fun g33 TC HS => ?_);have HS:=HS.iC 0 rfl (fun _ h=>h.EZ (r:=((el bz i1).1)+0) (K:=(k1+2)) rfl af);refine JL.Vt (Ub:=([_,_])) (z := .agg #[.bool false,.slice none 0 0,.slice none 0 0]) (zs:=[.bool false,.slice none 0 0,.slice none 0 0]) (size:=3) (bytes:=56) HS hrw1 rfl rfl rfl (Src.box (e':=40) HS ah 0 rfl (n:=1) rfl rfl _) rfl ah ah rfl rfl rfl rfl af (fun Ud c34 WT TD Zm HS => ?_);have HS:=HS.Na 3 0 rfl rfl (fun _ h1 h2=>h1.append (EL.one h2 rfl));refine La rfl<|JL.qR (fun _ _ h=>h)<|JC.region<|Lz (.int .i64 ((i1+1:Nat):Int)) (fun a ha=>kD (ha.ev rfl) (ha.ev rfl) (iP af af))<|Lm rfl<|?_;exact Jr ((i1+1),Ud,c34,WT,(qA++[.bool RN,.slice DN n32 c32,.slice JP m32 d32])) ⟨⟨af,Zm⟩,HS.oh 2 5 0 rfl (fun _ h=>h.to (abB (fun i=>(el bz i).1) i1 (Rat.add_zero _)) (fun _ _ h=>h))⟩
set_option maxRecDepth 100000 in
set_option maxHeartbeats 400000 in
theorem Iw(_HT:Tz W0)(_HB:Tab W0){m1:Nat}(HS:St W0 U Ps w)(hm:m1<10):bP Tryz.prog 67 [aj m1] w (dB W0 U Ps (.string ⟨(Lib.decDigits m1).toArray⟩)):=by
 refine fD Tryz.func67 rfl Tryz.ntmps67 rfl<|Js<|La rfl<|Jn<|JC.seq<|Js<|Lm rfl<|Lz (.bool true) (fun a ha=>rP (ha.ev rfl) (ha.ev rfl) (decide_eq_true af))<|Jn<|JC.dh rfl<|Js<|Lm rfl<|Lm rfl<|Lz (.int .i64 ((m1+1:Nat):Int)) (fun a ha=>kD (ha.ev rfl) (ha.ev rfl) (iP af af))<|Lz (.string ⟨(Lib.decDigits m1).toArray⟩) (fun a ha=>ac9 (ha.ev rfl) (ha.ev rfl) (ha.ev rfl) Tryz.runUnderlying9 rfl af af (by simp only [List.length_cons,List.length_nil];omega) (Xa af))<|La rfl<|Jn<|Ja Tryz.results67 (.tmp rfl)<|?_;exact ⟨rfl,HS.o0 0 0⟩
set_option maxRecDepth 100000 in
set_option maxHeartbeats 400000 in
theorem acu(HT:Tz W0)(HB:Tab W0){m1:Nat}(HS:St W0 U Ps w)(hm:m1<100)(Y9:¬ m1<10):bP Tryz.prog 67 [aj m1] w (dB W0 U Ps (.string ⟨(Lib.decDigits m1).toArray⟩)):=by
 refine fD Tryz.func67 rfl Tryz.ntmps67 rfl<|Js<|La rfl<|Jn<|JC.seq<|Js<|Lm rfl<|Lz (.bool false) (fun a ha=>rP (ha.ev rfl) (ha.ev rfl) (decide_eq_false af))<|Jn<|JC.cO rfl<|Jk<|Js<|Lm rfl<|Lz (.int .i64 ((m1/10:Nat):Int)) (fun a ha=>ac3 (ha.ev rfl) (ha.ev rfl) ai af)<|JL.call rfl rfl agJ (Iw (m1:=m1/10) HT HB HS af)<|?_;rintro v21 jU ⟨rfl,HS⟩;refine Lm rfl<|Lz (.int .i64 ((m1%10:Nat):Int)) (fun a ha=>RI (ha.ev rfl) (ha.ev rfl) ai (Int.ofNat_tmod m1 10).symm)<|JL.call rfl rfl agJ (Iw (m1:=m1%10) HT HB HS af)<|?_;rintro v22 Jm ⟨rfl,HS⟩;refine Lz (.string ⟨((Lib.decDigits (m1/10))++(Lib.decDigits (m1%10))).toArray⟩) (fun a ha=>iw (ha.ev rfl) (ha.ev rfl) (by have h7:=eY (m:=m1/10) af;have h8:=eY (m:=m1%10) af;omega) rfl)<|Lz (.string ⟨((Lib.decDigits (m1/10))++(Lib.decDigits (m1%10))).toArray⟩) (fun a ha=>run_assign (ha.ev rfl))<|Jn<|Ja (v := .string ⟨((Lib.decDigits (m1/10))++(Lib.decDigits (m1%10))).toArray⟩) Tryz.results67 (.tmp rfl)<|?_;exact ⟨(congrArg (fun l:List UInt8=>Value.string ⟨l.toArray⟩) (Xb Y9 hm)),HS.o0 0 0⟩
theorem CJ(HT:Tz W0)(HB:Tab W0){m1:Nat}(HS:St W0 U Ps w)(hm:m1<100):bP Tryz.prog 67 [aj m1] w (dB W0 U Ps (.string ⟨(Lib.decDigits m1).toArray⟩)):=by
 by_cases h:m1<10
 ·exact Iw HT HB HS h
 ·exact acu HT HB HS hm h
theorem Rj(HT:Tz W0)(HB:Tab W0){A1:Option Addr}{n1 c1:Nat}{vs1:List Value}{bz:List (Rat×Bool)}{k1:Nat}(HS:St W0 U Ps w)(f1:fC U w (FL (dL k1) 3 (.slice A1 n1 c1) vs1 bz))(hk:k1<=900)(hn:n1<=100000)(hok:dU bz=0):bP Tryz.prog 18 [.slice A1 n1 c1] w (dB W0 U Ps (.int .i64 0)):=by
 have h:=Iu HT HB HS f1 hk hn;rw [hok] at h;exact h
set_option maxRecDepth 100000 in
set_option maxHeartbeats 400000 in
theorem acw(HT:Tz W0)(HB:Tab W0){A1:Option Addr}{n1 c1:Nat}{vs1:List Value}{bz:List (Rat×Bool)}{k1:Nat}(HS:St W0 U Ps w)(f1:fC U w (FL (dL k1) 3 (.slice A1 n1 c1) vs1 bz))(hk:k1<=90)(hn:n1<=100000)(hok:dU bz=0):bP Tryz.prog 15 [.slice A1 n1 c1] w (dB W0 U Ps (.tuple #[.string ⟨(mQ bz).toArray⟩,.int .i64 0])):=by
 obtain ⟨HS,hn1⟩:=HS.arg f1;clear f1;obtain ⟨hnl,hav⟩:=LH hn1 hok;refine fD Tryz.func15 rfl Tryz.ntmps15 rfl<|Js<|La rfl<|La rfl<|Jn<|JC.seq<|Js<|Lm rfl<|JL.call rfl rfl ahc (Rj HT HB HS (HS.dJ 1 rfl) af af hok)<|?_;rintro v21 jU ⟨rfl,HS⟩;refine La rfl<|Jn<|Js<|Lm rfl<|Lz (.bool false) (fun a ha=>uQ (ha.ev rfl) (ha.ev rfl) ai)<|Jn<|JC.cO rfl<|Jk<|Js<|La rfl<|Jn<|JC.seq<|Js<|Lm rfl<|Ll rfl ags<|Lz (.int .i64 ((n1:Int)-1)) (fun a ha=>fF (ha.ev rfl) (ha.ev rfl) ((IntKind.wrap_i64 _).trans af))<|La rfl<|Jn<|JC.block<|kL HS.tg (ι:=Nat×List UInt8) (fun ⟨j,l⟩=>j) (fun ⟨j,l⟩=>[(0,.slice A1 n1 c1),(5,.string ⟨l.toArray⟩),(6,.int .i64 ((j:Int)-1))]) (fun ⟨j,l⟩ w Ua Pa=>(j<=n1/\l=jw bz n1 j/\l.length+2000*j<=2000*n1)/\St W0 (Ua) (Pa) w) ?_ (n1,[]) _ ⟨⟨ahj _,acz,by simp⟩,HS⟩;skip;rintro ⟨j,l⟩ rZ ⟨bH,HS⟩
 try dsimp only at *
 refine JC.seq<|Js<|Lm rfl<|Lz (.bool (decide (((j:Int)-1) >= 0))) (fun a ha=>CP (ha.ev rfl) (ha.ev rfl) rfl)<|Jn<|?_
 cases gX:(decide (((j:Int)-1) >= 0))
 ·skip
  have jH:=of_decide_eq_false gX;refine JC.cO rfl<|JC.exit (fun _ _ h=>h) (fun _ _ h=>h)<|JC.seq<|Js<|Lm rfl<|Lz (.bool (decide (l=[]))) (fun a ha=>yw (ha.ev rfl) (ha.ev rfl) (XE l))<|Jn<|?_
  cases mF:((decide (l=[])))
  ·skip
   have xg:=of_decide_eq_false mF;refine JC.cO rfl<|Jk<|Js<|Lm rfl<|La rfl<|La rfl<|Jn<|Jb Tryz.results15 (.tmp rfl) (.tmp rfl)<|?_;exact ⟨(SS (bH.2.1.trans ((show j=0 from af) ▸ acD hn1 hok ((show j=0 from af) ▸ bH.2.1 ▸ (by assumption))))),HS.o0 0 2⟩
  ·skip
   have xg:=of_decide_eq_true mF;refine JC.dh rfl<|Js<|La rfl<|La rfl<|Jn<|Jb Tryz.results15 (.tmp rfl) (.tmp rfl)<|?_;exact ⟨(SS (acE hn1 hok ((show j=0 from af) ▸ bH.2.1 ▸ (by assumption)))),HS.o0 0 2⟩
 ·skip
  have jH:=of_decide_eq_true gX;have hj0:0<j:=af;rw [show ((j:Int)-1)=((j-1:Nat):Int) from by omega];refine JC.dh rfl<|Jk<|JC.seq<|JC.block<|JC.seq<|Js<|Lm rfl<|Lm rfl<|?_;have iD:j-1<n1:=af;refine kM rfl rfl ags agr rfl iD (FL.some_ (HS.at_ 1 rfl) ai iD)<|?_;have hx25:j-1<bz.length:=af;obtain ⟨lH,kG,n25,c25,kH,m25,d25,hc25,HS⟩:=HS.kV 0 rfl (j-1) hx25;refine Lz (.agg #[.bool lH,.slice kG n25 c25,.slice kH m25 d25]) (fun a ha=>jk (o:=0) (j:=(j-1)) (ha.ev rfl) agt agr (HS.at_ 2 rfl) iD ai ai hc25 rfl)<|JL.call rfl rfl Tryz.call65 (Iq HT HB HS (HS.at_ 0 rfl) af)<|?_;rintro v26 Dt ⟨rfl,HS⟩;refine Lz (.bool (decide (((el bz (j-1)).1)=0))) (fun a ha=>gY (ha.ev rfl) (ha.ev rfl) (IW _))<|Jn<|?_
  cases oq:((decide (((el bz (j-1)).1)=0)))
  ·skip
   have hd27:=of_decide_eq_false oq;refine JC.cO rfl<|Jk<|JC.seq<|Js<|Lm rfl<|Lz (.bool (!(decide (l=[])))) (fun a ha=>ac8 (ha.ev rfl) (ha.ev rfl) (aao l))<|Jn<|?_
   cases xu:((decide (l=[])))
   ·skip
    have hd28:=of_decide_eq_false xu;refine JC.dh rfl<|JC.region<|Lm rfl<|Lz (.string ⟨(l++[32,43,32]).toArray⟩) (fun a ha=>iw (ha.ev rfl) (ha.ev rfl) (by have h7:=bH.2.2;have h8:=fP (fJ (HS.at_ 0 rfl) hn1 hav af);have h9:=eY (m:=j-1) af;(try simp only [List.length_append,List.length_cons,List.length_nil]);omega) rfl)<|Lz (.string ⟨(l++[32,43,32]).toArray⟩) (fun a ha=>run_assign (ha.ev rfl))<|Jn<|Js<|Lz (.string ⟨(l++[32,43,32]).toArray⟩) (fun a ha=>run_move (ha.ev rfl))<|Lm rfl<|Lm rfl<|kM rfl rfl ags agr rfl iD (FL.some_ (HS.at_ 2 rfl) ai iD)<|Lz (.agg #[.bool lH,.slice kG n25 c25,.slice kH m25 d25]) (fun a ha=>jk (o:=0) (j:=(j-1)) (ha.ev rfl) agt agr (HS.at_ 2 rfl) iD ai ai hc25 rfl)<|JL.call rfl rfl Tryz.call66 (Q9 HT HB HS (HS.at_ 0 rfl) af)<|?_;rintro v29 Jq ⟨rfl,HS⟩;refine Lz (.string ⟨((l++[32,43,32])++(bW ((el bz (j-1)).1))).toArray⟩) (fun a ha=>iw (ha.ev rfl) (ha.ev rfl) (by have h7:=bH.2.2;have h8:=fP (fJ (HS.at_ 0 rfl) hn1 hav af);have h9:=eY (m:=j-1) af;(try simp only [List.length_append,List.length_cons,List.length_nil]);omega) rfl)<|Lz (.string ⟨((l++[32,43,32])++(bW ((el bz (j-1)).1))).toArray⟩) (fun a ha=>run_assign (ha.ev rfl))<|Jn<|JC.seq<|Js<|Lm rfl<|Lz (.bool (decide (((j-1:Nat):Int) > 0))) (fun a ha=>iK (ha.ev rfl) (ha.ev rfl) rfl)<|Jn<|?_
    cases xw:(decide (((j-1:Nat):Int) > 0))
    ·skip
     have FY:=of_decide_eq_false xw;refine JC.cO rfl<|Jk<|Js<|Lm rfl<|Lz (.bool (decide (((j-1:Nat):Int) > 1))) (fun a ha=>iK (ha.ev rfl) (ha.ev rfl) rfl)<|Jn<|?_
     cases Ov:(decide (((j-1:Nat):Int) > 1))
     ·skip
      have hd31:=of_decide_eq_false Ov;refine JC.cO rfl<|JC.lI (fun _ _ h=>h)<|JC.region<|Lm rfl<|Lz (.int .i64 (((j-1:Nat):Int)-1)) (fun a ha=>fF (ha.ev rfl) (ha.ev rfl) ((IntKind.wrap_i64 _).trans af))<|La rfl<|?_;exact Jr ((j-1),((l++[32,43,32])++(bW ((el bz (j-1)).1)))) ⟨⟨(by dsimp only;omega),(by rw [uO hj0 bH.1 (by assumption),<- bH.2.1,if_neg (by assumption),<- QB af];simp),(by have h7:=bH.2.2;have h8:=fP (fJ (HS.at_ 0 rfl) hn1 hav af);have h9:=eY (m:=j-1) af;dsimp only;(try simp only [List.length_append,List.length_cons,List.length_nil]);omega)⟩,HS.o0 0 1⟩
     ·skip
      have hd31:=of_decide_eq_true Ov;refine JC.dh rfl<|JC.region<|Lz (.string ⟨((l++[32,43,32])++(bW ((el bz (j-1)).1))).toArray⟩) (fun a ha=>run_move (ha.ev rfl))<|Lm rfl<|JL.call rfl rfl agJ (CJ (m1:=j-1) HT HB HS af)<|?_;rintro v32 w32 ⟨rfl,HS⟩;refine Lz (.string ⟨([94]++(Lib.decDigits (j-1))).toArray⟩) (fun a ha=>iw (ha.ev rfl) (ha.ev rfl) (by have h7:=bH.2.2;have h8:=fP (fJ (HS.at_ 0 rfl) hn1 hav af);have h9:=eY (m:=j-1) af;(try simp only [List.length_append,List.length_cons,List.length_nil]);omega) rfl)<|Lz (.string ⟨(((l++[32,43,32])++(bW ((el bz (j-1)).1)))++([94]++(Lib.decDigits (j-1)))).toArray⟩) (fun a ha=>iw (ha.ev rfl) (ha.ev rfl) (by have h7:=bH.2.2;have h8:=fP (fJ (HS.at_ 0 rfl) hn1 hav af);have h9:=eY (m:=j-1) af;(try simp only [List.length_append,List.length_cons,List.length_nil]);omega) rfl)<|Lz (.string ⟨(((l++[32,43,32])++(bW ((el bz (j-1)).1)))++([94]++(Lib.decDigits (j-1)))).toArray⟩) (fun a ha=>run_assign (ha.ev rfl))<|JL.qR (fun _ _ h=>h)<|JC.region<|Lm rfl<|Lz (.int .i64 (((j-1:Nat):Int)-1)) (fun a ha=>fF (ha.ev rfl) (ha.ev rfl) ((IntKind.wrap_i64 _).trans af))<|La rfl<|?_;exact Jr ((j-1),(((l++[32,43,32])++(bW ((el bz (j-1)).1)))++([94]++(Lib.decDigits (j-1))))) ⟨⟨(by dsimp only;omega),(by exfalso;omega),(by have h7:=bH.2.2;have h8:=fP (fJ (HS.at_ 0 rfl) hn1 hav af);have h9:=eY (m:=j-1) af;dsimp only;(try simp only [List.length_append,List.length_cons,List.length_nil]);omega)⟩,HS.o0 0 1⟩
    ·skip
     have FY:=of_decide_eq_true xw;refine JC.dh rfl<|JC.region<|Lz (.string ⟨((l++[32,43,32])++(bW ((el bz (j-1)).1))).toArray⟩) (fun a ha=>run_move (ha.ev rfl))<|Lz (.string ⟨(((l++[32,43,32])++(bW ((el bz (j-1)).1)))++[32,120]).toArray⟩) (fun a ha=>iw (ha.ev rfl) (ha.ev rfl) (by have h7:=bH.2.2;have h8:=fP (fJ (HS.at_ 0 rfl) hn1 hav af);have h9:=eY (m:=j-1) af;(try simp only [List.length_append,List.length_cons,List.length_nil]);omega) rfl)<|Lz (.string ⟨(((l++[32,43,32])++(bW ((el bz (j-1)).1)))++[32,120]).toArray⟩) (fun a ha=>run_assign (ha.ev rfl))<|Jn<|Js<|Lm rfl<|Lz (.bool (decide (((j-1:Nat):Int) > 1))) (fun a ha=>iK (ha.ev rfl) (ha.ev rfl) rfl)<|Jn<|?_
     cases uj:(decide (((j-1:Nat):Int) > 1))
     ·skip
      have FZ:=of_decide_eq_false uj;refine JC.cO rfl<|JC.lI (fun _ _ h=>h)<|JC.region<|Lm rfl<|Lz (.int .i64 (((j-1:Nat):Int)-1)) (fun a ha=>fF (ha.ev rfl) (ha.ev rfl) ((IntKind.wrap_i64 _).trans af))<|La rfl<|?_;exact Jr ((j-1),(((l++[32,43,32])++(bW ((el bz (j-1)).1)))++[32,120])) ⟨⟨(by dsimp only;omega),(by rw [uO hj0 bH.1 (by assumption),<- bH.2.1,if_neg (by assumption),<- QC af];simp),(by have h7:=bH.2.2;have h8:=fP (fJ (HS.at_ 0 rfl) hn1 hav af);have h9:=eY (m:=j-1) af;dsimp only;(try simp only [List.length_append,List.length_cons,List.length_nil]);omega)⟩,HS.o0 0 1⟩
     ·skip
      have FZ:=of_decide_eq_true uj;refine JC.dh rfl<|JC.region<|Lz (.string ⟨(((l++[32,43,32])++(bW ((el bz (j-1)).1)))++[32,120]).toArray⟩) (fun a ha=>run_move (ha.ev rfl))<|Lm rfl<|JL.call rfl rfl agJ (CJ (m1:=j-1) HT HB HS af)<|?_;rintro v34 TD ⟨rfl,HS⟩;refine Lz (.string ⟨([94]++(Lib.decDigits (j-1))).toArray⟩) (fun a ha=>iw (ha.ev rfl) (ha.ev rfl) (by have h7:=bH.2.2;have h8:=fP (fJ (HS.at_ 0 rfl) hn1 hav af);have h9:=eY (m:=j-1) af;(try simp only [List.length_append,List.length_cons,List.length_nil]);omega) rfl)<|Lz (.string ⟨((((l++[32,43,32])++(bW ((el bz (j-1)).1)))++[32,120])++([94]++(Lib.decDigits (j-1)))).toArray⟩) (fun a ha=>iw (ha.ev rfl) (ha.ev rfl) (by have h7:=bH.2.2;have h8:=fP (fJ (HS.at_ 0 rfl) hn1 hav af);have h9:=eY (m:=j-1) af;(try simp only [List.length_append,List.length_cons,List.length_nil]);omega) rfl)<|Lz (.string ⟨((((l++[32,43,32])++(bW ((el bz (j-1)).1)))++[32,120])++([94]++(Lib.decDigits (j-1)))).toArray⟩) (fun a ha=>run_assign (ha.ev rfl))<|JL.qR (fun _ _ h=>h)<|JC.region<|Lm rfl<|Lz (.int .i64 (((j-1:Nat):Int)-1)) (fun a ha=>fF (ha.ev rfl) (ha.ev rfl) ((IntKind.wrap_i64 _).trans af))<|La rfl<|?_;exact Jr ((j-1),((((l++[32,43,32])++(bW ((el bz (j-1)).1)))++[32,120])++([94]++(Lib.decDigits (j-1))))) ⟨⟨(by dsimp only;omega),(by rw [uO hj0 bH.1 (by assumption),<- bH.2.1,if_neg (by assumption),<- QD af];simp),(by have h7:=bH.2.2;have h8:=fP (fJ (HS.at_ 0 rfl) hn1 hav af);have h9:=eY (m:=j-1) af;dsimp only;(try simp only [List.length_append,List.length_cons,List.length_nil]);omega)⟩,HS.o0 0 1⟩
   ·skip
    have hd28:=of_decide_eq_true xu;refine JC.cO rfl<|Jk<|Js<|Lm rfl<|Lm rfl<|Lm rfl<|kM rfl rfl ags agr rfl iD (FL.some_ (HS.at_ 2 rfl) ai iD)<|Lz (.agg #[.bool lH,.slice kG n25 c25,.slice kH m25 d25]) (fun a ha=>jk (o:=0) (j:=(j-1)) (ha.ev rfl) agt agr (HS.at_ 2 rfl) iD ai ai hc25 rfl)<|JL.call rfl rfl Tryz.call66 (Q9 HT HB HS (HS.at_ 0 rfl) af)<|?_;rintro v35 w35 ⟨rfl,HS⟩;refine Lz (.string ⟨(l++(bW ((el bz (j-1)).1))).toArray⟩) (fun a ha=>iw (ha.ev rfl) (ha.ev rfl) (by have h7:=bH.2.2;have h8:=fP (fJ (HS.at_ 0 rfl) hn1 hav af);have h9:=eY (m:=j-1) af;(try simp only [List.length_append,List.length_cons,List.length_nil]);omega) rfl)<|Lz (.string ⟨(l++(bW ((el bz (j-1)).1))).toArray⟩) (fun a ha=>run_assign (ha.ev rfl))<|Jn<|JC.seq<|Js<|Lm rfl<|Lz (.bool (decide (((j-1:Nat):Int) > 0))) (fun a ha=>iK (ha.ev rfl) (ha.ev rfl) rfl)<|Jn<|?_
    cases Oz:(decide (((j-1:Nat):Int) > 0))
    ·skip
     have YY:=of_decide_eq_false Oz;refine JC.cO rfl<|Jk<|Js<|Lm rfl<|Lz (.bool (decide (((j-1:Nat):Int) > 1))) (fun a ha=>iK (ha.ev rfl) (ha.ev rfl) rfl)<|Jn<|?_
     cases OA:(decide (((j-1:Nat):Int) > 1))
     ·skip
      have YZ:=of_decide_eq_false OA;refine JC.cO rfl<|JC.lI (fun _ _ h=>h)<|JC.region<|Lm rfl<|Lz (.int .i64 (((j-1:Nat):Int)-1)) (fun a ha=>fF (ha.ev rfl) (ha.ev rfl) ((IntKind.wrap_i64 _).trans af))<|La rfl<|?_;exact Jr ((j-1),(l++(bW ((el bz (j-1)).1)))) ⟨⟨(by dsimp only;omega),(by rw [uO hj0 bH.1 (by assumption),<- bH.2.1,if_pos (by assumption),<- QB af];simp;assumption),(by have h7:=bH.2.2;have h8:=fP (fJ (HS.at_ 0 rfl) hn1 hav af);have h9:=eY (m:=j-1) af;dsimp only;(try simp only [List.length_append,List.length_cons,List.length_nil]);omega)⟩,HS.o0 0 1⟩
     ·skip
      have YZ:=of_decide_eq_true OA;refine JC.dh rfl<|JC.region<|Lz (.string ⟨(l++(bW ((el bz (j-1)).1))).toArray⟩) (fun a ha=>run_move (ha.ev rfl))<|Lm rfl<|JL.call rfl rfl agJ (CJ (m1:=j-1) HT HB HS af)<|?_;rintro v38 TE ⟨rfl,HS⟩;refine Lz (.string ⟨([94]++(Lib.decDigits (j-1))).toArray⟩) (fun a ha=>iw (ha.ev rfl) (ha.ev rfl) (by have h7:=bH.2.2;have h8:=fP (fJ (HS.at_ 0 rfl) hn1 hav af);have h9:=eY (m:=j-1) af;(try simp only [List.length_append,List.length_cons,List.length_nil]);omega) rfl)<|Lz (.string ⟨((l++(bW ((el bz (j-1)).1)))++([94]++(Lib.decDigits (j-1)))).toArray⟩) (fun a ha=>iw (ha.ev rfl) (ha.ev rfl) (by have h7:=bH.2.2;have h8:=fP (fJ (HS.at_ 0 rfl) hn1 hav af);have h9:=eY (m:=j-1) af;(try simp only [List.length_append,List.length_cons,List.length_nil]);omega) rfl)<|Lz (.string ⟨((l++(bW ((el bz (j-1)).1)))++([94]++(Lib.decDigits (j-1)))).toArray⟩) (fun a ha=>run_assign (ha.ev rfl))<|JL.qR (fun _ _ h=>h)<|JC.region<|Lm rfl<|Lz (.int .i64 (((j-1:Nat):Int)-1)) (fun a ha=>fF (ha.ev rfl) (ha.ev rfl) ((IntKind.wrap_i64 _).trans af))<|La rfl<|?_;exact Jr ((j-1),((l++(bW ((el bz (j-1)).1)))++([94]++(Lib.decDigits (j-1))))) ⟨⟨(by dsimp only;omega),(by exfalso;omega),(by have h7:=bH.2.2;have h8:=fP (fJ (HS.at_ 0 rfl) hn1 hav af);have h9:=eY (m:=j-1) af;dsimp only;(try simp only [List.length_append,List.length_cons,List.length_nil]);omega)⟩,HS.o0 0 1⟩
    ·skip
     have YY:=of_decide_eq_true Oz;refine JC.dh rfl<|JC.region<|Lz (.string ⟨(l++(bW ((el bz (j-1)).1))).toArray⟩) (fun a ha=>run_move (ha.ev rfl))<|Lz (.string ⟨((l++(bW ((el bz (j-1)).1)))++[32,120]).toArray⟩) (fun a ha=>iw (ha.ev rfl) (ha.ev rfl) (by have h7:=bH.2.2;have h8:=fP (fJ (HS.at_ 0 rfl) hn1 hav af);have h9:=eY (m:=j-1) af;(try simp only [List.length_append,List.length_cons,List.length_nil]);omega) rfl)<|Lz (.string ⟨((l++(bW ((el bz (j-1)).1)))++[32,120]).toArray⟩) (fun a ha=>run_assign (ha.ev rfl))<|Jn<|Js<|Lm rfl<|Lz (.bool (decide (((j-1:Nat):Int) > 1))) (fun a ha=>iK (ha.ev rfl) (ha.ev rfl) rfl)<|Jn<|?_
     cases OB:(decide (((j-1:Nat):Int) > 1))
     ·skip
      have hd39:=of_decide_eq_false OB;refine JC.cO rfl<|JC.lI (fun _ _ h=>h)<|JC.region<|Lm rfl<|Lz (.int .i64 (((j-1:Nat):Int)-1)) (fun a ha=>fF (ha.ev rfl) (ha.ev rfl) ((IntKind.wrap_i64 _).trans af))<|La rfl<|?_;exact Jr ((j-1),((l++(bW ((el bz (j-1)).1)))++[32,120])) ⟨⟨(by dsimp only;omega),(by rw [uO hj0 bH.1 (by assumption),<- bH.2.1,if_pos (by assumption),<- QC af];simp;assumption),(by have h7:=bH.2.2;have h8:=fP (fJ (HS.at_ 0 rfl) hn1 hav af);have h9:=eY (m:=j-1) af;dsimp only;(try simp only [List.length_append,List.length_cons,List.length_nil]);omega)⟩,HS.o0 0 1⟩
     ·skip
      have hd39:=of_decide_eq_true OB;refine JC.dh rfl<|JC.region<|Lz (.string ⟨((l++(bW ((el bz (j-1)).1)))++[32,120]).toArray⟩) (fun a ha=>run_move (ha.ev rfl))<|Lm rfl<|JL.call rfl rfl agJ (CJ (m1:=j-1) HT HB HS af)<|?_;rintro v40 TG ⟨rfl,HS⟩;refine Lz (.string ⟨([94]++(Lib.decDigits (j-1))).toArray⟩) (fun a ha=>iw (ha.ev rfl) (ha.ev rfl) (by have h7:=bH.2.2;have h8:=fP (fJ (HS.at_ 0 rfl) hn1 hav af);have h9:=eY (m:=j-1) af;(try simp only [List.length_append,List.length_cons,List.length_nil]);omega) rfl)<|Lz (.string ⟨(((l++(bW ((el bz (j-1)).1)))++[32,120])++([94]++(Lib.decDigits (j-1)))).toArray⟩) (fun a ha=>iw (ha.ev rfl) (ha.ev rfl) (by have h7:=bH.2.2;have h8:=fP (fJ (HS.at_ 0 rfl) hn1 hav af);have h9:=eY (m:=j-1) af;(try simp only [List.length_append,List.length_cons,List.length_nil]);omega) rfl)<|Lz (.string ⟨(((l++(bW ((el bz (j-1)).1)))++[32,120])++([94]++(Lib.decDigits (j-1)))).toArray⟩) (fun a ha=>run_assign (ha.ev rfl))<|JL.qR (fun _ _ h=>h)<|JC.region<|Lm rfl<|Lz (.int .i64 (((j-1:Nat):Int)-1)) (fun a ha=>fF (ha.ev rfl) (ha.ev rfl) ((IntKind.wrap_i64 _).trans af))<|La rfl<|?_;exact Jr ((j-1),(((l++(bW ((el bz (j-1)).1)))++[32,120])++([94]++(Lib.decDigits (j-1))))) ⟨⟨(by dsimp only;omega),(by rw [uO hj0 bH.1 (by assumption),<- bH.2.1,if_pos (by assumption),<- QD af];simp;assumption),(by have h7:=bH.2.2;have h8:=fP (fJ (HS.at_ 0 rfl) hn1 hav af);have h9:=eY (m:=j-1) af;dsimp only;(try simp only [List.length_append,List.length_cons,List.length_nil]);omega)⟩,HS.o0 0 1⟩
  ·skip
   have hd27:=of_decide_eq_true oq;refine JC.dh rfl<|JC.exit (fun _ _ h=>h) (fun _ _ h=>h)<|JC.region<|Lm rfl<|Lz (.int .i64 (((j-1:Nat):Int)-1)) (fun a ha=>fF (ha.ev rfl) (ha.ev rfl) ((IntKind.wrap_i64 _).trans af))<|La rfl<|?_;exact Jr ((j-1),l) ⟨⟨(by dsimp only;omega),(bH.2.1.trans (acF hj0 bH.1 (by assumption))),(by have:=bH.2.2;dsimp only;omega)⟩,HS.o0 0 1⟩
end
end Go.Proofs.AZQ
namespace Lw
open Go Go.RowKit bJ
variable {ds:List Deferred} {r:Option Nat}
section
variable {P:Program} {ops:Array Oper} {Q:Exit->Act->World->Prop} {late:List Nat} {S:World->Prop} {fuel:Nat} {listed:Array Bool} {N d:Nat} {T:List (Nat×Value)} {W0 w:World} {U:List Box} {Ps:List (World->Prop)}
theorem dF.append{Ub:List Box}{t tx e:TypeId}{s x:Operand}{z xv:Value}{size bytes n c m:Nat}{A:Option Addr}{cur vals news zs:List Value}{ty:TypeId}{pos:String}{bn:Array Edge}{i:Nat}{rs:List Nat}(HS:St W0 (Ub++(rowB A e cur++U)) Ps w)(hrow:Row size A n c cur vals)(hi:ops[i]? = some ⟨some d,.call ⟨.builtin .append,#[s,x],#[t,tx]⟩,ty,pos,bn,none⟩)(hN:Nat.ble (d+1) N=true)(hs:ev T s=some (.slice A n c))(hx:ev T x=some xv)(hsrc:Src P size tx xv m news w)(hnw:news.all dO=true)(ht:P.underlying t=some (.slice e))(hin:(P.info? e).map (fun i=>(i.zero,i.size,i.bytes))=some (some z,size,bytes))(hz:z.cells=zs.toArray)(hzl:zs.length=size)(iq:zs.all dO=true)(hb:Nat.ble bytes 1000=true)(hn:n+m<=100000000)(h : ∀ A' c' cur' w',Row size A' (n+m) c' cur' (vals++news)->St W0 (Ub++(rowB A' e cur'++U)) Ps w'->(bY late (listed.setIfInBounds i true)->S w')/\JR ds P ops Q late S fuel (listed.setIfInBounds i true) N ((d,.slice A' (n+m) c')::T) w')(hrest:dF ds P ops Q late S fuel listed N T w rs):dF ds P ops Q late S fuel listed N T w (i::rs):=by
 intro j hj a ha;rcases List.mem_cons.1 hj with rfl | hj
 ·obtain ⟨A',c',cur',w',r,hs',hrun⟩:=EJ (d:=d) (N:=N) (ty:=ty) (pos:=pos) (bn:=bn) HS hrow hs hx hsrc hnw ht hin hz hzl iq hb hn
  unfold eH;simp only [hi];rw [if_pos (show Region.wanted _ _=true from rfl)];unfold mO;rw [hrun a ha];have:=h A' c' cur' w' r hs';exact ⟨this.1,this.2 _ (ha.put hN _)⟩
 ·exact hrest j hj a ha
theorem Src.words{A:Option Addr}{n c:Nat}{l:List Nat}(h:FW (.slice A n c) l w){tx e':TypeId}(hk:P.underlying tx=some (.slice e')):Src P 1 tx (.slice A n c) n (arr l) w:=by
 obtain ⟨h1,h2,h3⟩:=h.rd;have hl:(arr l).length=n*1:=by rw [jJ,h2,ahJ]
 cases A with
 | none =>
  have h0:l.length=0:=by
   rcases ahE l.length with h0 | h0
   ·exact h0
   ·obtain ⟨b,off,e,_⟩:=h1.2 h0
    cases e
  obtain rfl:=ahT.1 h0;obtain rfl:n=0:=h2.symm;exact Src.ofNil w hk c
 | some a =>
  refine Src.ofSlice w hk a n c (arr l) hl (fun j u hj => ?_) (KU l);have hjl:j<l.length:=by grind
  obtain ⟨b,off,e,_,hc⟩:=h1.2 af;obtain rfl:=Option.some.inj e;rw [yS l j hjl] at hj;rw [<- Option.some.inj hj,Addr.add_lit];grind
theorem FW.some_{A:Option Addr}{n c j:Nat}{l:List Nat}(h:FW (.slice A n c) l w)(hj:j<n):A.isSome=true:=by
 obtain ⟨h1,h2,_⟩:=h.rd;obtain ⟨b,off,rfl,_⟩:=h1.2 af
 rfl
theorem IC{ρ:Operand->Value}{dst:Option Tmp}{ty:TypeId}{pos:String}{bn:Array Edge}{gd:Option (Nat×Bool)}{t:TypeId}{x:Operand}{A:Option Addr}{n c j:Nat}{l:List Nat}(hx:ρ x = .pointer (some (eaddr A (j*1))))(hg : ∀ w,(isAgg t).run P w = .ok false w)(h:FW (.slice A n c) l w)(hj:j<n) :
  (execOp ρ ⟨dst,.load t x,ty,pos,bn,gd⟩).run P w = .ok (.value (.int .u32 ((dg l j:Nat):Int))) w:=by
 obtain ⟨h1,h2,_⟩:=h.rd;obtain ⟨b,off,rfl,_,hc⟩:=h1.2 af;have hcell:=hc j af;rw [zl,ahJ] at hx;unfold World.cell? at hcell
 cases hb:w.heap[b]? with
 | none=>simp only [hb] at hcell;cases hcell
 | some o =>
  simp only [hb] at hcell
  cases o with
  | cells cs et fz =>
   obtain ⟨f1,f2⟩:=fz;exact iY hx hg hb (by simpa using hcell)
  | _=>cases hcell
end
end Lw
