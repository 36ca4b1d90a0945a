/- Part of a proof, said shortly. -/
import Derived.Deep.RegionHeld3
import Derived.Test.YtkcpphebkmnonaaGreatDoorAlzb
import Derived.Test.YtkcpphebkmnonaaGreatDoorC12b
import Derived.Test.YtkcpphebkmnonaaGreatDoorS3b
import Derived.Test.YtkcpphebkmnonaaGreatDoorC9b
import Derived.Test.YtkcpphebkmnonaaGreatDoorC8b
import Derived.Test.YtkcpphebkmnonaaGreatDoorC5b
import Derived.Test.YtkcpphebkmnonaaGreatDoorC2b
import Derived.Test.YtkcpphebkmnonaaGreatDoorC1b
import Derived.Test.YtkcpphebkmnonaaGreatDoorC4b
import Derived.Test.YtkcpphebkmnonaaGreatDoorC3b
import Derived.Test.YtkcpphebkmnonaaGreatDoorC7b
import Derived.Test.YtkcpphebkmnonaaGreatDoorC6b
import Derived.Test.YtkcpphebkmnonaaGreatDoorC11b
import Derived.Test.YtkcpphebkmnonaaGreatDoorC17b
import Derived.Test.YtkcpphebkmnonaaGreatDoorC16b
import Derived.Test.YtkcpphebkmnonaaGreatDoorC15b
import Derived.Test.YtkcpphebkmnonaaGreatDoorC13b
import Derived.Test.YtkcpphebkmnonaaGreatDoorC14b
set_option maxRecDepth 100000
set_option maxHeartbeats 8000000
set_option linter.unusedVariables false
set_option linter.unusedSimpArgs false
namespace Lw
open Go Go.RowKit
theorem aa8{l:List UInt8}{c:UInt8}(h : ∀ x∈l,x≠c):Lib.indexByte l c = -1:=by
 induction l with
 | nil=>rfl
 | cons b l ih =>
  unfold Lib.indexByte;rw [if_neg (by simpa using h b ak),ih (fun x hx=>h x (.tail _ hx))]
  rfl
theorem ae4{l:List UInt8}{c:UInt8}(h : ∀ x∈l,x≠c):Lib.index l [c] = -1:=by
 induction l with
 | nil=>rfl
 | cons b l ih =>
  have hb:([c].isPrefixOf (b::l))=false:=by
   simp only [List.isPrefixOf,Bool.and_true,beq_eq_false_iff_ne];exact fun e=>h b ak e.symm
  unfold Lib.index;rw [hb,ih (fun x hx=>h x (.tail _ hx))]
  rfl
theorem ae3{l:List UInt8}{c:UInt8}(r:List UInt8)(h : ∀ x∈l,x≠c):Lib.index (l++([c]++r)) [c]=(l.length:Int):=by
 induction l with
 | nil =>
  show Lib.index (c::r) [c]=0;unfold Lib.index;rw [if_pos (by simp [List.isPrefixOf])]
 | cons b l ih =>
  have hb:([c].isPrefixOf (b::(l++([c]++r))))=false:=by
   simp only [List.isPrefixOf,Bool.and_true,beq_eq_false_iff_ne];exact fun e=>h b ak e.symm
  show Lib.index (b::(l++([c]++r))) [c]=_;unfold Lib.index;rw [hb,ih (fun x hx=>h x (.tail _ hx))];have:(((l.length:Int)) == -1)=false:=by rw [beq_eq_false_iff_ne];omega
  rw [this];simp
theorem abR{l:List UInt8}{c:UInt8}(h : ∀ x∈l,x≠c):Lib.cut l [c]=(l,[],false):=by
 unfold Lib.cut;rw [ae4 h,if_neg ai]
theorem BM{l:List UInt8}{c:UInt8}(r:List UInt8)(h : ∀ x∈l,x≠c):Lib.cut (l++([c]++r)) [c]=(l,r,true):=by
 unfold Lib.cut;rw [ae3 r h,if_pos af];simp
theorem afb(z:Int) : ∀ x∈Lib.itoa z,x.toNat=45\/(48<=x.toNat/\x.toNat<=57):=by
 intro x hx
 cases hs:sg z
 ·rw [kZ hs] at hx
  simp only [awj] at hx;exact .inr (yX _ x hx)
 ·rw [itoa_neg hs] at hx
  rcases awE.1 hx with hx | hx
  ·simp only [List.mem_cons,List.not_mem_nil,or_false] at hx
   subst hx;exact .inl rfl
  ·exact .inr (yX _ x hx)
theorem Dh{z:Int}{c:UInt8}(h:c.toNat=46\/c.toNat=47) : ∀ x∈Lib.itoa z,x≠c:=by
 rintro x hx rfl;have:=afb z x hx;omega
theorem ab2{N k:Nat}(h:N<pw k)(hk:k<=100):(Lib.decDigits N).length<=1001:=by
 have h1:pw k<=(10^10)^k:=by unfold pw;exact axK ai k
 rw [<- awY] at h1;have h2:10^(10*k)<=10^(10*k+1):=awv af af;have h3:=RG (10*k) N af;omega
theorem afc{z:Int}{k:Nat}(h:z.natAbs<pw k)(hk:k<=100):(Lib.itoa z).length<=1002:=by
 have:=ab2 h hk
 cases hs:sg z
 ·rw [kZ hs];simp;omega
 ·rw [itoa_neg hs];simp;omega
end Lw
namespace Go.Proofs.BGQ
open Go Go.RowKit Lw
section
variable {W0 w:World} {bs:List Bx} {L:List En} {ts:List Bt} {M:List Qn} {s:Bool} {A A':Option Addr} {n c n' c' k:Nat} {q:Rat} {b:Bool}
theorem bu.k2{g:Nat}{x y:Value}(h:bu W0 w (⟨g,x,y⟩::bs) L ts M):w.cell? ⟨g,0,none⟩=some x/\w.cell? ⟨g,1,none⟩=some y:=⟨(h.c2 ak).1,(h.c2 ak).2.1⟩
end
open bF
section
variable {W0 w:World} {U:List Box} {Ps:List (World->Prop)}
variable {s1:Bool} {x1:Int} {c1 k1 n1:Nat} {A1:Option Addr} {q:Rat}
variable {s1:Bool} {A1:Option Addr} {n1 c1:Nat} {B1:Option Addr} {m1 d1:Nat}
theorem FI.Ir{v:Value}{z:Int}{k:Nat}{w:World}(h:FI v z k w)(hk:k<=100):(Lib.itoa z).length<=1002:=afc (dK.lt h) hk
theorem aiu(HS:St W0 U Ps w)(f1:FI (.agg #[.bool s1,.slice A1 n1 c1]) x1 k1 w)(hk:k1<=10000):bC Tryz.prog 109 [.agg #[.bool s1,.slice A1 n1 c1]] w (di W0 U Ps (.string ⟨(Lib.itoa x1).toArray⟩)):=by
 obtain ⟨s,A,n,c,ns,B,he,h1,h2,h3,h4,h5,h6,-⟩:=f1
 injection he with he;obtain ⟨rfl,rfl,rfl,rfl⟩:s1=s/\A1=A/\n1=n/\c1=c:=by simpa using he
 have hz:zv s1 ns=x1:=h6;have hk':n1<=k1:=h4;rw [<- hz];refine Calls.mono (ahO s1 A1 ns n1 c1 B w h1 h2 h3 af h5) fun e w' hh => ?_;obtain ⟨rfl,hb⟩:=hh;exact ⟨_,rfl,rfl,HS.next hb⟩
theorem NF(_:Tz W0)(_:Tab W0)(HS:St W0 U Ps w)(f1:FI (.agg #[.bool s1,.slice A1 n1 c1]) x1 k1 w)(hk:k1<=10000):bC Tryz.prog 109 [.agg #[.bool s1,.slice A1 n1 c1]] w (di W0 U Ps (.string ⟨(Lib.itoa x1).toArray⟩)):=aiu HS f1 hk
theorem ahe(h:decide ((q.den:Int)=1)=true):Lib.itoa q.num=lD q:=by
 have h:=of_decide_eq_true h;unfold lD;rw [if_pos af]
theorem ahf(h:decide ((q.den:Int)=1)=false):(Lib.itoa q.num++[47])++Lib.itoa (q.den:Int)=lD q:=by
 have h:=of_decide_eq_false h;unfold lD;rw [if_neg af,List.append_assoc]
theorem Xc(HT:Tz W0)(HB:Tab W0){q1:Rat}{b1:Bool}(HS:St W0 U Ps w)(f1:FV (avS s1 A1 n1 c1 B1 m1 d1) q1 k1 b1 w)(hk:k1<=90):bC Tryz.prog 65 [(avS s1 A1 n1 c1 B1 m1 d1)] w (di W0 U Ps (.string ⟨(lD q1).toArray⟩)):=by
 have HS:=HS.add (FV.stable _ _ _ _) f1;clear f1;refine cO Tryz.func65 rfl Tryz.ntmps65 rfl<|Js<|JL.box (vs:=(avT s1 A1 n1 c1 B1 m1 d1)) HS rfl rfl rfl rfl (fun g1 w1 HS => ?_);refine La rfl<|Jn<|Js<|JL.load (avS s1 A1 n1 c1 B1 m1 d1) HS 0 rfl rfl rfl atD atz rfl rfl<|JL.call rfl rfl Tryz.call99 (aii HT HB HS (HS.at_ 0 rfl) af)<|?_;rintro v2 w2 ⟨uy,qQ,sF,rf,uz,qR,sG,rq,rfl,HS⟩;refine Lm rfl<|Lx rfl rfl<|Lx rfl rfl<|JL.alloc (vs:=[.bool false,.slice none 0 0]) HS rfl atM rfl rfl (fun g3 w3 HS => ?_);refine JL.alloc (vs:=[.bool false,.slice none 0 0]) HS rfl atM rfl rfl (fun g4 w4 HS => ?_);refine JL.store HS rfl rfl (i:=1) rfl atB rfl rfl rfl (vs':=[.bool uy,.slice qQ sF rf]) rfl rfl (fun w5 HS => ?_);refine JL.store HS rfl rfl (i:=0) rfl atB rfl rfl rfl (vs':=[.bool uz,.slice qR sG rq]) rfl rfl (fun w6 HS => ?_);refine Jn<|JC.seq<|JC.seq<|JC.draw HS [] ah (fun w7 HS => ?_);refine Da (.agg #[.bool uz,.slice qR sG rq]) 0 0 rfl HS.b0 rfl rfl atH atB<|bV 1 rfl rfl rfl auz (vZ HT HB HS  )<|?_;rintro akG alr ⟨aiW,Zp,afX,abp,rfl,HS⟩;refine ⟨HS.b0,?_⟩;refine bV 2 rfl rfl rfl Tryz.call96 (ahs HT HB HS (HS.at_ 2 rfl) (HS.at_ 0 rfl) af)<|?_;rintro akH als ⟨rfl,HS⟩;refine ⟨HS.b0,?_⟩;refine Dv (.bool (decide ((q1.den:Int)=1))) 3 rfl HS.b0 (fun a ha w=>dh (ha.ev rfl) (ha.ev rfl) (Rl _ _))<|JR.next ah (fun _ _ h=>h)<|?_
 cases rX:((decide ((q1.den:Int)=1)))
 ·skip
  refine JC.bG rfl<|Jk<|JC.seq<|JC.draw HS [] ah (fun w10 HS => ?_);refine Da (.agg #[.bool uy,.slice qQ sF rf]) 0 1 rfl HS.b0 rfl rfl atH atB<|Da (.agg #[.bool uz,.slice qR sG rq]) 3 0 rfl HS.b0 rfl rfl atH atB<|bV 1 rfl rfl rfl Tryz.call109 (NF HT HB HS (HS.at_ 1 rfl) af)<|?_;rintro aqe arp ⟨rfl,HS⟩;refine ⟨HS.b0,?_⟩;refine Dv (.string ⟨((Lib.itoa q1.num)++[47]).toArray⟩) 2 rfl HS.b0 (fun a ha w=>H9 (ha.ev rfl) (ha.ev rfl) (by have:=FI.Ir (HS.at_ 1 rfl) af;have:=FI.Ir (HS.at_ 2 rfl) af;simp only [awO,awq,List.length_nil];omega) rfl)<|bV 4 rfl rfl rfl Tryz.call109 (NF HT HB HS (HS.at_ 2 rfl) af)<|?_;rintro aqf arq ⟨rfl,HS⟩;refine ⟨HS.b0,?_⟩;refine Dv (.string ⟨(((Lib.itoa q1.num)++[47])++(Lib.itoa (q1.den:Int))).toArray⟩) 5 rfl HS.b0 (fun a ha w=>H9 (ha.ev rfl) (ha.ev rfl) (by have:=FI.Ir (HS.at_ 1 rfl) af;have:=FI.Ir (HS.at_ 2 rfl) af;simp only [awO,awq,List.length_nil];omega) rfl)<|Ds 6 rfl HS.b0 rfl<|JR.next ah (fun _ _ h=>h)<|Ja (v := .string ⟨(((Lib.itoa q1.num)++[47])++(Lib.itoa (q1.den:Int))).toArray⟩) Tryz.results65 (.tmp rfl)<|?_;exact ⟨(congrArg (fun l:List UInt8=>Value.string ⟨l.toArray⟩) (ahf (by assumption))),HS.o0 3 4⟩
 ·skip
  refine JC.bK rfl<|Js<|JL.load (.agg #[.bool uy,.slice qQ sF rf]) HS 1 rfl rfl rfl atH atB rfl rfl<|JL.call rfl rfl Tryz.call109 (NF HT HB HS (HS.at_ 1 rfl) af)<|?_;rintro v12 w12 ⟨rfl,HS⟩;refine La rfl<|Jn<|Ja Tryz.results65 (.tmp rfl)<|?_;exact ⟨(congrArg (fun l:List UInt8=>Value.string ⟨l.toArray⟩) (ahe (by assumption))),HS.o0 3 4⟩
end
end Go.Proofs.BGQ
namespace Lw
open Go
theorem y8{l:List UInt8}{k:Nat}(h:dG (l.take k))(hk:k<=l.length):bI (l.take k)<pw k:=by
 have h1:=BV h k (by rw [aww];omega);rw [axt,Nat.min_self] at h1;exact av1 h1 (axK af k)
theorem Qx(w:World)(t:TypeId)(l:List Nat)(o:Obj):bH ((w.alloc o).alloc (.cells (arr l).toArray t)) (w.heap.size+1) t l:=by
 have:=bH.new (w.alloc o) t l
 simpa using this
theorem MF(w:World)(t:TypeId):bH (w.alloc (.cells #[.int .u32 10] t)) w.heap.size t [10]:=bH.new w t [10]
theorem MG(w:World)(t:TypeId)(o:Obj):bH ((w.alloc o).alloc (.cells #[.int .u32 10] t)) (w.heap.size+1) t [10]:=Qx w t [10] o
theorem MB(w:World)(t:TypeId)(c:Nat):bH (w.alloc (.cells #[.int .u32 (c:Int)] t)) w.heap.size t [c]:=bH.new w t [c]
theorem MC(w:World)(t:TypeId)(c:Nat)(o:Obj):bH ((w.alloc o).alloc (.cells #[.int .u32 (c:Int)] t)) (w.heap.size+1) t [c]:=Qx w t [c] o
end Lw
namespace Go.Proofs.BGQ
open Go Go.RowKit Lw
def xh(w:World)(N:Nat)(e:Ending)(w':World):Prop :=
 ∃ g n c,e = .returned (.slice (some ⟨g,0,none⟩) n c)/\Hid ((bn N).length=n)/\n<=c/\w.heap.size<=g/\bH w' g 113 (bn N)/\Below w.heap.size w w'
theorem Ak{w w':World}{N:Nat}{e:Ending}(h:xk w N e w'):xh w N e w':=by
 obtain ⟨g,c,h1,h2,h3,h4,h5⟩:=h;exact ⟨g,_,c,h1,Lib.hid rfl,h2,h3,h4,h5⟩
def J3(w:World)(l:List UInt8)(e:Ending)(w':World):Prop :=
 (∃ z A c,l=Lib.itoa z/\e = .returned (.tuple #[.agg #[.bool (sg z),.slice A (mg z).length c],.int .i64 0])/\(mg z).length<=c/\Rd w' w'.heap.size A (mg z)/\Below w.heap.size w w') \/
 ((∀ z,l≠Lib.itoa z)/\e = .returned (.tuple #[.agg #[.bool false,.slice none 0 0],.int .i64 2])/\Below w.heap.size w w')
set_option maxRecDepth 100000 in
set_option maxHeartbeats 6400000 in
theorem ahZ(d l:List UInt8)(w:World)(hl:d.length<=400)(hdl:l=d)(h45 : ∀ h:0<d.length,(d[0]'h).toNat≠45) :
    Calls Tryz.prog 122 #[.string ⟨d.toArray⟩] w (J3 w l):=by
  obtain ⟨D,hD⟩ : ∃ D:ByteArray,D=⟨d.toArray⟩:=⟨_,rfl⟩;obtain ⟨Z,hZ⟩ : ∃ Z:Int,Z=(bI d:Int):=⟨_,rfl⟩;have oz:Hid (¬Fits false d -> ∀ z,l≠Lib.itoa z):=Lib.hid (fun h=>by rw [hdl];exact agc h45 h);have ET:Hid (Fits false d->l=Lib.itoa Z/\Z=if false=true then -(bI d:Int) else (bI d:Int)):=Lib.hid (fun h=>⟨by rw [hdl,hZ];exact KQ h,by rw [hZ];rfl⟩);have EK:=Lib.hid h45;obtain ⟨W0,hW0⟩ : ∃ W0,W0=w.alloc (.cells #[.bool false,.slice none 0 0] 79):=⟨_,rfl⟩;have hT0:Two W0 w.heap.size 79 (.bool false) (.slice none 0 0):=by rw [hW0];exact Two.new w _ _ _
  have hB0:Below w.heap.size w W0:=by rw [hW0];exact (Below.refl _ _).alloc (avW _) _
  have hs0:w.heap.size<=W0.heap.size:=hB0.size;have HT0:=Lib.hid hT0;have HB0:=Lib.hid hB0;clear hT0 hB0;subst hW0;obtain ⟨L,hL⟩ : ∃ L,L=d.length:=⟨_,rfl⟩;have HL:Hid (∀ k,k<L->k<d.length):=Lib.hid (fun k h=>af);have lQ:Hid (∀ k,L<=k->d.length<=k):=Lib.hid (fun k h=>af);have hDs:D.size=L:=by rw [hD,hL];simp [ByteArray.size]
  have HAT:Hid (∀ k (h:k<L),∃ (hs:k<D.size) (b:Nat),((D[k]'hs).toNat:Int)=(b:Int)/\b=(d[k]'(HL.out k h)).toNat):=Lib.hid (fun k h=>⟨af,_,rfl,by subst hD;rfl⟩);have hL4:L<=400:=af;rw [<- hD];clear hD hZ h45 hdl hl hL;rcases av' L with h0 | h0
  · have HZ:=Lib.hid (oz.out (fun hf=>by have:=lQ.out 0 af;have:=hf.1.1;omega))
    obtain ⟨d0,d1,g0,g1⟩:=HT0.out.facts
    go_enter auA,auB
    go_wp2_with fail
    refine bodyPost_ret (v := .tuple #[.agg #[.bool false,.slice none 0 0],.int .i64 2]) (by simp [results,Tryz.results122,go_sem,d0,d1]) rfl ?_;exact .inr ⟨HZ.out,rfl,HB0.out⟩
  · obtain ⟨LD,b0,hb0,hbd0⟩:=HAT.out 0 h0
    have anu:b0≠45:=by rw [hbd0];exact EK.out _
    have EO:Hid ((b0=48->L=1)->dG d->Fits false d):=Lib.hid (fun h hd=>SX hd (HL.out 0 h0) (fun e=>⟨by have:=h af;have:=HL.out 0 h0;have:=lQ.out 1 af;omega,rfl⟩));have Jh:Hid (b0=48->1<L->¬Fits false d):=Lib.hid (fun e h1 hf=>by have:=(TD hf (HL.out 0 h0) af).1;have:=HL.out 1 h1;omega);have FU:((b0:Int)==45)=false:=by rw [beq_eq_false_iff_ne];omega
    clear hbd0 EK;have hLq:((L:Int)==0)=false:=by rw [beq_eq_false_iff_ne];omega
    by_cases h48:b0=48
    · by_cases h1:1<L
      · have HZ:=Lib.hid (oz.out (Jh.out h48 h1))
        obtain ⟨d0,d1,g0,g1⟩:=HT0.out.facts
        go_enter auA,auB
        go_wp2_with fail
        refine bodyPost_ret (v := .tuple #[.agg #[.bool false,.slice none 0 0],.int .i64 2]) (by simp [results,Tryz.results122,go_sem,d0,d1]) rfl ?_;exact .inr ⟨HZ.out,rfl,HB0.out⟩
      · have Bh:=Lib.hid (EO.out (fun _=>af))
        have hL1:L=1:=af
        go_enter auA,auB
        go_wp2_with fail
        go_loopw [6,42] (fun mv iv wr => ∃ (k n' c':Nat) (A':Option Addr),k<=L/\iv = .int .i64 k/\mv = .slice A' n' c'/\n'<=c'/\n'<=k/\Hid ((bn (bI (d.take k))).length=n')/\Rd wr wr.heap.size A' (bn (bI (d.take k)))/\Hid (dG (d.take k))/\Below (w.alloc (.cells #[.bool false,.slice none 0 0] 79)).heap.size (w.alloc (.cells #[.bool false,.slice none 0 0] 79)) wr) (fun _ i _=>L-(intOf i).toNat)
        case atStart=>exact ⟨0,0,0,none,avY _,rfl,rfl,avW _,avW _,Lib.hid rfl,Rd.nil_ _ _ _,Lib.hid (by intro x hx;simp at hx),Below.refl _ _⟩
        case round =>
          obtain ⟨k,n',c',A',hk,rfl,rfl,hc',hnk,hlen,hr,hdg,hbw⟩:=hrel;have T1:=HT0.out.next hbw;obtain ⟨d0,d1,g0,g1⟩:=T1.facts;have hbw0:=bP HB0.out hbw af;have UG:=hbw.size
          by_cases kP:k<L
          · obtain ⟨hks,b,hsk,hb⟩:=HAT.out k kP
            have ou:Hid (b<48\/57<b -> ∀ z,l≠Lib.itoa z):=Lib.hid (fun hh=>oz.out (fun hf=>by have:=hf.1.2.1 _ (awr (HL.out k kP));omega));have uQ:Hid (∀ c,b=c+48->c<=9->dG (d.take (k+1))/\bI (d.take (k+1))=bI (d.take k)*10+c):=Lib.hid (fun c hc h9=>⟨yY (HL.out k kP) hdg.out af,by rw [y9 (HL.out k kP)];omega⟩);clear hb
            by_cases hd1:b<48
            · have HZ:=Lib.hid (ou.out (.inl hd1))
              go_wp2_with fail
              refine bodyPost_ret (v := .tuple #[.agg #[.bool false,.slice none 0 0],.int .i64 2]) (by simp [results,Tryz.results122,go_sem,d0,d1]) rfl ?_;exact .inr ⟨HZ.out,rfl,(hbw0.setCell (avW _) _).setCell (avW _) _⟩
            · by_cases hd2:57<b
              · have HZ:=Lib.hid (ou.out (.inr hd2))
                go_wp2_with fail
                refine bodyPost_ret (v := .tuple #[.agg #[.bool false,.slice none 0 0],.int .i64 2]) (by simp [results,Tryz.results122,go_sem,d0,d1]) rfl ?_;exact .inr ⟨HZ.out,rfl,(hbw0.setCell (avW _) _).setCell (avW _) _⟩
              · obtain ⟨c,rfl⟩ : ∃ c,b=c+48:=⟨b-48,af⟩
                have dZ:c<=9:=af;have HM:=Lib.hid (uQ.out c rfl dZ);have hsk':((D[k]'hks).toNat:Int)=(c:Int)+48:=by rw [hsk];omega
                clear uQ ou hsk hd1 hd2;have hm1:n'<=16777216:=af;have hdk:k+1<=d.length:=by have:=HL.out k kP;omega
                have BB:bM [10]:=by rw [jP];exact ⟨af,jo⟩
                have WC:bM [c]:=by rw [jP];exact ⟨af,jo⟩
                have hl3:(bn (bI (d.take k)*10)).length<=k+1:=iy (av1 (Nat.mul_lt_mul_of_lt_of_le (y8 hdg.out af) (show 10<=4294967296 from af) af) (by rw [fB,av7];exact avW _));have hl4:Hid ((bn (bI (d.take (k+1)))).length<=k+1):=Lib.hid (iy (y8 HM.out.1 hdk))
                have qV:Hid (∀ (W:World) (g:Nat),Rd W wr.heap.size A' (bn (bI (d.take k)))->Rd W W.heap.size (some ⟨g,0,none⟩) [10]->wr.heap.size<=W.heap.size->Calls Tryz.prog 149 #[.slice A' n' c',.slice (some ⟨g,0,none⟩) 1 1] W (xh W (bI (d.take k)*10))):=Lib.hid (fun W g h1 h2 h3 =>
                  (Hg A' _ (bn (bI (d.take k))) [10] n' 1 c' 1 wr.heap.size W.heap.size W h1 h2 h3 (avW _) hlen.out rfl hm1 af).mono fun e w' hh=>by rw [bQ,show val [10]=10 from rfl] at hh;exact Ak hh)
                have uS:Hid (∀ (W:World) (g g3 n3 c3:Nat),Hid ((bn (bI (d.take k)*10)).length=n3)->Rd W W.heap.size (some ⟨g3,0,none⟩) (bn (bI (d.take k)*10))->Rd W W.heap.size (some ⟨g,0,none⟩) [c]->Calls Tryz.prog 150 #[.slice (some ⟨g3,0,none⟩) n3 c3,.slice (some ⟨g,0,none⟩) 1 1] W (xh W (bI (d.take (k+1))))):=Lib.hid (fun W g g3 n3 c3 h0 h1 h2 =>
                  (D6 _ _ (bn (bI (d.take k)*10)) [c] n3 1 c3 1 W.heap.size W.heap.size W h1 h2 (avW _) (avW _) h0.out rfl (by have:=h0.out;omega) af).mono fun e w' hh=>by rw [bQ,show val [c]=c by simp [val],<- HM.out.2] at hh;exact Ak hh)
                have hw8:IntKind.u8.wrap (c:Int)=(c:Int):=IntWalk.u8_in _ af;have hw32:IntKind.u32.wrap (c:Int)=(c:Int):=IntWalk.u32_in _ af;have hA:=Below.refl wr.heap.size wr;clear hlen hl3 hdk
                go_wp2_with fail
                go_region_held3 (fun _=>True) (exact trivial)
                  (first
                    | (go_at_call 150
                       refine (uS.out _ _ g3 _ _ hn3 ?_ ?_).mono ?_
                       · refine bH.rd (t:=113) ?_ (dY _)
                         with_reducible repeat' (first | exact hblk3 | refine bH.drew ?_ | refine bH.alloc ?_ _)
                       · refine bH.rd (t:=113) ?_ WC
                         with_reducible repeat' (first | exact MB _ _ _ | exact MC _ _ _ _ | refine bH.drew ?_ | refine bH.alloc ?_ _ | refine bH.below ?_ hb3 ?_ | simp | omega)
                       rintro e w4 ⟨g4,n4,c4,rfl,hn4,hc4,hg4,rG,hb4⟩
                       have hA4:Below wr.heap.size wr w4:=by
                         refine bP ?_ hb4 (by simp)
                         with_reducible repeat' (first | exact hA | exact avW _ | exact hA.size | refine Below.drew ?_ | refine Below.alloc ?_ ?_ _ | simp | omega))
                    | (go_at_call 149
                       refine (qV.out _ _ ?_ ?_ ?_).mono ?_
                       · with_reducible repeat' (first | exact hr | refine Rd.drew ?_ | refine Rd.alloc ?_ ?_ _ | exact avW _ | simp | omega)
                       · refine bH.rd (t:=113) ?_ BB
                         with_reducible repeat' (first | exact MF _ _ | exact MG _ _ _ | refine bH.drew ?_ | refine bH.alloc ?_ _)
                       · (simp;try omega)
                       rintro e w3 ⟨g3,n3,c3,rfl,hn3,hc3,hg3,hblk3,hb3⟩
                       have hA:Below wr.heap.size wr w3:=by
                         refine bP ?_ hb3 (by simp)
                         with_reducible repeat' (first | exact hA | exact avW _ | refine Below.drew ?_ | refine Below.alloc ?_ ?_ _ | simp | omega)))
                all_goals
                  have Bg:=bP hbw hA4 (avW _);have HR4:=rG.rd (dY _)
                  go_wp2_with fail
                  go_roundw
                  case rel=>exact ⟨k+1,_,c4,_,af,by go_num,rfl,hc4,by rw [<- hn4.out];exact hl4.out,hn4,HR4,Lib.hid HM.out.1,Bg⟩
                  case measure=>simp [intOf];omega
          · have HF:Hid (Fits false d):=Lib.hid (Bh.out (by have h9:=hdg.out;rwa [awG (lQ.out k af)] at h9))
            have hlen':Hid ((bn (bI d)).length=n'):=Lib.hid (by have h9:=hlen.out;rwa [awG (lQ.out k af)] at h9);rw [awG (lQ.out k af)] at hr;have HY:=Lib.hid (ET.out HF.out);have hn16:n'<=4294967296:=af;obtain rfl:k=L:=af;clear hlen hdg
            go_wp2_with fail
            refine (zh false A' (bn (bI d)) n' c' _ Z _ hr (avW _) hlen'.out hn16 (by rw [bQ];exact HY.out.2)).mono ?_;rintro e w5 ⟨A5,c5,rfl,hc5,kH,hb5⟩;have V2:=T1.next hb5;obtain ⟨d0,d1,g0,g1⟩:=V2.facts
            go_wp2_with fail
            refine bodyPost_ret (v := .tuple #[.agg #[.bool (sg Z),.slice A5 (mg Z).length c5],.int .i64 0]) (by simp [results,Tryz.results122,go_sem,d0,d1]) rfl ?_;obtain ⟨A6,c6,he,h1,h2,h3⟩:=iY V2 kH (avW _) hc5 (bP hbw0 hb5 (avW _)) af
            injection he with he
            injection he with he;simp at he;obtain ⟨rfl,rfl⟩:=he;exact .inl ⟨Z,A5,c5,HY.out.1,rfl,h1,h2,h3⟩
    · have Bh:=Lib.hid (EO.out (fun h=>absurd h h48))
      have hb48:((b0:Int)==48)=false:=by rw [beq_eq_false_iff_ne];omega
      go_enter auA,auB
      go_wp2_with fail
      go_loopw [6,42] (fun mv iv wr => ∃ (k n' c':Nat) (A':Option Addr),k<=L/\iv = .int .i64 k/\mv = .slice A' n' c'/\n'<=c'/\n'<=k/\Hid ((bn (bI (d.take k))).length=n')/\Rd wr wr.heap.size A' (bn (bI (d.take k)))/\Hid (dG (d.take k))/\Below (w.alloc (.cells #[.bool false,.slice none 0 0] 79)).heap.size (w.alloc (.cells #[.bool false,.slice none 0 0] 79)) wr) (fun _ i _=>L-(intOf i).toNat)
      case atStart=>exact ⟨0,0,0,none,avY _,rfl,rfl,avW _,avW _,Lib.hid rfl,Rd.nil_ _ _ _,Lib.hid (by intro x hx;simp at hx),Below.refl _ _⟩
      case round =>
        obtain ⟨k,n',c',A',hk,rfl,rfl,hc',hnk,hlen,hr,hdg,hbw⟩:=hrel;have T1:=HT0.out.next hbw;obtain ⟨d0,d1,g0,g1⟩:=T1.facts;have hbw0:=bP HB0.out hbw af;have UG:=hbw.size
        by_cases kP:k<L
        · obtain ⟨hks,b,hsk,hb⟩:=HAT.out k kP
          have ou:Hid (b<48\/57<b -> ∀ z,l≠Lib.itoa z):=Lib.hid (fun hh=>oz.out (fun hf=>by have:=hf.1.2.1 _ (awr (HL.out k kP));omega));have uQ:Hid (∀ c,b=c+48->c<=9->dG (d.take (k+1))/\bI (d.take (k+1))=bI (d.take k)*10+c):=Lib.hid (fun c hc h9=>⟨yY (HL.out k kP) hdg.out af,by rw [y9 (HL.out k kP)];omega⟩);clear hb
          by_cases hd1:b<48
          · have HZ:=Lib.hid (ou.out (.inl hd1))
            go_wp2_with fail
            refine bodyPost_ret (v := .tuple #[.agg #[.bool false,.slice none 0 0],.int .i64 2]) (by simp [results,Tryz.results122,go_sem,d0,d1]) rfl ?_;exact .inr ⟨HZ.out,rfl,(hbw0.setCell (avW _) _).setCell (avW _) _⟩
          · by_cases hd2:57<b
            · have HZ:=Lib.hid (ou.out (.inr hd2))
              go_wp2_with fail
              refine bodyPost_ret (v := .tuple #[.agg #[.bool false,.slice none 0 0],.int .i64 2]) (by simp [results,Tryz.results122,go_sem,d0,d1]) rfl ?_;exact .inr ⟨HZ.out,rfl,(hbw0.setCell (avW _) _).setCell (avW _) _⟩
            · obtain ⟨c,rfl⟩ : ∃ c,b=c+48:=⟨b-48,af⟩
              have dZ:c<=9:=af;have HM:=Lib.hid (uQ.out c rfl dZ);have hsk':((D[k]'hks).toNat:Int)=(c:Int)+48:=by rw [hsk];omega
              clear uQ ou hsk hd1 hd2;have hm1:n'<=16777216:=af;have hdk:k+1<=d.length:=by have:=HL.out k kP;omega
              have BB:bM [10]:=by rw [jP];exact ⟨af,jo⟩
              have WC:bM [c]:=by rw [jP];exact ⟨af,jo⟩
              have hl3:(bn (bI (d.take k)*10)).length<=k+1:=iy (av1 (Nat.mul_lt_mul_of_lt_of_le (y8 hdg.out af) (show 10<=4294967296 from af) af) (by rw [fB,av7];exact avW _));have hl4:Hid ((bn (bI (d.take (k+1)))).length<=k+1):=Lib.hid (iy (y8 HM.out.1 hdk))
              have qV:Hid (∀ (W:World) (g:Nat),Rd W wr.heap.size A' (bn (bI (d.take k)))->Rd W W.heap.size (some ⟨g,0,none⟩) [10]->wr.heap.size<=W.heap.size->Calls Tryz.prog 149 #[.slice A' n' c',.slice (some ⟨g,0,none⟩) 1 1] W (xh W (bI (d.take k)*10))):=Lib.hid (fun W g h1 h2 h3 =>
                (Hg A' _ (bn (bI (d.take k))) [10] n' 1 c' 1 wr.heap.size W.heap.size W h1 h2 h3 (avW _) hlen.out rfl hm1 af).mono fun e w' hh=>by rw [bQ,show val [10]=10 from rfl] at hh;exact Ak hh)
              have uS:Hid (∀ (W:World) (g g3 n3 c3:Nat),Hid ((bn (bI (d.take k)*10)).length=n3)->Rd W W.heap.size (some ⟨g3,0,none⟩) (bn (bI (d.take k)*10))->Rd W W.heap.size (some ⟨g,0,none⟩) [c]->Calls Tryz.prog 150 #[.slice (some ⟨g3,0,none⟩) n3 c3,.slice (some ⟨g,0,none⟩) 1 1] W (xh W (bI (d.take (k+1))))):=Lib.hid (fun W g g3 n3 c3 h0 h1 h2 =>
                (D6 _ _ (bn (bI (d.take k)*10)) [c] n3 1 c3 1 W.heap.size W.heap.size W h1 h2 (avW _) (avW _) h0.out rfl (by have:=h0.out;omega) af).mono fun e w' hh=>by rw [bQ,show val [c]=c by simp [val],<- HM.out.2] at hh;exact Ak hh)
              have hw8:IntKind.u8.wrap (c:Int)=(c:Int):=IntWalk.u8_in _ af;have hw32:IntKind.u32.wrap (c:Int)=(c:Int):=IntWalk.u32_in _ af;have hA:=Below.refl wr.heap.size wr;clear hlen hl3 hdk
              go_wp2_with fail
              go_region_held3 (fun _=>True) (exact trivial)
                (first
                  | (go_at_call 150
                     refine (uS.out _ _ g3 _ _ hn3 ?_ ?_).mono ?_
                     · refine bH.rd (t:=113) ?_ (dY _)
                       with_reducible repeat' (first | exact hblk3 | refine bH.drew ?_ | refine bH.alloc ?_ _)
                     · refine bH.rd (t:=113) ?_ WC
                       with_reducible repeat' (first | exact MB _ _ _ | exact MC _ _ _ _ | refine bH.drew ?_ | refine bH.alloc ?_ _ | refine bH.below ?_ hb3 ?_ | simp | omega)
                     rintro e w4 ⟨g4,n4,c4,rfl,hn4,hc4,hg4,rG,hb4⟩
                     have hA4:Below wr.heap.size wr w4:=by
                       refine bP ?_ hb4 (by simp)
                       with_reducible repeat' (first | exact hA | exact avW _ | exact hA.size | refine Below.drew ?_ | refine Below.alloc ?_ ?_ _ | simp | omega))
                  | (go_at_call 149
                     refine (qV.out _ _ ?_ ?_ ?_).mono ?_
                     · with_reducible repeat' (first | exact hr | refine Rd.drew ?_ | refine Rd.alloc ?_ ?_ _ | exact avW _ | simp | omega)
                     · refine bH.rd (t:=113) ?_ BB
                       with_reducible repeat' (first | exact MF _ _ | exact MG _ _ _ | refine bH.drew ?_ | refine bH.alloc ?_ _)
                     · (simp;try omega)
                     rintro e w3 ⟨g3,n3,c3,rfl,hn3,hc3,hg3,hblk3,hb3⟩
                     have hA:Below wr.heap.size wr w3:=by
                       refine bP ?_ hb3 (by simp)
                       with_reducible repeat' (first | exact hA | exact avW _ | refine Below.drew ?_ | refine Below.alloc ?_ ?_ _ | simp | omega)))
              all_goals
                have Bg:=bP hbw hA4 (avW _);have HR4:=rG.rd (dY _)
                go_wp2_with fail
                go_roundw
                case rel=>exact ⟨k+1,_,c4,_,af,by go_num,rfl,hc4,by rw [<- hn4.out];exact hl4.out,hn4,HR4,Lib.hid HM.out.1,Bg⟩
                case measure=>simp [intOf];omega
        · have HF:Hid (Fits false d):=Lib.hid (Bh.out (by have h9:=hdg.out;rwa [awG (lQ.out k af)] at h9))
          have hlen':Hid ((bn (bI d)).length=n'):=Lib.hid (by have h9:=hlen.out;rwa [awG (lQ.out k af)] at h9);rw [awG (lQ.out k af)] at hr;have HY:=Lib.hid (ET.out HF.out);have hn16:n'<=4294967296:=af;obtain rfl:k=L:=af;clear hlen hdg
          go_wp2_with fail
          refine (zh false A' (bn (bI d)) n' c' _ Z _ hr (avW _) hlen'.out hn16 (by rw [bQ];exact HY.out.2)).mono ?_;rintro e w5 ⟨A5,c5,rfl,hc5,kH,hb5⟩;have V2:=T1.next hb5;obtain ⟨d0,d1,g0,g1⟩:=V2.facts
          go_wp2_with fail
          refine bodyPost_ret (v := .tuple #[.agg #[.bool (sg Z),.slice A5 (mg Z).length c5],.int .i64 0]) (by simp [results,Tryz.results122,go_sem,d0,d1]) rfl ?_;obtain ⟨A6,c6,he,h1,h2,h3⟩:=iY V2 kH (avW _) hc5 (bP hbw0 hb5 (avW _)) af
          injection he with he
          injection he with he;simp at he;obtain ⟨rfl,rfl⟩:=he;exact .inl ⟨Z,A5,c5,HY.out.1,rfl,h1,h2,h3⟩
set_option maxRecDepth 100000 in
set_option maxHeartbeats 6400000 in
theorem ahY(d l:List UInt8)(w:World)(hl:d.length<=400)(hdl:l=45::d) :
    Calls Tryz.prog 122 #[.string ⟨(45::d).toArray⟩] w (J3 w l):=by
  obtain ⟨D,hD⟩ : ∃ D:ByteArray,D=⟨d.toArray⟩:=⟨_,rfl⟩;obtain ⟨S,hS⟩ : ∃ S:ByteArray,S=⟨(45::d).toArray⟩:=⟨_,rfl⟩;obtain ⟨Z,hZ⟩ : ∃ Z:Int,Z = -(bI d:Int):=⟨_,rfl⟩;have oz:Hid (¬Fits true d -> ∀ z,l≠Lib.itoa z):=Lib.hid (fun h=>by rw [hdl];exact agb h);have ET:Hid (Fits true d->l=Lib.itoa Z/\Z=if true=true then -(bI d:Int) else (bI d:Int)):=Lib.hid (fun h=>⟨by rw [hdl,hZ];exact TE h,by rw [hZ];rfl⟩);obtain ⟨W0,hW0⟩ : ∃ W0,W0=w.alloc (.cells #[.bool false,.slice none 0 0] 79):=⟨_,rfl⟩;have hT0:Two W0 w.heap.size 79 (.bool false) (.slice none 0 0):=by rw [hW0];exact Two.new w _ _ _
  have hB0:Below w.heap.size w W0:=by rw [hW0];exact (Below.refl _ _).alloc (avW _) _
  have hs0:w.heap.size<=W0.heap.size:=hB0.size;have HT0:=Lib.hid hT0;have HB0:=Lib.hid hB0;clear hT0 hB0;subst hW0;obtain ⟨L,hL⟩ : ∃ L,L=d.length:=⟨_,rfl⟩;have HL:Hid (∀ k,k<L->k<d.length):=Lib.hid (fun k h=>af);have lQ:Hid (∀ k,L<=k->d.length<=k):=Lib.hid (fun k h=>af);have hDs:D.size=L:=by rw [hD,hL];simp [ByteArray.size]
  have HAT:Hid (∀ k (h:k<L),∃ (hs:k<D.size) (b:Nat),((D[k]'hs).toNat:Int)=(b:Int)/\b=(d[k]'(HL.out k h)).toNat):=Lib.hid (fun k h=>⟨af,_,rfl,by subst hD;rfl⟩);have hL4:L<=400:=af;obtain ⟨M,hM⟩ : ∃ M,M=d.length+1:=⟨_,rfl⟩;have hsz:S.size=M:=by rw [hS,hM];simp [ByteArray.size]
  have hs0':0<S.size:=af;have hM1:1<=M:=af;have hM2:M<=401:=af;obtain ⟨b,hb⟩ : ∃ b:Nat,b=45:=⟨_,rfl⟩;have hsb:((S[0]'hs0').toNat:Int)=(b:Int):=by subst hS;rw [hb];rfl
  have FU:((b:Int)==45)=true:=by rw [hb];rfl
  have hx1:S.extract 1 M=D:=by rw [hS,hD,hM,BZ];simp
  rw [<- hS];clear hD hS hZ hdl hl hL hb hM;rcases av' L with h0 | h0
  · have HZ:=Lib.hid (oz.out (fun hf=>by have:=lQ.out 0 af;have:=hf.1.1;omega))
    obtain ⟨d0,d1,g0,g1⟩:=HT0.out.facts
    go_enter auA,auB
    go_wp2_with fail
    refine bodyPost_ret (v := .tuple #[.agg #[.bool false,.slice none 0 0],.int .i64 2]) (by simp [results,Tryz.results122,go_sem,d0,d1]) rfl ?_;exact .inr ⟨HZ.out,rfl,HB0.out⟩
  · obtain ⟨LD,b0,hb0,hbd0⟩:=HAT.out 0 h0
    have EO:Hid (b0≠48->dG d->Fits true d):=Lib.hid (fun h hd=>SX hd (HL.out 0 h0) (fun e=>absurd af h));have Jh:Hid (b0=48->¬Fits true d):=Lib.hid (fun e hf=>by have:=(TD hf (HL.out 0 h0) af).2;cases this);clear hbd0;have hLq:((L:Int)==0)=false:=by rw [beq_eq_false_iff_ne];omega
    by_cases h48:b0=48
    · have HZ:=Lib.hid (oz.out (Jh.out h48))
      obtain ⟨d0,d1,g0,g1⟩:=HT0.out.facts
      by_cases h1:1<L
      · go_enter auA,auB
        go_wp2_with fail
        refine bodyPost_ret (v := .tuple #[.agg #[.bool false,.slice none 0 0],.int .i64 2]) (by simp [results,Tryz.results122,go_sem,d0,d1]) rfl ?_;exact .inr ⟨HZ.out,rfl,HB0.out⟩
      · have hL1:L=1:=af
        go_enter auA,auB
        go_wp2_with fail
        refine bodyPost_ret (v := .tuple #[.agg #[.bool false,.slice none 0 0],.int .i64 2]) (by simp [results,Tryz.results122,go_sem,d0,d1]) rfl ?_;exact .inr ⟨HZ.out,rfl,HB0.out⟩
    · have Bh:=Lib.hid (EO.out h48)
      have hb48:((b0:Int)==48)=false:=by rw [beq_eq_false_iff_ne];omega
      go_enter auA,auB
      go_wp2_with fail
      go_loopw [6,42] (fun mv iv wr => ∃ (k n' c':Nat) (A':Option Addr),k<=L/\iv = .int .i64 k/\mv = .slice A' n' c'/\n'<=c'/\n'<=k/\Hid ((bn (bI (d.take k))).length=n')/\Rd wr wr.heap.size A' (bn (bI (d.take k)))/\Hid (dG (d.take k))/\Below (w.alloc (.cells #[.bool false,.slice none 0 0] 79)).heap.size (w.alloc (.cells #[.bool false,.slice none 0 0] 79)) wr) (fun _ i _=>L-(intOf i).toNat)
      case atStart=>exact ⟨0,0,0,none,avY _,rfl,rfl,avW _,avW _,Lib.hid rfl,Rd.nil_ _ _ _,Lib.hid (by intro x hx;simp at hx),Below.refl _ _⟩
      case round =>
        obtain ⟨k,n',c',A',hk,rfl,rfl,hc',hnk,hlen,hr,hdg,hbw⟩:=hrel;have T1:=HT0.out.next hbw;obtain ⟨d0,d1,g0,g1⟩:=T1.facts;have hbw0:=bP HB0.out hbw af;have UG:=hbw.size
        by_cases kP:k<L
        · obtain ⟨hks,b,hsk,hb⟩:=HAT.out k kP
          have ou:Hid (b<48\/57<b -> ∀ z,l≠Lib.itoa z):=Lib.hid (fun hh=>oz.out (fun hf=>by have:=hf.1.2.1 _ (awr (HL.out k kP));omega));have uQ:Hid (∀ c,b=c+48->c<=9->dG (d.take (k+1))/\bI (d.take (k+1))=bI (d.take k)*10+c):=Lib.hid (fun c hc h9=>⟨yY (HL.out k kP) hdg.out af,by rw [y9 (HL.out k kP)];omega⟩);clear hb
          by_cases hd1:b<48
          · have HZ:=Lib.hid (ou.out (.inl hd1))
            go_wp2_with fail
            refine bodyPost_ret (v := .tuple #[.agg #[.bool false,.slice none 0 0],.int .i64 2]) (by simp [results,Tryz.results122,go_sem,d0,d1]) rfl ?_;exact .inr ⟨HZ.out,rfl,(hbw0.setCell (avW _) _).setCell (avW _) _⟩
          · by_cases hd2:57<b
            · have HZ:=Lib.hid (ou.out (.inr hd2))
              go_wp2_with fail
              refine bodyPost_ret (v := .tuple #[.agg #[.bool false,.slice none 0 0],.int .i64 2]) (by simp [results,Tryz.results122,go_sem,d0,d1]) rfl ?_;exact .inr ⟨HZ.out,rfl,(hbw0.setCell (avW _) _).setCell (avW _) _⟩
            · obtain ⟨c,rfl⟩ : ∃ c,b=c+48:=⟨b-48,af⟩
              have dZ:c<=9:=af;have HM:=Lib.hid (uQ.out c rfl dZ);have hsk':((D[k]'hks).toNat:Int)=(c:Int)+48:=by rw [hsk];omega
              clear uQ ou hsk hd1 hd2;have hm1:n'<=16777216:=af;have hdk:k+1<=d.length:=by have:=HL.out k kP;omega
              have BB:bM [10]:=by rw [jP];exact ⟨af,jo⟩
              have WC:bM [c]:=by rw [jP];exact ⟨af,jo⟩
              have hl3:(bn (bI (d.take k)*10)).length<=k+1:=iy (av1 (Nat.mul_lt_mul_of_lt_of_le (y8 hdg.out af) (show 10<=4294967296 from af) af) (by rw [fB,av7];exact avW _));have hl4:Hid ((bn (bI (d.take (k+1)))).length<=k+1):=Lib.hid (iy (y8 HM.out.1 hdk))
              have qV:Hid (∀ (W:World) (g:Nat),Rd W wr.heap.size A' (bn (bI (d.take k)))->Rd W W.heap.size (some ⟨g,0,none⟩) [10]->wr.heap.size<=W.heap.size->Calls Tryz.prog 149 #[.slice A' n' c',.slice (some ⟨g,0,none⟩) 1 1] W (xh W (bI (d.take k)*10))):=Lib.hid (fun W g h1 h2 h3 =>
                (Hg A' _ (bn (bI (d.take k))) [10] n' 1 c' 1 wr.heap.size W.heap.size W h1 h2 h3 (avW _) hlen.out rfl hm1 af).mono fun e w' hh=>by rw [bQ,show val [10]=10 from rfl] at hh;exact Ak hh)
              have uS:Hid (∀ (W:World) (g g3 n3 c3:Nat),Hid ((bn (bI (d.take k)*10)).length=n3)->Rd W W.heap.size (some ⟨g3,0,none⟩) (bn (bI (d.take k)*10))->Rd W W.heap.size (some ⟨g,0,none⟩) [c]->Calls Tryz.prog 150 #[.slice (some ⟨g3,0,none⟩) n3 c3,.slice (some ⟨g,0,none⟩) 1 1] W (xh W (bI (d.take (k+1))))):=Lib.hid (fun W g g3 n3 c3 h0 h1 h2 =>
                (D6 _ _ (bn (bI (d.take k)*10)) [c] n3 1 c3 1 W.heap.size W.heap.size W h1 h2 (avW _) (avW _) h0.out rfl (by have:=h0.out;omega) af).mono fun e w' hh=>by rw [bQ,show val [c]=c by simp [val],<- HM.out.2] at hh;exact Ak hh)
              have hw8:IntKind.u8.wrap (c:Int)=(c:Int):=IntWalk.u8_in _ af;have hw32:IntKind.u32.wrap (c:Int)=(c:Int):=IntWalk.u32_in _ af;have hA:=Below.refl wr.heap.size wr;clear hlen hl3 hdk
              go_wp2_with fail
              go_region_held3 (fun _=>True) (exact trivial)
                (first
                  | (go_at_call 150
                     refine (uS.out _ _ g3 _ _ hn3 ?_ ?_).mono ?_
                     · refine bH.rd (t:=113) ?_ (dY _)
                       with_reducible repeat' (first | exact hblk3 | refine bH.drew ?_ | refine bH.alloc ?_ _)
                     · refine bH.rd (t:=113) ?_ WC
                       with_reducible repeat' (first | exact MB _ _ _ | exact MC _ _ _ _ | refine bH.drew ?_ | refine bH.alloc ?_ _ | refine bH.below ?_ hb3 ?_ | simp | omega)
                     rintro e w4 ⟨g4,n4,c4,rfl,hn4,hc4,hg4,rG,hb4⟩
                     have hA4:Below wr.heap.size wr w4:=by
                       refine bP ?_ hb4 (by simp)
                       with_reducible repeat' (first | exact hA | exact avW _ | exact hA.size | refine Below.drew ?_ | refine Below.alloc ?_ ?_ _ | simp | omega))
                  | (go_at_call 149
                     refine (qV.out _ _ ?_ ?_ ?_).mono ?_
                     · with_reducible repeat' (first | exact hr | refine Rd.drew ?_ | refine Rd.alloc ?_ ?_ _ | exact avW _ | simp | omega)
                     · refine bH.rd (t:=113) ?_ BB
                       with_reducible repeat' (first | exact MF _ _ | exact MG _ _ _ | refine bH.drew ?_ | refine bH.alloc ?_ _)
                     · (simp;try omega)
                     rintro e w3 ⟨g3,n3,c3,rfl,hn3,hc3,hg3,hblk3,hb3⟩
                     have hA:Below wr.heap.size wr w3:=by
                       refine bP ?_ hb3 (by simp)
                       with_reducible repeat' (first | exact hA | exact avW _ | refine Below.drew ?_ | refine Below.alloc ?_ ?_ _ | simp | omega)))
              all_goals
                have Bg:=bP hbw hA4 (avW _);have HR4:=rG.rd (dY _)
                go_wp2_with fail
                go_roundw
                case rel=>exact ⟨k+1,_,c4,_,af,by go_num,rfl,hc4,by rw [<- hn4.out];exact hl4.out,hn4,HR4,Lib.hid HM.out.1,Bg⟩
                case measure=>simp [intOf];omega
        · have HF:Hid (Fits true d):=Lib.hid (Bh.out (by have h9:=hdg.out;rwa [awG (lQ.out k af)] at h9))
          have hlen':Hid ((bn (bI d)).length=n'):=Lib.hid (by have h9:=hlen.out;rwa [awG (lQ.out k af)] at h9);rw [awG (lQ.out k af)] at hr;have HY:=Lib.hid (ET.out HF.out);have hn16:n'<=4294967296:=af;obtain rfl:k=L:=af;clear hlen hdg
          go_wp2_with fail
          refine (zh true A' (bn (bI d)) n' c' _ Z _ hr (avW _) hlen'.out hn16 (by rw [bQ];exact HY.out.2)).mono ?_;rintro e w5 ⟨A5,c5,rfl,hc5,kH,hb5⟩;have V2:=T1.next hb5;obtain ⟨d0,d1,g0,g1⟩:=V2.facts
          go_wp2_with fail
          refine bodyPost_ret (v := .tuple #[.agg #[.bool (sg Z),.slice A5 (mg Z).length c5],.int .i64 0]) (by simp [results,Tryz.results122,go_sem,d0,d1]) rfl ?_;obtain ⟨A6,c6,he,h1,h2,h3⟩:=iY V2 kH (avW _) hc5 (bP hbw0 hb5 (avW _)) af
          injection he with he
          injection he with he;simp at he;obtain ⟨rfl,rfl⟩:=he;exact .inl ⟨Z,A5,c5,HY.out.1,rfl,h1,h2,h3⟩
theorem WU(l:List UInt8)(w:World)(hl:l.length<=400) :
  Calls Tryz.prog 122 #[.string ⟨l.toArray⟩] w (J3 w l):=by
 by_cases h45 : ∀ h:0<l.length,(l[0]'h).toNat≠45
 ·exact ahZ l l w hl rfl h45
 ·obtain ⟨d,rfl⟩ : ∃ d,l=45::d:=by
   cases l with
   | nil=>exact absurd (fun h=>by simp at h) h45
   | cons x d =>
    refine ⟨d,?_⟩;rcases Classical.em (x.toNat=45) with hx | hx
    ·rw [show x=45 from UInt8.toNat_inj.1 hx]
    ·exact absurd (fun _=>hx) h45
  exact ahY d _ w (by clear h45;have h9:=hl;rw [awq] at h9;omega) rfl
end Go.Proofs.BGQ
namespace Lw
open Go Go.RowKit
theorem Df{z z':Int}(h:Lib.itoa z=Lib.itoa z'):z=z':=by
 cases hz:sg z <;> cases hz':sg z'
 ·rw [kZ hz,kZ hz',awj,awj] at h
  have h1:=congrArg bI h;rw [rD,rD] at h1;have:=Eg hz;have:=Eg hz';omega
 ·rw [kZ hz,itoa_neg hz',awj,aw7] at h
  have hp:=sN z.natAbs;rw [h] at hp;exact absurd rfl (MQ hp.2.1 hp.1)
 ·rw [itoa_neg hz,kZ hz',awj,aw7] at h
  have hp:=sN z'.natAbs;rw [<- h] at hp;exact absurd rfl (MQ hp.2.1 hp.1)
 ·rw [itoa_neg hz,itoa_neg hz',aw7,aw7] at h
  injection h with _ h;have h1:=congrArg bI h;rw [rD,rD] at h1;have:=(yD hz).1;have:=(yD hz').1;omega
end Lw
namespace Lw
open Go
theorem aa9{l:List UInt8}{c:UInt8}(h:c∈l):0<=Lib.indexByte l c:=by
 induction l with
 | nil=>cases h
 | cons b l ih =>
  unfold Lib.indexByte
  by_cases hb:b=c
  ·rw [if_pos (by simpa using hb)];decide
  ·have h2:c∈l:=by
    rcases List.mem_cons.1 h with e | e
    ·exact absurd e.symm hb
    ·exact e
   have h3:=ih h2;rw [if_neg (by simpa using hb),if_neg (by simp;omega)];omega
end Lw
namespace Go.Proofs.BGQ
open Go Go.RowKit Lw bF
section
variable {W0 w:World} {U:List Box} {Ps:List (World->Prop)} {l a r:List UInt8}
variable {b s1 s2:Bool} {x1 x2 z:Int} {c1 c2 k k1 k2 n1 n2:Nat} {A1 A2:Option Addr}
theorem mx0(HX:Mx W0)(HS:St W0 U Ps w):Mx w:=HX.next HS.below
theorem yC(HS:St W0 U Ps w)(h : ∀ x∈l,x≠46):bC Tryz.prog 116 [.string ⟨l.toArray⟩,.string ⟨([46]).toArray⟩] w (di W0 U Ps (.bool false)):=by
 refine Calls.mono (Tryz.strings_Contains_one ⟨l.toArray⟩ 46 w) fun e w' hh => ?_;obtain ⟨rfl,rfl⟩:=hh;refine ⟨_,rfl,?_,HS⟩;show Value.bool (decide (0<=Lib.indexByte l 46)) = .bool false;rw [aa8 h];rfl
theorem ai1(HS:St W0 U Ps w)(h:46∈l):bC Tryz.prog 116 [.string ⟨l.toArray⟩,.string ⟨([46]).toArray⟩] w (di W0 U Ps (.bool true)):=by
 refine Calls.mono (Tryz.strings_Contains_one ⟨l.toArray⟩ 46 w) fun e w' hh => ?_;obtain ⟨rfl,rfl⟩:=hh;refine ⟨_,rfl,?_,HS⟩;show Value.bool (decide (0<=Lib.indexByte l 46)) = .bool true;rw [decide_eq_true (aa9 h)]
theorem mV(HX:Mx W0)(HS:St W0 U Ps w){c:UInt8}{x y:List UInt8}(h:Lib.cut l [c]=(x,y,b))(hl:l.length<=100000) :
  bC Tryz.prog 118 [.string ⟨l.toArray⟩,.string ⟨([c]).toArray⟩] w (di W0 U Ps (.tuple #[.string ⟨x.toArray⟩,.string ⟨y.toArray⟩,.bool b])):=by
 obtain ⟨m,hm⟩:=mx0 HX HS;have hs:(⟨l.toArray⟩:ByteArray).size=l.length:=by simp [ByteArray.size]
 refine Calls.mono (Tryz.strings_Cut ⟨l.toArray⟩ ⟨#[c]⟩ m w (by rw [hs];omega) hm) fun e w' hh => ?_;obtain ⟨rfl,n,rfl⟩:=hh;refine ⟨_,rfl,?_,HS.next (below_drewN' _ _ n)⟩;show Value.tuple #[.string ⟨(Lib.cut l [c]).1.toArray⟩,.string ⟨(Lib.cut l [c]).2.1.toArray⟩,.bool (Lib.cut l [c]).2.2]=_;rw [h]
theorem ai2(HS:St W0 U Ps w):bC Tryz.prog 159 [.string ⟨l.toArray⟩,.string ⟨([45]).toArray⟩] w (di W0 U Ps (.tuple #[.string ⟨(Lib.trimPrefix l [45]).toArray⟩,.bool (Lib.hasPrefix l [45])])):=by
 refine Calls.mono (Tryz.strings_CutPrefix ⟨l.toArray⟩ ⟨#[45]⟩ w) fun e w' hh => ?_;obtain ⟨rfl,rfl⟩:=hh;exact ⟨_,rfl,rfl,HS⟩
theorem rY(HS:St W0 U Ps w)(h:b=true↔0<l.length/\dG l)(hl:l.length<=65536):bC Tryz.prog 160 [.string ⟨l.toArray⟩] w (di W0 U Ps (.bool b)):=by
 refine Calls.mono (ae7 l b w h hl) fun e w' hh => ?_;obtain ⟨rfl,rfl⟩:=hh;exact ⟨_,rfl,rfl,HS⟩
theorem V5(HT:Tz W0)(HB:Tab W0)(HS:St W0 U Ps w)(hd:dG l)(hl:l.length<=1000):bC Tryz.prog 161 [.string ⟨l.toArray⟩] w (jR W0 U Ps (bI l:Int) (6*l.length+1)) :=
 oK HS (agf l (St.start HS HT HB) hd hl)
theorem WL(HT:Tz W0)(HB:Tab W0)(HS:St W0 U Ps w){m2:Nat}(f1:FI (.agg #[.bool s1,.slice A1 n1 c1]) x1 k1 w)(hk:k1<=100)(hm:m2<=100) :
  bC Tryz.prog 162 [.agg #[.bool s1,.slice A1 n1 c1],aj m2] w (jR W0 U Ps (x1^m2) (k1*m2+1)) :=
 oK HS (ahm ((St.start HS HT HB).push f1) ak hk hm (dK.lt f1))
theorem WR(HT:Tz W0)(HB:Tab W0)(HS:St W0 U Ps w)(f1:FI (.agg #[.bool s1,.slice A1 n1 c1]) x1 k1 w)(f2:FI (.agg #[.bool s2,.slice A2 n2 c2]) x2 k2 w)(hk:k1+k2<=40000)(hy:0<x2) :
  bC Tryz.prog 90 [.agg #[.bool s1,.slice A1 n1 c1],.agg #[.bool s2,.slice A2 n2 c2]] w (lK W0 U Ps (Rat.divInt x1 x2) (k1+1+(k2+1))) :=
 Cb HS (Ny (((St.start HS HT HB).push f2).push f1) ak au hk hy)
theorem VW(HT:Tz W0)(HB:Tab W0)(HS:St W0 U Ps w){B1:Option Addr}{m1 d1:Nat}{q1:Rat}(f1:FV (avS s1 A1 n1 c1 B1 m1 d1) q1 k1 true w)(hk:k1<=100000) :
  bC Tryz.prog 139 [(avS s1 A1 n1 c1 B1 m1 d1)] w (lK W0 U Ps (-q1) k1) :=
 Cb HS (VX ((St.start HS HT HB).cons f1) ak hk)
theorem afo(HT:Tz W0)(HB:Tab W0)(HS:St W0 U Ps w)(f1:FI (.agg #[.bool s1,.slice A1 n1 c1]) x1 k1 w)(f2:FI (.agg #[.bool s2,.slice A2 n2 c2]) x2 k2 w)(hy:x2=1) :
  bC Tryz.prog 120 [.agg #[.bool s1,.slice A1 n1 c1],.agg #[.bool s2,.slice A2 n2 c2]] w (lK W0 U Ps ((x1:Int):Rat) (k1+k2)) :=
 Cb HS (MI (((St.start HS HT HB).push f2).push f1) ak au (Rat.num_intCast _) (by rw [hy,Rat.den_intCast];rfl))
theorem zy(h:(Lib.itoa z).length<=300):z.natAbs<pw 32:=by
 have h1:z.natAbs<10^(Lib.decDigits z.natAbs).length:=by
  have h2:=BV (yX z.natAbs) (Lib.decDigits z.natAbs).length (avW _)
  rwa [awm,rD] at h2
 have hl:(Lib.decDigits z.natAbs).length<=300:=by
  cases hz:sg z
  ·rw [kZ hz,awj] at h;exact h
  ·rw [itoa_neg hz,aw7,awq] at h;omega
 obtain ⟨e,he⟩ : ∃ e:Nat,e=3:=⟨3,rfl⟩
 have h3:10^(Lib.decDigits z.natAbs).length<=(10^100)^e:=by
  rw [<- awY];exact awv ai af
 have h4:(10^100)^e<pw 32:=by subst he;decide +kernel
 omega
theorem UW(h:(Lib.itoa z).length<=300):(mg z).length<=32:=qp (zy h)
theorem FV.pair{x:Int}{y:Int}{w:World}(f1:FI (.agg #[.bool s1,.slice A1 n1 c1]) x k w)(f2:FI (.agg #[.bool s2,.slice A2 n2 c2]) y k w)(hy:0<y) :
  ∃ (q:Rat) (b:Bool),FV (avS s1 A1 n1 c1 A2 n2 c2) q k b w/\(b=true↔x≠0/\Nat.gcd x.natAbs y.natAbs=1)/\(b=true->q=Rat.divInt x y):=by
 obtain ⟨a1,a2,a3,a4,a5⟩:=dK.len f1;obtain ⟨b1,b2,b3,b4,b5⟩:=dK.len f2;subst a1 b1
 have hy0:1<=(mg y).length:=by
  have:=mt (nH (z:=y)).1 af;omega
 refine ⟨qv (sg x) (mg x) (mg y),fV (sg x) (mg x) (mg y),⟨sg x,A1,n1,c1,A2,n2,c2,mg x,mg y,rfl,a3,b3,a2.symm,b2.symm,a4,b4,a5,b5,rfl,rfl⟩,?_,?_⟩
 ·by_cases hx:x=0
  ·rw [KI rfl rfl (.inl (nH.2 hx)) (by have:=nH.2 hx;omega)]
   exact ⟨fun h=>(by cases h),fun h=>absurd hx h.1⟩
  ·have hx0:1<=(mg x).length:=by
    have:=mt (nH (z:=x)).1 hx;omega
   rw [KG rfl rfl hx0 hy0,show vB false (mg x)=true from Em af,show vB false (mg y)=true from Em af];unfold cp;rw [gX,gX];simp [hx]
 ·intro h
  unfold qv;rw [if_pos h,gX y];have h1:=uK x;unfold zv at h1;rw [if_pos (qN x)] at h1;rw [h1]
  congr 1
  omega
theorem FI.made{A:Option Addr}{c:Nat}{w':World}(hc:(mg z).length<=c)(hr:Rd w' w'.heap.size A (mg z))(hk:(mg z).length<=k):FI (.agg #[.bool (sg z),.slice A (mg z).length c]) z k w' :=
 ⟨_,_,_,_,_,_,rfl,hr,avW _,rfl,hk,hc,uK z,qN z⟩
theorem vF(HS:St W0 U Ps w)(h:l=Lib.itoa z)(hl:l.length<=300):bC Tryz.prog 119 [.string ⟨l.toArray⟩] w (I9 W0 U Ps z 32 .nilIface):=by
 have hz:=UW (z:=z) (by rw [<- h];exact hl);refine Calls.mono (Wn l w af) fun e w' hh => ?_;rcases hh with ⟨z',h1,A,c,h2,h3,h4,h5⟩ | ⟨h1,_⟩
 ·obtain rfl:=Df (h.symm.trans h1)
  exact ⟨_,h2,_,_,_,_,rfl,(HS.next h5).add (FI.stable _ _ _) (FI.made h3 h4 af)⟩
 ·exact absurd h (h1 z)
theorem Mc(HS:St W0 U Ps w)(h : ∀ z,l≠Lib.itoa z)(hl:l.length<=300):bC Tryz.prog 119 [.string ⟨l.toArray⟩] w (di W0 U Ps (.tuple #[.agg #[.bool false,.slice none 0 0],.iface 88 (.int .i64 2)])):=by
 refine Calls.mono (Wn l w af) fun e w' hh => ?_;rcases hh with ⟨z',h1,_⟩ | ⟨_,h2,h3⟩
 ·exact absurd h1 (h z')
 ·exact ⟨_,h2,rfl,HS.next h3⟩
theorem aip(HS:St W0 U Ps w)(h:l=Lib.itoa z)(hl:l.length<=300):bC Tryz.prog 122 [.string ⟨l.toArray⟩] w (I9 W0 U Ps z 32 (.int .i64 0)):=by
 have hz:=UW (z:=z) (by rw [<- h];exact hl);refine Calls.mono (WU l w af) fun e w' hh => ?_;rcases hh with ⟨z',A,c,h1,h2,h3,h4,h5⟩ | ⟨h1,_⟩
 ·obtain rfl:=Df (h.symm.trans h1)
  exact ⟨_,h2,_,_,_,_,rfl,(HS.next h5).add (FI.stable _ _ _) (FI.made h3 h4 af)⟩
 ·exact absurd h (h1 z)
theorem aio(HS:St W0 U Ps w)(h : ∀ z,l≠Lib.itoa z)(hl:l.length<=300):bC Tryz.prog 122 [.string ⟨l.toArray⟩] w (di W0 U Ps (.tuple #[.agg #[.bool false,.slice none 0 0],.int .i64 2])):=by
 refine Calls.mono (WU l w af) fun e w' hh => ?_;rcases hh with ⟨z',A,c,h1,_⟩ | ⟨_,h2,h3⟩
 ·exact absurd h1 (h z')
 ·exact ⟨_,h2,rfl,HS.next h3⟩
end
section
variable {W0 w:World} {U:List Box} {Ps:List (World->Prop)}
variable {za zr:Int} {a l r:List UInt8}
theorem adf(HT:Tz W0)(HB:Tab W0){z:Int}(HS:St W0 U Ps w)(HX:Mx W0)(hno : ∀ x∈l,x≠46)(hl:l.length<=300)(hcut:Lib.cut l [47]=(l,[],false))(h:l=Lib.itoa z):bC Tryz.prog 73 [.string ⟨l.toArray⟩] w (fJ W0 U Ps ((z:Int):Rat) 100 (.nilIface)):=by
 refine cO aur rfl aus rfl<|Js<|JL.alloc (vs:=df) HS rfl atF rfl rfl (fun g1 w1 HS => ?_);refine La rfl<|Jn<|JC.seq<|Js<|Lm rfl<|Lz (.int .i64 (l.length:Int)) (fun a ha=>dQ (ha.ev rfl) atE rfl)<|Lz (.bool false) (fun a ha=>dH (ha.ev rfl) (ha.ev rfl) (decide_eq_false af))<|Jn<|JC.bG rfl<|Jk<|JC.seq<|Js<|Lm rfl<|JL.call rfl rfl auC (yC HS hno)<|?_;rintro v2 w2 ⟨rfl,HS⟩;refine Jn<|JC.bG rfl<|Jk<|Js<|Lm rfl<|JL.call rfl rfl auc (mV HX HS hcut af)<|?_;rintro v3 w3 ⟨rfl,HS⟩;refine Lm rfl<|Lx rfl rfl<|Lx rfl rfl<|Lx rfl rfl<|La rfl<|La rfl<|La rfl<|Jn<|Js<|Lm rfl<|JL.call rfl rfl auk (vF HS h af)<|?_;rintro v4 w4 ⟨s4,A4,n4,c4,rfl,HS⟩;refine Lm rfl<|Lx rfl rfl<|Lx rfl rfl<|JL.alloc (vs:=[.bool false,.slice none 0 0]) HS rfl atM rfl rfl (fun g5 w5 HS => ?_);refine JL.store HS rfl rfl (i:=0) rfl atB rfl rfl rfl (vs':=[.bool s4,.slice A4 n4 c4]) rfl rfl (fun w6 HS => ?_);refine La rfl<|Jn<|JC.seq<|Js<|Lm rfl<|Lz (.bool false) (fun a ha=>gB (ha.ev rfl) rfl atJ)<|Jn<|JC.bG rfl<|Jk<|JC.seq<|Js<|Lm rfl<|Lz (.bool true) (fun a ha=>iE (b:=false) (ha.ev rfl))<|Jn<|JC.bK rfl<|JC.seq<|JC.draw HS [3] ah (fun w7 HS => ?_);refine Da (.agg #[.bool s4,.slice A4 n4 c4]) 0 0 rfl HS.b0 rfl rfl atH atB<|bV 1 rfl rfl rfl auJ (xU HT HB HS  ai ai)<|?_;rintro akG alr ⟨aiW,Zp,afX,abp,rfl,HS⟩;refine ⟨HS.b0,?_⟩;refine bV 2 rfl rfl rfl Tryz.call120 (afo HT HB HS (HS.at_ 1 rfl) (HS.at_ 0 rfl) rfl)<|?_;rintro akH als ⟨aiX,Zq,afY,abq,ZA,afw,abX,rfl,HS⟩;refine ⟨HS.b0,?_⟩;refine iZ 3 (avT aiX Zq afY abq ZA afw abX) HS 1 rfl rfl rfl rfl atz (fun _ HS=>⟨(gZ (s:=3) rfl rfl),?_⟩);refine Ds 4 rfl (gZ (s:=3) rfl rfl) rfl<|JR.next ah (fun _ _ h=>h)<|Jb Tryz.results73 (.agg rfl atD atz (HS.box _ au) rfl rfl) (.tmp rfl)<|?_;exact ⟨_,_,_,_,_,_,_,rfl,HS.oh 2 3 0 rfl (fun _ h=>h.as rfl af)⟩
theorem adg(_HT:Tz W0)(_HB:Tab W0)(HS:St W0 U Ps w)(HX:Mx W0)(hno : ∀ x∈l,x≠46)(hl:l.length<=300)(hcut:Lib.cut l [47]=(l,[],false))(h : ∀ z,l≠Lib.itoa z):bC Tryz.prog 73 [.string ⟨l.toArray⟩] w (di W0 U Ps (.tuple #[dW,.iface 88 (.int .i64 2)])):=by
 refine cO aur rfl aus rfl<|Js<|JL.alloc (vs:=df) HS rfl atF rfl rfl (fun g1 w1 HS => ?_);refine La rfl<|Jn<|JC.seq<|Js<|Lm rfl<|Lz (.int .i64 (l.length:Int)) (fun a ha=>dQ (ha.ev rfl) atE rfl)<|Lz (.bool false) (fun a ha=>dH (ha.ev rfl) (ha.ev rfl) (decide_eq_false af))<|Jn<|JC.bG rfl<|Jk<|JC.seq<|Js<|Lm rfl<|JL.call rfl rfl auC (yC HS hno)<|?_;rintro v2 w2 ⟨rfl,HS⟩;refine Jn<|JC.bG rfl<|Jk<|Js<|Lm rfl<|JL.call rfl rfl auc (mV HX HS hcut af)<|?_;rintro v3 w3 ⟨rfl,HS⟩;refine Lm rfl<|Lx rfl rfl<|Lx rfl rfl<|Lx rfl rfl<|La rfl<|La rfl<|La rfl<|Jn<|Js<|Lm rfl<|JL.call rfl rfl auk (Mc HS h af)<|?_;rintro v4 w4 ⟨rfl,HS⟩;refine Lm rfl<|Lx rfl rfl<|Lx rfl rfl<|JL.alloc (vs:=[.bool false,.slice none 0 0]) HS rfl atM rfl rfl (fun g5 w5 HS => ?_);refine JL.store HS rfl rfl (i:=0) rfl atB rfl rfl rfl (vs':=[.bool false,.slice none 0 0]) rfl rfl (fun w6 HS => ?_);refine La rfl<|Jn<|JC.seq<|Js<|Lm rfl<|Lz (.bool true) (fun a ha=>Ea (ha.ev rfl) rfl atJ)<|Jn<|JC.bK rfl<|Js<|Lz dW (fun a ha=>bF.run_build (ha.bW rfl) atL atF fO rfl)<|Lz (.iface 88 (.int .i64 2)) (fun a ha=>lX (ha.ev rfl) ah)<|JL.store HS rfl rfl (i:=1) rfl atz rfl rfl rfl (vs':=df) rfl rfl (fun w7 HS => ?_);refine La rfl<|Jn<|Jb Tryz.results73 (.agg rfl atD atz (HS.box _ au) rfl rfl) (.tmp rfl)<|?_;exact ⟨rfl,HS.o0 2 0⟩
theorem adk(_HT:Tz W0)(_HB:Tab W0)(HS:St W0 U Ps w)(HX:Mx W0)(hno : ∀ x∈l,x≠46)(hl:l.length<=300)(hcut:Lib.cut l [47]=(a,r,true))(hla:a.length<=300)(hlr:r.length<=300)(h : ∀ z,a≠Lib.itoa z):bC Tryz.prog 73 [.string ⟨l.toArray⟩] w (di W0 U Ps (.tuple #[dW,.iface 88 (.int .i64 2)])):=by
 refine cO aur rfl aus rfl<|Js<|JL.alloc (vs:=df) HS rfl atF rfl rfl (fun g1 w1 HS => ?_);refine La rfl<|Jn<|JC.seq<|Js<|Lm rfl<|Lz (.int .i64 (l.length:Int)) (fun a ha=>dQ (ha.ev rfl) atE rfl)<|Lz (.bool false) (fun a ha=>dH (ha.ev rfl) (ha.ev rfl) (decide_eq_false af))<|Jn<|JC.bG rfl<|Jk<|JC.seq<|Js<|Lm rfl<|JL.call rfl rfl auC (yC HS hno)<|?_;rintro v2 w2 ⟨rfl,HS⟩;refine Jn<|JC.bG rfl<|Jk<|Js<|Lm rfl<|JL.call rfl rfl auc (mV HX HS hcut af)<|?_;rintro v3 w3 ⟨rfl,HS⟩;refine Lm rfl<|Lx rfl rfl<|Lx rfl rfl<|Lx rfl rfl<|La rfl<|La rfl<|La rfl<|Jn<|Js<|Lm rfl<|JL.call rfl rfl auk (Mc HS h af)<|?_;rintro v4 w4 ⟨rfl,HS⟩;refine Lm rfl<|Lx rfl rfl<|Lx rfl rfl<|JL.alloc (vs:=[.bool false,.slice none 0 0]) HS rfl atM rfl rfl (fun g5 w5 HS => ?_);refine JL.store HS rfl rfl (i:=0) rfl atB rfl rfl rfl (vs':=[.bool false,.slice none 0 0]) rfl rfl (fun w6 HS => ?_);refine La rfl<|Jn<|JC.seq<|Js<|Lm rfl<|Lz (.bool true) (fun a ha=>Ea (ha.ev rfl) rfl atJ)<|Jn<|JC.bK rfl<|Js<|Lz dW (fun a ha=>bF.run_build (ha.bW rfl) atL atF fO rfl)<|Lz (.iface 88 (.int .i64 2)) (fun a ha=>lX (ha.ev rfl) ah)<|JL.store HS rfl rfl (i:=1) rfl atz rfl rfl rfl (vs':=df) rfl rfl (fun w7 HS => ?_);refine La rfl<|Jn<|Jb Tryz.results73 (.agg rfl atD atz (HS.box _ au) rfl rfl) (.tmp rfl)<|?_;exact ⟨rfl,HS.o0 2 0⟩
theorem adb(_HT:Tz W0)(_HB:Tab W0)(HS:St W0 U Ps w)(HX:Mx W0)(hno : ∀ x∈l,x≠46)(hl:l.length<=300)(hcut:Lib.cut l [47]=(a,r,true))(hla:a.length<=300)(hlr:r.length<=300)(ha:a=Lib.itoa za)(h : ∀ z,r≠Lib.itoa z):bC Tryz.prog 73 [.string ⟨l.toArray⟩] w (di W0 U Ps (.tuple #[dW,.iface 88 (.int .i64 2)])):=by
 refine cO aur rfl aus rfl<|Js<|JL.alloc (vs:=df) HS rfl atF rfl rfl (fun g1 w1 HS => ?_);refine La rfl<|Jn<|JC.seq<|Js<|Lm rfl<|Lz (.int .i64 (l.length:Int)) (fun a ha=>dQ (ha.ev rfl) atE rfl)<|Lz (.bool false) (fun a ha=>dH (ha.ev rfl) (ha.ev rfl) (decide_eq_false af))<|Jn<|JC.bG rfl<|Jk<|JC.seq<|Js<|Lm rfl<|JL.call rfl rfl auC (yC HS hno)<|?_;rintro v2 w2 ⟨rfl,HS⟩;refine Jn<|JC.bG rfl<|Jk<|Js<|Lm rfl<|JL.call rfl rfl auc (mV HX HS hcut af)<|?_;rintro v3 w3 ⟨rfl,HS⟩;refine Lm rfl<|Lx rfl rfl<|Lx rfl rfl<|Lx rfl rfl<|La rfl<|La rfl<|La rfl<|Jn<|Js<|Lm rfl<|JL.call rfl rfl auk (vF HS ha af)<|?_;rintro v4 w4 ⟨s4,A4,n4,c4,rfl,HS⟩;refine Lm rfl<|Lx rfl rfl<|Lx rfl rfl<|JL.alloc (vs:=[.bool false,.slice none 0 0]) HS rfl atM rfl rfl (fun g5 w5 HS => ?_);refine JL.store HS rfl rfl (i:=0) rfl atB rfl rfl rfl (vs':=[.bool s4,.slice A4 n4 c4]) rfl rfl (fun w6 HS => ?_);refine La rfl<|Jn<|JC.seq<|Js<|Lm rfl<|Lz (.bool false) (fun a ha=>gB (ha.ev rfl) rfl atJ)<|Jn<|JC.bG rfl<|Jk<|JC.seq<|Js<|Lm rfl<|Lz (.bool false) (fun a ha=>iE (b:=true) (ha.ev rfl))<|Jn<|JC.bG rfl<|Jk<|Js<|Lm rfl<|JL.call rfl rfl auk (Mc HS h af)<|?_;rintro v7 w7 ⟨rfl,HS⟩;refine Lm rfl<|Lx rfl rfl<|Lx rfl rfl<|JL.alloc (vs:=[.bool false,.slice none 0 0]) HS rfl atM rfl rfl (fun g8 w8 HS => ?_);refine JL.store HS rfl rfl (i:=0) rfl atB rfl rfl rfl (vs':=[.bool false,.slice none 0 0]) rfl rfl (fun w9 HS => ?_);refine La rfl<|Jn<|JC.seq<|Js<|Lm rfl<|Lz (.bool true) (fun a ha=>Ea (ha.ev rfl) rfl atJ)<|Jn<|JC.bK rfl<|Js<|Lz dW (fun a ha=>bF.run_build (ha.bW rfl) atL atF fO rfl)<|Lz (.iface 88 (.int .i64 2)) (fun a ha=>lX (ha.ev rfl) ah)<|JL.store HS rfl rfl (i:=2) rfl atz rfl rfl rfl (vs':=df) rfl rfl (fun w10 HS => ?_);refine La rfl<|Jn<|Jb Tryz.results73 (.agg rfl atD atz (HS.box _ ay) rfl rfl) (.tmp rfl)<|?_;exact ⟨rfl,HS.o0 3 1⟩
theorem adh(HT:Tz W0)(HB:Tab W0)(HS:St W0 U Ps w)(HX:Mx W0)(hno : ∀ x∈l,x≠46)(hl:l.length<=300)(hcut:Lib.cut l [47]=(a,r,true))(hla:a.length<=300)(hlr:r.length<=300)(ha:a=Lib.itoa za)(hr:r=Lib.itoa zr)(h:zr<=1):bC Tryz.prog 73 [.string ⟨l.toArray⟩] w (di W0 U Ps (.tuple #[dW,.iface 88 (.int .i64 2)])):=by
 refine cO aur rfl aus rfl<|Js<|JL.alloc (vs:=df) HS rfl atF rfl rfl (fun g1 w1 HS => ?_);refine La rfl<|Jn<|JC.seq<|Js<|Lm rfl<|Lz (.int .i64 (l.length:Int)) (fun a ha=>dQ (ha.ev rfl) atE rfl)<|Lz (.bool false) (fun a ha=>dH (ha.ev rfl) (ha.ev rfl) (decide_eq_false af))<|Jn<|JC.bG rfl<|Jk<|JC.seq<|Js<|Lm rfl<|JL.call rfl rfl auC (yC HS hno)<|?_;rintro v2 w2 ⟨rfl,HS⟩;refine Jn<|JC.bG rfl<|Jk<|Js<|Lm rfl<|JL.call rfl rfl auc (mV HX HS hcut af)<|?_;rintro v3 w3 ⟨rfl,HS⟩;refine Lm rfl<|Lx rfl rfl<|Lx rfl rfl<|Lx rfl rfl<|La rfl<|La rfl<|La rfl<|Jn<|Js<|Lm rfl<|JL.call rfl rfl auk (vF HS ha af)<|?_;rintro v4 w4 ⟨s4,A4,n4,c4,rfl,HS⟩;refine Lm rfl<|Lx rfl rfl<|Lx rfl rfl<|JL.alloc (vs:=[.bool false,.slice none 0 0]) HS rfl atM rfl rfl (fun g5 w5 HS => ?_);refine JL.store HS rfl rfl (i:=0) rfl atB rfl rfl rfl (vs':=[.bool s4,.slice A4 n4 c4]) rfl rfl (fun w6 HS => ?_);refine La rfl<|Jn<|JC.seq<|Js<|Lm rfl<|Lz (.bool false) (fun a ha=>gB (ha.ev rfl) rfl atJ)<|Jn<|JC.bG rfl<|Jk<|JC.seq<|Js<|Lm rfl<|Lz (.bool false) (fun a ha=>iE (b:=true) (ha.ev rfl))<|Jn<|JC.bG rfl<|Jk<|Js<|Lm rfl<|JL.call rfl rfl auk (vF HS hr af)<|?_;rintro v7 w7 ⟨s7,A7,n7,c7,rfl,HS⟩;refine Lm rfl<|Lx rfl rfl<|Lx rfl rfl<|JL.alloc (vs:=[.bool false,.slice none 0 0]) HS rfl atM rfl rfl (fun g8 w8 HS => ?_);refine JL.store HS rfl rfl (i:=0) rfl atB rfl rfl rfl (vs':=[.bool s7,.slice A7 n7 c7]) rfl rfl (fun w9 HS => ?_);refine La rfl<|Jn<|JC.seq<|Js<|Lm rfl<|Lz (.bool false) (fun a ha=>gB (ha.ev rfl) rfl atJ)<|Jn<|JC.bG rfl<|Jk<|Js<|dS 0 rfl auu rfl atT<|JL.iR (.bool s4) HS 1 rfl rfl rfl atQ rfl<|dS 1 rfl auu rfl atY<|JL.iR (.slice A4 n4 c4) HS 1 rfl rfl rfl atZ rfl<|dS 1 rfl auu rfl atY<|JL.iR (.slice A7 n7 c7) HS 0 rfl rfl rfl atZ rfl<|Lz (avS s4 A4 n4 c4 A7 n7 c7) (fun a ha=>bF.run_build (ha.bW rfl) atL atF fO rfl)<|JL.alloc (vs:=df) HS rfl atF rfl rfl (fun g10 w10 HS => ?_);refine JL.store HS rfl rfl (i:=0) rfl atz rfl rfl rfl (vs':=(avT s4 A4 n4 c4 A7 n7 c7)) rfl rfl (fun qO HS => ?_);refine Jn<|JC.seq<|JC.seq<|JC.draw HS [] ah (fun w12 HS => ?_)
 refine Da (.agg #[.bool s7,.slice A7 n7 c7]) 0 1 rfl HS.b0 rfl rfl atH atB<|bV 1 rfl rfl rfl auJ (xU HT HB HS  ai ai)<|?_;rintro YP YX ⟨XD,OG,VF,QC,rfl,HS⟩;refine ⟨HS.b0,?_⟩;refine bV 2 rfl rfl rfl avp (Dc HT HB HS (HS.at_ 1 rfl) (HS.at_ 0 rfl) af)<|?_;rintro YQ YY ⟨rfl,HS⟩;refine ⟨HS.b0,?_⟩;refine Dv (.bool true) 3 rfl HS.b0 (fun a ha w=>yu (ha.ev rfl) (ha.ev rfl) ((Kw _ _).trans (decide_eq_true h)))<|Dm 4 rfl HS.b0 rfl<|Jp 5 ah rfl rfl (fun _ _ _ h=>h) rfl rfl rfl rfl rfl HS.b0<|J1 6 ah<|bZ.pass rfl rfl rfl rfl rfl rfl rfl rfl rfl rfl ?_ bZ.nil;refine ⟨HS.b0,?_⟩;refine Jp 7 ah rfl rfl (fun _ _ _ h=>h) rfl rfl rfl rfl rfl HS.b0<|Dv (.bool true) 8 rfl HS.b0 (fun a ha w=>lU (ha.ev rfl) (ha.ev rfl))<|JR.next ah (fun _ _ h=>h)<|JC.bK rfl<|Js<|Lz dW (fun a ha=>bF.run_build (ha.bW rfl) atL atF fO rfl)<|Lz (.iface 88 (.int .i64 2)) (fun a ha=>lX (ha.ev rfl) ah)<|JL.store HS rfl rfl (i:=3) rfl atz rfl rfl rfl (vs':=df) rfl rfl (fun uJ HS => ?_);refine La rfl<|Jn<|Jb Tryz.results73 (.agg rfl atD atz (HS.box _ az) rfl rfl) (.tmp rfl)<|?_;exact ⟨rfl,HS.o0 4 3⟩
theorem ada(HT:Tz W0)(HB:Tab W0)(HS:St W0 U Ps w)(HX:Mx W0)(hno : ∀ x∈l,x≠46)(hl:l.length<=300)(hcut:Lib.cut l [47]=(a,r,true))(hla:a.length<=300)(hlr:r.length<=300)(ha:a=Lib.itoa za)(hr:r=Lib.itoa zr)(h:1<zr)(hok:¬ (za≠0/\Nat.gcd za.natAbs zr.natAbs=1)):bC Tryz.prog 73 [.string ⟨l.toArray⟩] w (di W0 U Ps (.tuple #[dW,.iface 88 (.int .i64 2)])):=by
 refine cO aur rfl aus rfl<|Js<|JL.alloc (vs:=df) HS rfl atF rfl rfl (fun g1 w1 HS => ?_);refine La rfl<|Jn<|JC.seq<|Js<|Lm rfl<|Lz (.int .i64 (l.length:Int)) (fun a ha=>dQ (ha.ev rfl) atE rfl)<|Lz (.bool false) (fun a ha=>dH (ha.ev rfl) (ha.ev rfl) (decide_eq_false af))<|Jn<|JC.bG rfl<|Jk<|JC.seq<|Js<|Lm rfl<|JL.call rfl rfl auC (yC HS hno)<|?_;rintro v2 w2 ⟨rfl,HS⟩;refine Jn<|JC.bG rfl<|Jk<|Js<|Lm rfl<|JL.call rfl rfl auc (mV HX HS hcut af)<|?_;rintro v3 w3 ⟨rfl,HS⟩;refine Lm rfl<|Lx rfl rfl<|Lx rfl rfl<|Lx rfl rfl<|La rfl<|La rfl<|La rfl<|Jn<|Js<|Lm rfl<|JL.call rfl rfl auk (vF HS ha af)<|?_;rintro v4 w4 ⟨s4,A4,n4,c4,rfl,HS⟩;refine Lm rfl<|Lx rfl rfl<|Lx rfl rfl<|JL.alloc (vs:=[.bool false,.slice none 0 0]) HS rfl atM rfl rfl (fun g5 w5 HS => ?_);refine JL.store HS rfl rfl (i:=0) rfl atB rfl rfl rfl (vs':=[.bool s4,.slice A4 n4 c4]) rfl rfl (fun w6 HS => ?_);refine La rfl<|Jn<|JC.seq<|Js<|Lm rfl<|Lz (.bool false) (fun a ha=>gB (ha.ev rfl) rfl atJ)<|Jn<|JC.bG rfl<|Jk<|JC.seq<|Js<|Lm rfl<|Lz (.bool false) (fun a ha=>iE (b:=true) (ha.ev rfl))<|Jn<|JC.bG rfl<|Jk<|Js<|Lm rfl<|JL.call rfl rfl auk (vF HS hr af)<|?_;rintro v7 w7 ⟨s7,A7,n7,c7,rfl,HS⟩;refine Lm rfl<|Lx rfl rfl<|Lx rfl rfl<|JL.alloc (vs:=[.bool false,.slice none 0 0]) HS rfl atM rfl rfl (fun g8 w8 HS => ?_);refine JL.store HS rfl rfl (i:=0) rfl atB rfl rfl rfl (vs':=[.bool s7,.slice A7 n7 c7]) rfl rfl (fun w9 HS => ?_);refine La rfl<|Jn<|JC.seq<|Js<|Lm rfl<|Lz (.bool false) (fun a ha=>gB (ha.ev rfl) rfl atJ)<|Jn<|JC.bG rfl<|Jk<|Js<|dS 0 rfl auu rfl atT<|JL.iR (.bool s4) HS 1 rfl rfl rfl atQ rfl<|dS 1 rfl auu rfl atY<|JL.iR (.slice A4 n4 c4) HS 1 rfl rfl rfl atZ rfl<|dS 1 rfl auu rfl atY<|JL.iR (.slice A7 n7 c7) HS 0 rfl rfl rfl atZ rfl<|Lz (avS s4 A4 n4 c4 A7 n7 c7) (fun a ha=>bF.run_build (ha.bW rfl) atL atF fO rfl)<|JL.alloc (vs:=df) HS rfl atF rfl rfl (fun g10 w10 HS => ?_);refine JL.store HS rfl rfl (i:=0) rfl atz rfl rfl rfl (vs':=(avT s4 A4 n4 c4 A7 n7 c7)) rfl rfl (fun qO HS => ?_);refine Jn<|JC.seq<|JC.seq<|?_
 obtain ⟨qq,bb,fq,hb1,hb2⟩:=FV.pair (HS.at_ 1 rfl) (HS.at_ 0 rfl) (show 0<zr from af);have hbb:bb=false:=(by cases hq:bb;rfl;exact absurd (hb1.1 hq) hok);subst hbb;have HS:=HS.add (FV.stable _ _ _ _) fq;refine JC.draw HS [] ah (fun w12 HS => ?_);refine Da (.agg #[.bool s7,.slice A7 n7 c7]) 0 1 rfl HS.b0 rfl rfl atH atB<|bV 1 rfl rfl rfl auJ (xU HT HB HS  ai ai)<|?_;rintro YP YX ⟨XD,OG,VF,QC,rfl,HS⟩;refine ⟨HS.b0,?_⟩;refine bV 2 rfl rfl rfl avp (Dc HT HB HS (HS.at_ 2 rfl) (HS.at_ 0 rfl) af)<|?_;rintro YQ YY ⟨rfl,HS⟩;refine ⟨HS.b0,?_⟩;refine Dv (.bool false) 3 rfl HS.b0 (fun a ha w=>yu (ha.ev rfl) (ha.ev rfl) ((Kw _ _).trans (decide_eq_false (show ¬ zr<=1 from af))))<|Dm 4 rfl HS.b0 rfl<|EW (avS s4 A4 n4 c4 A7 n7 c7) 5 0 ah rfl (fun _ _ _ h=>h) rfl rfl rfl rfl rfl HS.b0 rfl rfl atD atz rfl rfl<|J1 6 ah<|bZ.dD rfl rfl rfl rfl rfl rfl rfl Tryz.call56 (KO HT HB HS (HS.at_ 1 rfl) af) rfl (fun akl akL JE => ?_) bZ.nil;obtain ⟨rfl,HS⟩:=JE;refine ⟨HS.b0,?_⟩;refine Dg (.bool true) 7 rfl HS.b0 (fun a ha w=>iE (b:=false) (ha.ev rfl))<|Dv (.bool true) 8 rfl HS.b0 (fun a ha w=>wz (ha.ev rfl) (ha.ev rfl))<|JR.next ah (fun _ _ h=>h)<|JC.bK rfl<|Js<|Lz dW (fun a ha=>bF.run_build (ha.bW rfl) atL atF fO rfl)<|Lz (.iface 88 (.int .i64 2)) (fun a ha=>lX (ha.ev rfl) ah)<|JL.store HS rfl rfl (i:=3) rfl atz rfl rfl rfl (vs':=df) rfl rfl (fun uJ HS => ?_);refine La rfl<|Jn<|Jb Tryz.results73 (.agg rfl atD atz (HS.box _ az) rfl rfl) (.tmp rfl)<|?_;exact ⟨rfl,HS.o0 4 4⟩
theorem adi(HT:Tz W0)(HB:Tab W0)(HS:St W0 U Ps w)(HX:Mx W0)(hno : ∀ x∈l,x≠46)(hl:l.length<=300)(hcut:Lib.cut l [47]=(a,r,true))(hla:a.length<=300)(hlr:r.length<=300)(ha:a=Lib.itoa za)(hr:r=Lib.itoa zr)(h:1<zr)(hok:za≠0/\Nat.gcd za.natAbs zr.natAbs=1):bC Tryz.prog 73 [.string ⟨l.toArray⟩] w (fJ W0 U Ps (Rat.divInt za zr) 100 (.nilIface)):=by
 refine cO aur rfl aus rfl<|Js<|JL.alloc (vs:=df) HS rfl atF rfl rfl (fun g1 w1 HS => ?_);refine La rfl<|Jn<|JC.seq<|Js<|Lm rfl<|Lz (.int .i64 (l.length:Int)) (fun a ha=>dQ (ha.ev rfl) atE rfl)<|Lz (.bool false) (fun a ha=>dH (ha.ev rfl) (ha.ev rfl) (decide_eq_false af))<|Jn<|JC.bG rfl<|Jk<|JC.seq<|Js<|Lm rfl<|JL.call rfl rfl auC (yC HS hno)<|?_;rintro v2 w2 ⟨rfl,HS⟩;refine Jn<|JC.bG rfl<|Jk<|Js<|Lm rfl<|JL.call rfl rfl auc (mV HX HS hcut af)<|?_;rintro v3 w3 ⟨rfl,HS⟩;refine Lm rfl<|Lx rfl rfl<|Lx rfl rfl<|Lx rfl rfl<|La rfl<|La rfl<|La rfl<|Jn<|Js<|Lm rfl<|JL.call rfl rfl auk (vF HS ha af)<|?_;rintro v4 w4 ⟨s4,A4,n4,c4,rfl,HS⟩;refine Lm rfl<|Lx rfl rfl<|Lx rfl rfl<|JL.alloc (vs:=[.bool false,.slice none 0 0]) HS rfl atM rfl rfl (fun g5 w5 HS => ?_);refine JL.store HS rfl rfl (i:=0) rfl atB rfl rfl rfl (vs':=[.bool s4,.slice A4 n4 c4]) rfl rfl (fun w6 HS => ?_);refine La rfl<|Jn<|JC.seq<|Js<|Lm rfl<|Lz (.bool false) (fun a ha=>gB (ha.ev rfl) rfl atJ)<|Jn<|JC.bG rfl<|Jk<|JC.seq<|Js<|Lm rfl<|Lz (.bool false) (fun a ha=>iE (b:=true) (ha.ev rfl))<|Jn<|JC.bG rfl<|Jk<|Js<|Lm rfl<|JL.call rfl rfl auk (vF HS hr af)<|?_;rintro v7 w7 ⟨s7,A7,n7,c7,rfl,HS⟩;refine Lm rfl<|Lx rfl rfl<|Lx rfl rfl<|JL.alloc (vs:=[.bool false,.slice none 0 0]) HS rfl atM rfl rfl (fun g8 w8 HS => ?_);refine JL.store HS rfl rfl (i:=0) rfl atB rfl rfl rfl (vs':=[.bool s7,.slice A7 n7 c7]) rfl rfl (fun w9 HS => ?_);refine La rfl<|Jn<|JC.seq<|Js<|Lm rfl<|Lz (.bool false) (fun a ha=>gB (ha.ev rfl) rfl atJ)<|Jn<|JC.bG rfl<|Jk<|Js<|dS 0 rfl auu rfl atT<|JL.iR (.bool s4) HS 1 rfl rfl rfl atQ rfl<|dS 1 rfl auu rfl atY<|JL.iR (.slice A4 n4 c4) HS 1 rfl rfl rfl atZ rfl<|dS 1 rfl auu rfl atY<|JL.iR (.slice A7 n7 c7) HS 0 rfl rfl rfl atZ rfl<|Lz (avS s4 A4 n4 c4 A7 n7 c7) (fun a ha=>bF.run_build (ha.bW rfl) atL atF fO rfl)<|JL.alloc (vs:=df) HS rfl atF rfl rfl (fun g10 w10 HS => ?_);refine JL.store HS rfl rfl (i:=0) rfl atz rfl rfl rfl (vs':=(avT s4 A4 n4 c4 A7 n7 c7)) rfl rfl (fun qO HS => ?_);refine Jn<|JC.seq<|JC.seq<|?_
 obtain ⟨qq,bb,fq,hb1,hb2⟩:=FV.pair (HS.at_ 1 rfl) (HS.at_ 0 rfl) (show 0<zr from af);have hbb:bb=true:=hb1.2 hok;subst hbb;have HS:=HS.add (FV.stable _ _ _ _) fq;refine JC.draw HS [] ah (fun w12 HS => ?_);refine Da (.agg #[.bool s7,.slice A7 n7 c7]) 0 1 rfl HS.b0 rfl rfl atH atB<|bV 1 rfl rfl rfl auJ (xU HT HB HS  ai ai)<|?_;rintro YP YX ⟨XD,OG,VF,QC,rfl,HS⟩;refine ⟨HS.b0,?_⟩;refine bV 2 rfl rfl rfl avp (Dc HT HB HS (HS.at_ 2 rfl) (HS.at_ 0 rfl) af)<|?_;rintro YQ YY ⟨rfl,HS⟩;refine ⟨HS.b0,?_⟩;refine Dv (.bool false) 3 rfl HS.b0 (fun a ha w=>yu (ha.ev rfl) (ha.ev rfl) ((Kw _ _).trans (decide_eq_false (show ¬ zr<=1 from af))))<|Dm 4 rfl HS.b0 rfl<|EW (avS s4 A4 n4 c4 A7 n7 c7) 5 0 ah rfl (fun _ _ _ h=>h) rfl rfl rfl rfl rfl HS.b0 rfl rfl atD atz rfl rfl<|J1 6 ah<|bZ.dD rfl rfl rfl rfl rfl rfl rfl Tryz.call56 (KO HT HB HS (HS.at_ 1 rfl) af) rfl (fun akl akL JE => ?_) bZ.nil;obtain ⟨rfl,HS⟩:=JE;refine ⟨HS.b0,?_⟩;refine Dg (.bool false) 7 rfl HS.b0 (fun a ha w=>iE (b:=true) (ha.ev rfl))<|Dv (.bool false) 8 rfl HS.b0 (fun a ha w=>wz (ha.ev rfl) (ha.ev rfl))<|JR.next ah (fun _ _ h=>h)<|JC.bG rfl<|Jk<|Js<|JL.load (avS s4 A4 n4 c4 A7 n7 c7) HS 0 rfl rfl rfl atD atz rfl rfl<|JL.store HS rfl rfl (i:=3) rfl atz rfl rfl rfl (vs':=(avT s4 A4 n4 c4 A7 n7 c7)) rfl rfl (fun uJ HS => ?_);refine La rfl<|Jn<|Jb Tryz.results73 (.agg rfl atD atz (HS.box _ az) rfl rfl) (.tmp rfl)<|?_;exact ⟨_,_,_,_,_,_,_,rfl,HS.oh 4 4 1 rfl (fun _ h=>h.as (hb2 rfl) af)⟩
def Bz(l:List UInt8)(q:Rat)(er:Value):Prop := ∀ {W0 w:World} {U:List Box} {Ps:List (World->Prop)},Tz W0->Tab W0->Mx W0->St W0 U Ps w->bC Tryz.prog 117 [.string ⟨l.toArray⟩] w (fJ W0 U Ps q 900 er)
theorem SS(HT:Tz W0)(HB:Tab W0){q:Rat}{er:Value}(HS:St W0 U Ps w)(HX:Mx W0)(xJ:46∈l)(hl:l.length<=300)(hd:Bz l q er):bC Tryz.prog 73 [.string ⟨l.toArray⟩] w (fJ W0 U Ps q 900 er):=by
 refine cO aur rfl aus rfl<|Js<|JL.alloc (vs:=df) HS rfl atF rfl rfl (fun g1 w1 HS => ?_);refine La rfl<|Jn<|JC.seq<|Js<|Lm rfl<|Lz (.int .i64 (l.length:Int)) (fun a ha=>dQ (ha.ev rfl) atE rfl)<|Lz (.bool false) (fun a ha=>dH (ha.ev rfl) (ha.ev rfl) (decide_eq_false af))<|Jn<|JC.bG rfl<|Jk<|JC.seq<|Js<|Lm rfl<|JL.call rfl rfl auC (ai1 HS xJ)<|?_;rintro v2 w2 ⟨rfl,HS⟩;refine Jn<|JC.bK rfl<|Js<|Lm rfl<|JL.call rfl rfl Tryz.call117 (hd HT HB HX HS)<|?_;rintro v3 w3 ⟨s3,A3,n3,c3,B3,m3,d3,rfl,HS⟩;refine Lx rfl rfl<|Lx rfl rfl<|JL.store HS rfl rfl (i:=0) rfl atz rfl rfl rfl (vs':=(avT s3 A3 n3 c3 B3 m3 d3)) rfl rfl (fun w4 HS => ?_);refine La rfl<|Jn<|Jb Tryz.results73 (.agg rfl atD atz (HS.box _ ak) rfl rfl) (.tmp rfl)<|?_;exact ⟨_,_,_,_,_,_,_,rfl,HS.oh 1 1 0 rfl (fun _ h=>h.as rfl af)⟩
theorem ade(_HT:Tz W0)(_HB:Tab W0)(HS:St W0 U Ps w)(hl:65536<l.length):bC Tryz.prog 73 [.string ⟨l.toArray⟩] w (di W0 U Ps (.tuple #[dW,.iface 88 (.int .i64 4)])):=by
 refine cO aur rfl aus rfl<|Js<|JL.alloc (vs:=df) HS rfl atF rfl rfl (fun g1 w1 HS => ?_);refine La rfl<|Jn<|JC.seq<|Js<|Lm rfl<|Lz (.int .i64 (l.length:Int)) (fun a ha=>dQ (ha.ev rfl) atE rfl)<|Lz (.bool true) (fun a ha=>dH (ha.ev rfl) (ha.ev rfl) (decide_eq_true af))<|Jn<|JC.bK rfl<|Js<|Lz dW (fun a ha=>bF.run_build (ha.bW rfl) atL atF fO rfl)<|Lz (.iface 88 (.int .i64 4)) (fun a ha=>lX (ha.ev rfl) ah)<|JL.store HS rfl rfl (i:=0) rfl atz rfl rfl rfl (vs':=df) rfl rfl (fun w2 HS => ?_);refine La rfl<|Jn<|Jb Tryz.results73 (.agg rfl atD atz (HS.box _ ak) rfl rfl) (.tmp rfl)<|?_;exact ⟨rfl,HS.o0 1 0⟩
end
section
variable {W0 w:World} {U:List Box} {Ps:List (World->Prop)}
variable {fd neg:Bool} {b f l t:List UInt8}
theorem aa4{a:List UInt8}(h:a=b):(a != b)=false:=by subst h;simp
theorem af0{b:UInt8}(h:b.toNat≠48):(((b.toNat:Nat):Int)==48)=false:=by simp;omega
theorem zY(HS:St W0 U Ps w)(ht:Lib.trimPrefix l [45]=t)(hn:Lib.hasPrefix l [45]=neg):bC Tryz.prog 159 [.string ⟨l.toArray⟩,.string ⟨([45]).toArray⟩] w (di W0 U Ps (.tuple #[.string ⟨t.toArray⟩,.bool neg])):=by
 subst ht hn;exact ai2 HS
theorem agw(_HT:Tz W0)(_HB:Tab W0)(HS:St W0 U Ps w)(HX:Mx W0)(ht:Lib.trimPrefix l [45]=t)(hn:Lib.hasPrefix l [45]=neg)(hcut:Lib.cut t [46]=(f,b,fd))(hl:l.length<=300)(htl:t.length<=300)(hfl:f.length<=300)(hbl:b.length<=300)(h64:64<l.length):bC Tryz.prog 117 [.string ⟨l.toArray⟩] w (di W0 U Ps (.tuple #[dW,.iface 88 (.int .i64 2)])):=by
 refine cO auY rfl auZ rfl<|Js<|JL.alloc (vs:=df) HS rfl atF rfl rfl (fun g1 w1 HS => ?_);refine La rfl<|Jn<|Js<|Lm rfl<|JL.call rfl rfl au0 (zY HS ht hn)<|?_;rintro v2 w2 ⟨rfl,HS⟩;refine Lm rfl<|Lx rfl rfl<|Lx rfl rfl<|La rfl<|La rfl<|Jn<|Js<|Lm rfl<|JL.call rfl rfl auc (mV HX HS hcut af)<|?_;rintro v3 w3 ⟨rfl,HS⟩;refine Lm rfl<|Lx rfl rfl<|Lx rfl rfl<|Lx rfl rfl<|La rfl<|La rfl<|La rfl<|Jn<|JC.seq<|Js<|Lm rfl<|Lz (.int .i64 (l.length:Int)) (fun a ha=>dQ (ha.ev rfl) atE rfl)<|Lz (.bool true) (fun a ha=>dH (ha.ev rfl) (ha.ev rfl) (decide_eq_true af))<|Lm rfl<|Lq<|Lq<|Lq<|Lt rfl rfl<|Lm rfl<|Lq<|Lq<|Lq<|Lt rfl rfl<|Lm rfl<|Lq<|Lq<|Lq<|Lq<|kz<|kz<|Lq<|Lt rfl rfl<|Jn<|JC.bK rfl<|Js<|Lz dW (fun a ha=>bF.run_build (ha.bW rfl) atL atF fO rfl)<|Lz (.iface 88 (.int .i64 2)) (fun a ha=>lX (ha.ev rfl) ah)<|JL.store HS rfl rfl (i:=0) rfl atz rfl rfl rfl (vs':=df) rfl rfl (fun w4 HS => ?_);refine La rfl<|Jn<|Jb Tryz.results117 (.agg rfl atD atz (HS.box _ ak) rfl rfl) (.tmp rfl)<|?_;exact ⟨rfl,HS.o0 1 0⟩
theorem agv(_HT:Tz W0)(_HB:Tab W0)(HS:St W0 U Ps w)(HX:Mx W0)(ht:Lib.trimPrefix l [45]=t)(hn:Lib.hasPrefix l [45]=neg)(hcut:Lib.cut t [46]=(f,b,fd))(hl:l.length<=300)(htl:t.length<=300)(hfl:f.length<=300)(hbl:b.length<=300)(h64:l.length<=64)(hf:¬ (0<f.length/\dG f)):bC Tryz.prog 117 [.string ⟨l.toArray⟩] w (di W0 U Ps (.tuple #[dW,.iface 88 (.int .i64 2)])):=by
 refine cO auY rfl auZ rfl<|Js<|JL.alloc (vs:=df) HS rfl atF rfl rfl (fun g1 w1 HS => ?_);refine La rfl<|Jn<|Js<|Lm rfl<|JL.call rfl rfl au0 (zY HS ht hn)<|?_;rintro v2 w2 ⟨rfl,HS⟩;refine Lm rfl<|Lx rfl rfl<|Lx rfl rfl<|La rfl<|La rfl<|Jn<|Js<|Lm rfl<|JL.call rfl rfl auc (mV HX HS hcut af)<|?_;rintro v3 w3 ⟨rfl,HS⟩;refine Lm rfl<|Lx rfl rfl<|Lx rfl rfl<|Lx rfl rfl<|La rfl<|La rfl<|La rfl<|Jn<|JC.seq<|Js<|Lm rfl<|Lz (.int .i64 (l.length:Int)) (fun a ha=>dQ (ha.ev rfl) atE rfl)<|Lz (.bool false) (fun a ha=>dH (ha.ev rfl) (ha.ev rfl) (decide_eq_false af))<|Lm rfl<|bJ rfl<|JL.dD rfl rfl rfl rfl rfl rfl auv (rY HS (b:=false) ⟨fun h=>(by cases h),fun h=>absurd h hf⟩ af)<|?_;rintro v4 w4 ⟨rfl,HS⟩;refine bz (.bool true) (fun a ha=>iE (b:=false) (ha.ev rfl))<|Lf rfl rfl<|Lm rfl<|Lq<|Lq<|Lq<|Lt rfl rfl<|Lm rfl<|Lq<|Lq<|Lq<|Lq<|kz<|kz<|Lq<|Lt rfl rfl<|Jn<|JC.bK rfl<|Js<|Lz dW (fun a ha=>bF.run_build (ha.bW rfl) atL atF fO rfl)<|Lz (.iface 88 (.int .i64 2)) (fun a ha=>lX (ha.ev rfl) ah)<|JL.store HS rfl rfl (i:=0) rfl atz rfl rfl rfl (vs':=df) rfl rfl (fun w5 HS => ?_);refine La rfl<|Jn<|Jb Tryz.results117 (.agg rfl atD atz (HS.box _ ak) rfl rfl) (.tmp rfl)<|?_;exact ⟨rfl,HS.o0 1 0⟩
theorem agu(_HT:Tz W0)(_HB:Tab W0)(HS:St W0 U Ps w)(HX:Mx W0)(ht:Lib.trimPrefix l [45]=t)(hn:Lib.hasPrefix l [45]=neg)(hcut:Lib.cut t [46]=(f,b,fd))(hl:l.length<=300)(htl:t.length<=300)(hfl:f.length<=300)(hbl:b.length<=300)(h64:l.length<=64)(hf:0<f.length/\dG f)(hb:¬ (0<b.length/\dG b)):bC Tryz.prog 117 [.string ⟨l.toArray⟩] w (di W0 U Ps (.tuple #[dW,.iface 88 (.int .i64 2)])):=by
 refine cO auY rfl auZ rfl<|Js<|JL.alloc (vs:=df) HS rfl atF rfl rfl (fun g1 w1 HS => ?_);refine La rfl<|Jn<|Js<|Lm rfl<|JL.call rfl rfl au0 (zY HS ht hn)<|?_;rintro v2 w2 ⟨rfl,HS⟩;refine Lm rfl<|Lx rfl rfl<|Lx rfl rfl<|La rfl<|La rfl<|Jn<|Js<|Lm rfl<|JL.call rfl rfl auc (mV HX HS hcut af)<|?_;rintro v3 w3 ⟨rfl,HS⟩;refine Lm rfl<|Lx rfl rfl<|Lx rfl rfl<|Lx rfl rfl<|La rfl<|La rfl<|La rfl<|Jn<|JC.seq<|Js<|Lm rfl<|Lz (.int .i64 (l.length:Int)) (fun a ha=>dQ (ha.ev rfl) atE rfl)<|Lz (.bool false) (fun a ha=>dH (ha.ev rfl) (ha.ev rfl) (decide_eq_false af))<|Lm rfl<|bJ rfl<|JL.dD rfl rfl rfl rfl rfl rfl auv (rY HS (b:=true) ⟨fun _=>hf,fun _=>rfl⟩ af)<|?_;rintro v4 w4 ⟨rfl,HS⟩;refine bz (.bool false) (fun a ha=>iE (b:=true) (ha.ev rfl))<|Lf rfl rfl<|Lm rfl<|bJ rfl<|JL.dD rfl rfl rfl rfl rfl rfl auv (rY HS (b:=false) ⟨fun h=>(by cases h),fun h=>absurd h hb⟩ af)<|?_;rintro v5 w5 ⟨rfl,HS⟩;refine bz (.bool true) (fun a ha=>iE (b:=false) (ha.ev rfl))<|Lf rfl rfl<|Lm rfl<|Lq<|Lq<|Lq<|Lq<|kz<|kz<|Lq<|Lt rfl rfl<|Jn<|JC.bK rfl<|Js<|Lz dW (fun a ha=>bF.run_build (ha.bW rfl) atL atF fO rfl)<|Lz (.iface 88 (.int .i64 2)) (fun a ha=>lX (ha.ev rfl) ah)<|JL.store HS rfl rfl (i:=0) rfl atz rfl rfl rfl (vs':=df) rfl rfl (fun w6 HS => ?_);refine La rfl<|Jn<|Jb Tryz.results117 (.agg rfl atD atz (HS.box _ ak) rfl rfl) (.tmp rfl)<|?_;exact ⟨rfl,HS.o0 1 0⟩
theorem agt(_HT:Tz W0)(_HB:Tab W0)(HS:St W0 U Ps w)(HX:Mx W0)(ht:Lib.trimPrefix l [45]=t)(hn:Lib.hasPrefix l [45]=neg)(hcut:Lib.cut t [46]=(f,b,fd))(hl:l.length<=300)(htl:t.length<=300)(hfl:f.length<=300)(hbl:b.length<=300)(h64:l.length<=64)(hf:0<f.length/\dG f)(hb:0<b.length/\dG b)(h48:f[0]? = some 48)(hne:f≠[48]):bC Tryz.prog 117 [.string ⟨l.toArray⟩] w (di W0 U Ps (.tuple #[dW,.iface 88 (.int .i64 2)])):=by
 refine cO auY rfl auZ rfl<|Js<|JL.alloc (vs:=df) HS rfl atF rfl rfl (fun g1 w1 HS => ?_);refine La rfl<|Jn<|Js<|Lm rfl<|JL.call rfl rfl au0 (zY HS ht hn)<|?_;rintro v2 w2 ⟨rfl,HS⟩;refine Lm rfl<|Lx rfl rfl<|Lx rfl rfl<|La rfl<|La rfl<|Jn<|Js<|Lm rfl<|JL.call rfl rfl auc (mV HX HS hcut af)<|?_;rintro v3 w3 ⟨rfl,HS⟩;refine Lm rfl<|Lx rfl rfl<|Lx rfl rfl<|Lx rfl rfl<|La rfl<|La rfl<|La rfl<|Jn<|JC.seq<|Js<|Lm rfl<|Lz (.int .i64 (l.length:Int)) (fun a ha=>dQ (ha.ev rfl) atE rfl)<|Lz (.bool false) (fun a ha=>dH (ha.ev rfl) (ha.ev rfl) (decide_eq_false af))<|Lm rfl<|bJ rfl<|JL.dD rfl rfl rfl rfl rfl rfl auv (rY HS (b:=true) ⟨fun _=>hf,fun _=>rfl⟩ af)<|?_;rintro v4 w4 ⟨rfl,HS⟩;refine bz (.bool false) (fun a ha=>iE (b:=true) (ha.ev rfl))<|Lf rfl rfl<|Lm rfl<|bJ rfl<|JL.dD rfl rfl rfl rfl rfl rfl auv (rY HS (b:=true) ⟨fun _=>hb,fun _=>rfl⟩ af)<|?_;rintro v5 w5 ⟨rfl,HS⟩;refine bz (.bool false) (fun a ha=>iE (b:=true) (ha.ev rfl))<|Lf rfl rfl<|Lm rfl<|bJ rfl<|bz (.int .u8 48) (fun a ha=>fE (ha.ev rfl) (ha.ev rfl) atE rfl h48 rfl)<|bz (.bool true) (fun a ha=>dh (ha.ev rfl) (ha.ev rfl) ai)<|bJ rfl<|bJ rfl<|bz (.bool true) (fun a ha=>Ib (ha.ev rfl) (ha.ev rfl) (by simpa using hne))<|bz (.bool true) (fun a ha=>lU (ha.ev rfl) (ha.ev rfl))<|Lf rfl rfl<|Jn<|JC.bK rfl<|Js<|Lz dW (fun a ha=>bF.run_build (ha.bW rfl) atL atF fO rfl)<|Lz (.iface 88 (.int .i64 2)) (fun a ha=>lX (ha.ev rfl) ah)<|JL.store HS rfl rfl (i:=0) rfl atz rfl rfl rfl (vs':=df) rfl rfl (fun w6 HS => ?_);refine La rfl<|Jn<|Jb Tryz.results117 (.agg rfl atD atz (HS.box _ ak) rfl rfl) (.tmp rfl)<|?_;exact ⟨rfl,HS.o0 1 0⟩
theorem agy(HT:Tz W0)(HB:Tab W0)(HS:St W0 U Ps w)(HX:Mx W0)(ht:Lib.trimPrefix l [45]=t)(hn:Lib.hasPrefix l [45]=neg)(hcut:Lib.cut t [46]=(f,b,fd))(hl:l.length<=300)(htl:t.length<=300)(hfl:f.length<=300)(hbl:b.length<=300)(h64:l.length<=64)(hf:0<f.length/\dG f)(hb:0<b.length/\dG b)(hfb:f.length+b.length<=64)(hfe:f=[48]):bC Tryz.prog 117 [.string ⟨l.toArray⟩] w (fJ W0 U Ps (if neg=true then -(Rat.divInt (bI (f++b):Int) ((10:Int)^b.length)) else Rat.divInt (bI (f++b):Int) ((10:Int)^b.length)) 900 (.nilIface)):=by
 have hfd:dG (f++b):=fun x hx=>(awE.1 hx).elim (hf.2 x) (hb.2 x);have aek:(f++b).length<=64:=by rw [awO];omega
 refine cO auY rfl auZ rfl<|Js<|JL.alloc (vs:=df) HS rfl atF rfl rfl (fun g1 w1 HS => ?_);refine La rfl<|Jn<|Js<|Lm rfl<|JL.call rfl rfl au0 (zY HS ht hn)<|?_;rintro v2 w2 ⟨rfl,HS⟩;refine Lm rfl<|Lx rfl rfl<|Lx rfl rfl<|La rfl<|La rfl<|Jn<|Js<|Lm rfl<|JL.call rfl rfl auc (mV HX HS hcut af)<|?_;rintro v3 w3 ⟨rfl,HS⟩;refine Lm rfl<|Lx rfl rfl<|Lx rfl rfl<|Lx rfl rfl<|La rfl<|La rfl<|La rfl<|Jn<|JC.seq<|Js<|Lm rfl<|Lz (.int .i64 (l.length:Int)) (fun a ha=>dQ (ha.ev rfl) atE rfl)<|Lz (.bool false) (fun a ha=>dH (ha.ev rfl) (ha.ev rfl) (decide_eq_false af))<|Lm rfl<|bJ rfl<|JL.dD rfl rfl rfl rfl rfl rfl auv (rY HS (b:=true) ⟨fun _=>hf,fun _=>rfl⟩ af)<|?_;rintro v4 w4 ⟨rfl,HS⟩;refine bz (.bool false) (fun a ha=>iE (b:=true) (ha.ev rfl))<|Lf rfl rfl<|Lm rfl<|bJ rfl<|JL.dD rfl rfl rfl rfl rfl rfl auv (rY HS (b:=true) ⟨fun _=>hb,fun _=>rfl⟩ af)<|?_;rintro v5 w5 ⟨rfl,HS⟩;refine bz (.bool false) (fun a ha=>iE (b:=true) (ha.ev rfl))<|Lf rfl rfl<|Lm rfl<|bJ rfl<|bz (.int .u8 48) (fun a ha=>fE (ha.ev rfl) (ha.ev rfl) atE rfl (by rw [hfe];rfl) rfl)<|bz (.bool true) (fun a ha=>dh (ha.ev rfl) (ha.ev rfl) ai)<|bJ rfl<|bJ rfl<|bz (.bool false) (fun a ha=>Ib (ha.ev rfl) (ha.ev rfl) (aa4 hfe))<|bz (.bool false) (fun a ha=>lU (ha.ev rfl) (ha.ev rfl))<|Lf rfl rfl<|Jn<|JC.bG rfl<|Jk<|Js<|Lm rfl<|Lm rfl<|Lz (.string ⟨(f++b).toArray⟩) (fun a ha=>H9 (ha.ev rfl) (ha.ev rfl) af rfl)<|JL.call rfl rfl Tryz.call161 (V5 HT HB HS hfd af)<|?_;rintro v6 w6 ⟨s6,A6,n6,c6,rfl,HS⟩;refine JL.call rfl rfl auJ (xU HT HB HS  ai ai)<|?_;rintro v7 w7 ⟨s7,A7,n7,c7,rfl,HS⟩;refine Lm rfl<|Lz (.int .i64 (b.length:Int)) (fun a ha=>dQ (ha.ev rfl) atE rfl)<|JL.call rfl rfl Tryz.call162 (WL HT HB HS (m2:=b.length) (HS.at_ 0 rfl) af af)<|?_;rintro v8 w8 ⟨s8,A8,n8,c8,rfl,HS⟩;refine JL.call rfl rfl Tryz.call90 (WR HT HB HS (HS.at_ 2 rfl) (HS.at_ 0 rfl) af (axs ai))<|?_;rintro v9 w9 ⟨s9,A9,n9,c9,B9,m9,d9,rfl,HS⟩;refine JL.alloc (vs:=df) HS rfl atF rfl rfl (fun g10 w10 HS => ?_);refine JL.store HS rfl rfl (i:=0) rfl atz rfl rfl rfl (vs':=(avT s9 A9 n9 c9 B9 m9 d9)) rfl rfl (fun qO HS => ?_)
 refine Jn<|JC.seq<|Js<|Lm rfl<|Jn<|?_
 cases neg
 ·skip
  refine JC.bG rfl<|Jk<|Js<|JL.load (avS s9 A9 n9 c9 B9 m9 d9) HS 0 rfl rfl rfl atD atz rfl rfl<|JL.store HS rfl rfl (i:=1) rfl atz rfl rfl rfl (vs':=(avT s9 A9 n9 c9 B9 m9 d9)) rfl rfl (fun uI HS => ?_);refine La rfl<|Jn<|Jb Tryz.results117 (.agg rfl atD atz (HS.box _ au) rfl rfl) (.tmp rfl)<|?_;exact ⟨_,_,_,_,_,_,_,rfl,HS.oh 2 4 0 rfl (fun _ h=>h.as ((if_neg ai).symm) af)⟩
 ·skip
  refine JC.bK rfl<|JC.region<|JL.load (avS s9 A9 n9 c9 B9 m9 d9) HS 0 rfl rfl rfl atD atz rfl rfl<|JL.call rfl rfl Tryz.call139 (VW HT HB HS (HS.at_ 0 rfl) af)<|?_;rintro v14 uJ ⟨s14,wQ,n14,c14,wW,m14,d14,rfl,HS⟩;refine JL.store HS rfl rfl (i:=0) rfl atz rfl rfl rfl (vs':=(avT s14 wQ n14 c14 wW m14 d14)) rfl rfl (fun IP HS => ?_);refine Jn<|Js<|JL.load (avS s14 wQ n14 c14 wW m14 d14) HS 0 rfl rfl rfl atD atz rfl rfl<|JL.store HS rfl rfl (i:=1) rfl atz rfl rfl rfl (vs':=(avT s14 wQ n14 c14 wW m14 d14)) rfl rfl (fun w16 HS => ?_);refine La rfl<|Jn<|Jb Tryz.results117 (.agg rfl atD atz (HS.box _ au) rfl rfl) (.tmp rfl)<|?_;exact ⟨_,_,_,_,_,_,_,rfl,HS.oh 2 5 0 rfl (fun _ h=>h.as ((if_pos rfl).symm) af)⟩
theorem agx(HT:Tz W0)(HB:Tab W0){x0:UInt8}(HS:St W0 U Ps w)(HX:Mx W0)(ht:Lib.trimPrefix l [45]=t)(hn:Lib.hasPrefix l [45]=neg)(hcut:Lib.cut t [46]=(f,b,fd))(hl:l.length<=300)(htl:t.length<=300)(hfl:f.length<=300)(hbl:b.length<=300)(h64:l.length<=64)(hf:0<f.length/\dG f)(hb:0<b.length/\dG b)(hfb:f.length+b.length<=64)(hx0:f[0]? = some x0)(aeX:x0.toNat≠48):bC Tryz.prog 117 [.string ⟨l.toArray⟩] w (fJ W0 U Ps (if neg=true then -(Rat.divInt (bI (f++b):Int) ((10:Int)^b.length)) else Rat.divInt (bI (f++b):Int) ((10:Int)^b.length)) 900 (.nilIface)):=by
 have hfd:dG (f++b):=fun x hx=>(awE.1 hx).elim (hf.2 x) (hb.2 x);have aek:(f++b).length<=64:=by rw [awO];omega
 refine cO auY rfl auZ rfl<|Js<|JL.alloc (vs:=df) HS rfl atF rfl rfl (fun g1 w1 HS => ?_);refine La rfl<|Jn<|Js<|Lm rfl<|JL.call rfl rfl au0 (zY HS ht hn)<|?_;rintro v2 w2 ⟨rfl,HS⟩;refine Lm rfl<|Lx rfl rfl<|Lx rfl rfl<|La rfl<|La rfl<|Jn<|Js<|Lm rfl<|JL.call rfl rfl auc (mV HX HS hcut af)<|?_;rintro v3 w3 ⟨rfl,HS⟩;refine Lm rfl<|Lx rfl rfl<|Lx rfl rfl<|Lx rfl rfl<|La rfl<|La rfl<|La rfl<|Jn<|JC.seq<|Js<|Lm rfl<|Lz (.int .i64 (l.length:Int)) (fun a ha=>dQ (ha.ev rfl) atE rfl)<|Lz (.bool false) (fun a ha=>dH (ha.ev rfl) (ha.ev rfl) (decide_eq_false af))<|Lm rfl<|bJ rfl<|JL.dD rfl rfl rfl rfl rfl rfl auv (rY HS (b:=true) ⟨fun _=>hf,fun _=>rfl⟩ af)<|?_;rintro v4 w4 ⟨rfl,HS⟩;refine bz (.bool false) (fun a ha=>iE (b:=true) (ha.ev rfl))<|Lf rfl rfl<|Lm rfl<|bJ rfl<|JL.dD rfl rfl rfl rfl rfl rfl auv (rY HS (b:=true) ⟨fun _=>hb,fun _=>rfl⟩ af)<|?_;rintro v5 w5 ⟨rfl,HS⟩;refine bz (.bool false) (fun a ha=>iE (b:=true) (ha.ev rfl))<|Lf rfl rfl<|Lm rfl<|bJ rfl<|bz (.int .u8 (x0.toNat:Int)) (fun a ha=>fE (ha.ev rfl) (ha.ev rfl) atE rfl hx0 rfl)<|bz (.bool false) (fun a ha=>dh (ha.ev rfl) (ha.ev rfl) (af0 aeX))<|bJ rfl<|Lq<|Lq<|bz (.bool false) (fun a ha=>wz (ha.ev rfl) (ha.ev rfl))<|Lf rfl rfl<|Jn<|JC.bG rfl<|Jk<|Js<|Lm rfl<|Lm rfl<|Lz (.string ⟨(f++b).toArray⟩) (fun a ha=>H9 (ha.ev rfl) (ha.ev rfl) af rfl)<|JL.call rfl rfl Tryz.call161 (V5 HT HB HS hfd af)<|?_;rintro v6 w6 ⟨s6,A6,n6,c6,rfl,HS⟩;refine JL.call rfl rfl auJ (xU HT HB HS  ai ai)<|?_;rintro v7 w7 ⟨s7,A7,n7,c7,rfl,HS⟩;refine Lm rfl<|Lz (.int .i64 (b.length:Int)) (fun a ha=>dQ (ha.ev rfl) atE rfl)<|JL.call rfl rfl Tryz.call162 (WL HT HB HS (m2:=b.length) (HS.at_ 0 rfl) af af)<|?_;rintro v8 w8 ⟨s8,A8,n8,c8,rfl,HS⟩;refine JL.call rfl rfl Tryz.call90 (WR HT HB HS (HS.at_ 2 rfl) (HS.at_ 0 rfl) af (axs ai))<|?_;rintro v9 w9 ⟨s9,A9,n9,c9,B9,m9,d9,rfl,HS⟩;refine JL.alloc (vs:=df) HS rfl atF rfl rfl (fun g10 w10 HS => ?_);refine JL.store HS rfl rfl (i:=0) rfl atz rfl rfl rfl (vs':=(avT s9 A9 n9 c9 B9 m9 d9)) rfl rfl (fun qO HS => ?_)
 refine Jn<|JC.seq<|Js<|Lm rfl<|Jn<|?_
 cases neg
 ·skip
  refine JC.bG rfl<|Jk<|Js<|JL.load (avS s9 A9 n9 c9 B9 m9 d9) HS 0 rfl rfl rfl atD atz rfl rfl<|JL.store HS rfl rfl (i:=1) rfl atz rfl rfl rfl (vs':=(avT s9 A9 n9 c9 B9 m9 d9)) rfl rfl (fun uI HS => ?_);refine La rfl<|Jn<|Jb Tryz.results117 (.agg rfl atD atz (HS.box _ au) rfl rfl) (.tmp rfl)<|?_;exact ⟨_,_,_,_,_,_,_,rfl,HS.oh 2 4 0 rfl (fun _ h=>h.as ((if_neg ai).symm) af)⟩
 ·skip
  refine JC.bK rfl<|JC.region<|JL.load (avS s9 A9 n9 c9 B9 m9 d9) HS 0 rfl rfl rfl atD atz rfl rfl<|JL.call rfl rfl Tryz.call139 (VW HT HB HS (HS.at_ 0 rfl) af)<|?_;rintro v14 uJ ⟨s14,wQ,n14,c14,wW,m14,d14,rfl,HS⟩;refine JL.store HS rfl rfl (i:=0) rfl atz rfl rfl rfl (vs':=(avT s14 wQ n14 c14 wW m14 d14)) rfl rfl (fun IP HS => ?_);refine Jn<|Js<|JL.load (avS s14 wQ n14 c14 wW m14 d14) HS 0 rfl rfl rfl atD atz rfl rfl<|JL.store HS rfl rfl (i:=1) rfl atz rfl rfl rfl (vs':=(avT s14 wQ n14 c14 wW m14 d14)) rfl rfl (fun w16 HS => ?_);refine La rfl<|Jn<|Jb Tryz.results117 (.agg rfl atD atz (HS.box _ au) rfl rfl) (.tmp rfl)<|?_;exact ⟨_,_,_,_,_,_,_,rfl,HS.oh 2 5 0 rfl (fun _ h=>h.as ((if_pos rfl).symm) af)⟩
end
section
variable {W0 w:World} {U:List Box} {Ps:List (World->Prop)}
variable {c ca cr z za zr:Int} {a l r:List UInt8} {i0:Nat} {b:UInt8}
def RP(l:List UInt8)(z c:Int):Prop := ∀ {W0 w:World} {U:List Box} {Ps:List (World->Prop)},St W0 U Ps w->bC Tryz.prog 122 [.string ⟨l.toArray⟩] w (I9 W0 U Ps z 32 (.int .i64 c))
theorem RP.yes(h:l=Lib.itoa z)(hl:l.length<=300):RP l z 0:=fun HS=>aip HS h hl
theorem RP.no(h : ∀ z,l≠Lib.itoa z)(hl:l.length<=300):RP l 0 2:=fun HS=>Calls.mono (aio HS h hl) fun e w' hh=>by
 obtain ⟨v,rfl,rfl,hs⟩:=hh;exact ⟨_,rfl,_,_,_,_,rfl,hs.add (FI.stable _ _ _) ((FI.zero w').weak af)⟩
def RD(a r:List UInt8)(n:Int)(q:Rat)(c:Int):Prop := ∀ {W0 w:World} {U:List Box} {Ps:List (World->Prop)},Tz W0->Tab W0->St W0 U Ps w->bC Tryz.prog 123 [.string ⟨a.toArray⟩,.string ⟨r.toArray⟩,.int .i64 n] w (fJ W0 U Ps q 200 (.int .i64 c))
theorem acg(x:Int):Rat.divInt x 1=(x:Rat):=Rat.ext (by rw [awL];simp) (by rw [awM];simp)
theorem GI(h:b.toNat≠47):(((b.toNat:Nat):Int)==47)=false:=by simp;omega
theorem GH(h:b.toNat≠46):(((b.toNat:Nat):Int)==46)=false:=by simp;omega
theorem MP(h:b.toNat≠45):(((b.toNat:Nat):Int)==45)=false:=by simp;omega
theorem Yn(x:Int):decide (dL x<=0)=decide (x<=0):=by
 rw [decide_eq_decide];unfold dL;split
 ·omega
 ·split <;> omega
theorem uF(x:Int):decide (dL x<0)=decide (x<0):=by
 rw [decide_eq_decide];unfold dL;split
 ·omega
 ·split <;> omega
theorem aa3{b:List UInt8}(h:a=b):(a != b)=false:=by subst h;simp
theorem Xf(HT:Tz W0)(HB:Tab W0)(HS:St W0 U Ps w)(hcl : ∀ (j:Nat) (b:UInt8),l[j]? = some b->b.toNat≠47/\b.toNat≠46)(hl:l.length<=300)(hp:RP l z c):bC Tryz.prog 75 [.string ⟨l.toArray⟩] w (fJ W0 U Ps ((z:Int):Rat) 100 (.int .i64 c)):=by
 refine cO avq rfl avr rfl<|Js<|JL.alloc (vs:=df) HS rfl atF rfl rfl (fun g1 w1 HS => ?_);refine La rfl<|Jn<|JC.seq<|Js<|Lm rfl<|Lz (.int .i64 (l.length:Int)) (fun a ha=>dQ (ha.ev rfl) atE rfl)<|Lz (.bool false) (fun a ha=>dH (ha.ev rfl) (ha.ev rfl) (decide_eq_false af))<|Jn<|JC.bG rfl<|Jk<|JC.seq<|Js<|Lm rfl<|Lz (.int .i64 (l.length:Int)) (fun a ha=>dQ (ha.ev rfl) atE rfl)<|Lm rfl<|Jn<|JC.block<|Jw (ι:=Nat) (fun j=>l.length-j) (fun j=>[(0,.string ⟨l.toArray⟩),(2,.pointer (some ⟨g1,0,none⟩)),(11,.string ⟨l.toArray⟩),(12,.int .i64 (l.length:Int)),(13,.bool false),(15,.string ⟨l.toArray⟩),(16,.int .i64 (l.length:Int)),(17,aj j)]) (fun j w=>(j<=l.length)/\St W0 (⟨g1,24,df⟩::U) (Ps) w) ?_ 0 _ ⟨avY _,HS⟩;skip;rintro j yI ⟨xN,HS⟩
 try dsimp only at *
 refine Js<|Lb rfl rfl<|Jn<|JC.seq<|?_
 cases hsp2:(decide ((j:Int)<(l.length:Int)))
 ·skip
  have hd2:=of_decide_eq_false hsp2;refine JC.bG rfl<|JC.exit (fun _ _ h=>h) (fun _ _ h=>h)<|Js<|Lm rfl<|JL.call rfl rfl at7 (hp HS)<|?_;rintro v3 w3 ⟨s3,A3,n3,c3,rfl,HS⟩;refine Lm rfl<|Lx rfl rfl<|Lx rfl rfl<|JL.alloc (vs:=[.bool false,.slice none 0 0]) HS rfl atM rfl rfl (fun g4 w4 HS => ?_);refine JL.store HS rfl rfl (i:=0) rfl atB rfl rfl rfl (vs':=[.bool s3,.slice A3 n3 c3]) rfl rfl (fun w5 HS => ?_);refine La rfl<|Jn<|JC.seq<|JC.draw HS [4] ah (fun w6 HS => ?_);refine Da (.agg #[.bool s3,.slice A3 n3 c3]) 0 0 rfl HS.b0 rfl rfl atH atB<|Dm 3 rfl HS.b0 rfl<|bV 1 rfl rfl rfl auz (vZ HT HB HS  )<|?_;rintro aq5 asY ⟨ap7,ama,aoD,amV,rfl,HS⟩;refine ⟨HS.b0,?_⟩;refine bV 2 rfl rfl rfl auK (yt HT HB HS (HS.at_ 1 rfl) (HS.at_ 0 rfl) af ai)<|?_;rintro aq6 asZ ⟨aiV,Zo,afW,abo,Zz,afv,abW,rfl,HS⟩;refine ⟨HS.b0,?_⟩;refine iZ 4 (avT aiV Zo afW abo Zz afv abW) HS 1 rfl rfl rfl rfl atz (fun _ HS=>⟨(gZ (s:=4) rfl rfl),?_⟩);refine Ds 5 rfl (gZ (s:=4) rfl rfl) rfl<|JR.next ah (fun _ _ h=>h)<|Jb Tryz.results75 (.agg rfl atD atz (HS.box _ au) rfl rfl) (.tmp rfl)<|?_;exact ⟨_,_,_,_,_,_,_,rfl,HS.oh 2 3 0 rfl (fun _ h=>h.as (acg _) af)⟩
 ·skip
  have hd2:=of_decide_eq_true hsp2;refine JC.bK rfl<|Jk<|JC.seq<|JC.block<|Js<|Lm rfl<|La rfl<|Jn<|JC.seq<|?_;obtain ⟨b,hb⟩ : ∃ b,l[j]? = some b:=⟨_,awf (show j<l.length from af)⟩;obtain ⟨xE,xC⟩:=hcl j b hb;refine JC.region<|Lm rfl<|Lm rfl<|Lz (.int .u8 (b.toNat:Int)) (fun a ha=>fE (ha.ev rfl) (ha.ev rfl) atE rfl hb rfl)<|Jn<|JC.block<|Js<|Lz (.bool false) (fun a ha=>dh (ha.ev rfl) (ha.ev rfl) (GI xE))<|La rfl<|Jn<|JC.bG rfl<|Js<|Lz (.bool false) (fun a ha=>dh (ha.ev rfl) (ha.ev rfl) (GH xC))<|La rfl<|Jn<|JC.bG rfl<|JC.Ip (fun _ _ h=>h)<|JC.region<|Lz (.int .i64 ((j+1:Nat):Int)) (fun a ha=>iw (ha.ev rfl) (ha.ev rfl) (by rw [IntKind.wrap_i64];omega))<|Lm rfl<|?_;exact Jr (j+1) ⟨af,HS⟩
theorem aiq(HT:Tz W0)(HB:Tab W0)(HS:St W0 U Ps w)(hcl : ∀ (j:Nat) (b:UInt8),j<i0->l[j]? = some b->b.toNat≠47/\b.toNat≠46)(hat:l[i0]? = some 47)(htk:l.take i0=a)(hdr:l.drop (i0+1)=r)(hl:l.length<=300)(ha:RP a za ca)(hr:RP r zr cr)(hbad:ca≠0\/cr≠0\/zr<=0\/lD (Rat.divInt za zr)≠l):bC Tryz.prog 75 [.string ⟨l.toArray⟩] w (fJ W0 U Ps 0 100 (.int .i64 2)):=by
 have hi0:i0<l.length:=(awD.1 hat).1;refine cO avq rfl avr rfl<|Js<|JL.alloc (vs:=df) HS rfl atF rfl rfl (fun g1 w1 HS => ?_);refine La rfl<|Jn<|JC.seq<|Js<|Lm rfl<|Lz (.int .i64 (l.length:Int)) (fun a ha=>dQ (ha.ev rfl) atE rfl)<|Lz (.bool false) (fun a ha=>dH (ha.ev rfl) (ha.ev rfl) (decide_eq_false af))<|Jn<|JC.bG rfl<|Jk<|JC.seq<|Js<|Lm rfl<|Lz (.int .i64 (l.length:Int)) (fun a ha=>dQ (ha.ev rfl) atE rfl)<|Lm rfl<|Jn<|JC.block<|Jw (ι:=Nat) (fun j=>l.length-j) (fun j=>[(0,.string ⟨l.toArray⟩),(2,.pointer (some ⟨g1,0,none⟩)),(11,.string ⟨l.toArray⟩),(12,.int .i64 (l.length:Int)),(13,.bool false),(15,.string ⟨l.toArray⟩),(16,.int .i64 (l.length:Int)),(17,aj j)]) (fun j w=>(j<=i0)/\St W0 (⟨g1,24,df⟩::U) (Ps) w) ?_ 0 _ ⟨avY _,HS⟩;skip;rintro j yI ⟨xN,HS⟩
 try dsimp only at *
 refine Js<|Lz (.bool true) (fun a ha=>dU (ha.ev rfl) (ha.ev rfl) (decide_eq_true af))<|Jn<|JC.seq<|JC.bK rfl<|Jk<|JC.seq<|JC.block<|Js<|Lm rfl<|La rfl<|Jn<|?_
 by_cases hc2:j=i0
 ·skip
  refine Js<|Lm rfl<|Lm rfl<|Lz (.int .u8 47) (fun a ha=>fE (ha.ev rfl) (ha.ev rfl) atE (congrArg (fun x:Nat=>(x:Int)) hc2) hat rfl)<|Jn<|JC.block<|Js<|Lz (.bool true) (fun a ha=>dh (ha.ev rfl) (ha.ev rfl) ai)<|La rfl<|Jn<|JC.bK rfl<|Js<|Lm rfl<|Lm rfl<|Lz (.string ⟨a.toArray⟩) (fun a ha=>NH (ha.ev rfl) (ha.ev rfl) atE (congrArg (fun x:Nat=>(x:Int)) hc2) af htk)<|JL.call rfl rfl at7 (ha HS)<|?_;rintro v3 w3 ⟨s3,A3,n3,c3,rfl,HS⟩;refine Lm rfl<|Lx rfl rfl<|Lx rfl rfl<|JL.alloc (vs:=[.bool false,.slice none 0 0]) HS rfl atM rfl rfl (fun g4 w4 HS => ?_);refine JL.store HS rfl rfl (i:=0) rfl atB rfl rfl rfl (vs':=[.bool s3,.slice A3 n3 c3]) rfl rfl (fun w5 HS => ?_);refine La rfl<|Jn<|Js<|Lm rfl<|Lm rfl<|Lz (.int .i64 ((i0+1:Nat):Int)) (fun a ha=>iw (ha.ev rfl) (ha.ev rfl) (by rw [IntKind.wrap_i64];omega))<|Lz (.string ⟨r.toArray⟩) (fun a ha=>zV (ha.ev rfl) (ha.ev rfl) atE rfl af hdr)<|JL.call rfl rfl at7 (hr HS)<|?_;rintro v6 w6 ⟨s6,A6,n6,c6,rfl,HS⟩;refine Lm rfl<|Lx rfl rfl<|Lx rfl rfl<|JL.alloc (vs:=[.bool false,.slice none 0 0]) HS rfl atM rfl rfl (fun g7 w7 HS => ?_);refine JL.store HS rfl rfl (i:=0) rfl atB rfl rfl rfl (vs':=[.bool s6,.slice A6 n6 c6]) rfl rfl (fun w8 HS => ?_);refine La rfl<|Jn<|JC.seq<|Js<|Lm rfl<|Lz (.bool (ca != 0)) (fun a ha=>gG (ha.ev rfl) (ha.ev rfl) rfl)<|?_
  cases rX:(ca != 0)
  ·skip
   refine Lm rfl<|bJ rfl<|bz (.bool (cr != 0)) (fun a ha=>gG (ha.ev rfl) (ha.ev rfl) rfl)<|Lf rfl rfl<|?_
   cases vz:(cr != 0)
   ·skip
    refine Lm rfl<|bz (.agg #[.bool s6,.slice A6 n6 c6]) (fun a ha=>dJ (ha.ev rfl) atH atB (HS.box _ ak) rfl rfl)<|JL.dD rfl rfl rfl rfl rfl rfl aul (o9 HT HB HS (HS.at_ 0 rfl) af)<|?_;rintro v11 qO ⟨rfl,HS⟩;refine bz (.bool (decide (zr<=0))) (fun a ha=>yu (ha.ev rfl) (ha.ev rfl) (Yn _))<|Lf rfl rfl<|?_
    cases LU:((decide (zr<=0)))
    ·skip
     refine Lm rfl<|bz (.agg #[.bool s3,.slice A3 n3 c3]) (fun a ha=>dJ (ha.ev rfl) atH atB (HS.box _ au) rfl rfl)<|bz (.agg #[.bool s6,.slice A6 n6 c6]) (fun a ha=>dJ (ha.ev rfl) atH atB (HS.box _ ak) rfl rfl)<|JL.dD rfl rfl rfl rfl rfl rfl auK (yt HT HB HS (HS.at_ 1 rfl) (HS.at_ 0 rfl) af (by have h9:=of_decide_eq_false (p:=zr<=0) (by assumption);omega))<|?_;rintro v13 uI ⟨s13,A13,n13,c13,B13,m13,d13,rfl,HS⟩;refine JL.dD rfl rfl rfl rfl rfl rfl Tryz.call65 (Xc HT HB HS (HS.at_ 0 rfl) af)<|?_;rintro v14 uJ ⟨rfl,HS⟩;refine bJ rfl<|bz (.bool (lD (Rat.divInt za zr) != l)) (fun a ha=>Ib (ha.ev rfl) (ha.ev rfl) rfl)<|Lf rfl rfl<|Jn<|?_
     cases aeB:((lD (Rat.divInt za zr) != l))
     ·skip
      exact absurd hbad (by rintro (h | h | h | h);exact h (by simpa using rX);exact h (by simpa using vz);exact of_decide_eq_false LU h;exact h (by simpa using aeB))
     ·skip
      refine JC.bK rfl<|Js<|Lz dW (fun a ha=>bF.run_build (ha.bW rfl) atL atF fO rfl)<|JL.store HS rfl rfl (i:=2) rfl atz rfl rfl rfl (vs':=df) rfl rfl (fun w16 HS => ?_);refine La rfl<|Jn<|Jb Tryz.results75 (.agg rfl atD atz (HS.box _ ay) rfl rfl) (.tmp rfl)<|?_;exact ⟨_,_,_,_,_,_,_,rfl,(HS.add (FV.stable _ _ _ _) ((FV.zero 0 _).as rfl af)).jm 3 3 rfl rfl⟩
    ·skip
     refine Lm rfl<|Lq<|Lq<|Lq<|Lq<|Lq<|Lq<|Lt rfl rfl<|Jn<|JC.bK rfl<|Js<|Lz dW (fun a ha=>bF.run_build (ha.bW rfl) atL atF fO rfl)<|JL.store HS rfl rfl (i:=2) rfl atz rfl rfl rfl (vs':=df) rfl rfl (fun Oo HS => ?_);refine La rfl<|Jn<|Jb Tryz.results75 (.agg rfl atD atz (HS.box _ ay) rfl rfl) (.tmp rfl)<|?_;exact ⟨_,_,_,_,_,_,_,rfl,(HS.add (FV.stable _ _ _ _) ((FV.zero 0 _).as rfl af)).jm 3 2 rfl rfl⟩
   ·skip
    refine Lm rfl<|Lq<|Lq<|Lq<|Lt rfl rfl<|Lm rfl<|Lq<|Lq<|Lq<|Lq<|Lq<|Lq<|Lt rfl rfl<|Jn<|JC.bK rfl<|Js<|Lz dW (fun a ha=>bF.run_build (ha.bW rfl) atL atF fO rfl)<|JL.store HS rfl rfl (i:=2) rfl atz rfl rfl rfl (vs':=df) rfl rfl (fun w18 HS => ?_);refine La rfl<|Jn<|Jb Tryz.results75 (.agg rfl atD atz (HS.box _ ay) rfl rfl) (.tmp rfl)<|?_;exact ⟨_,_,_,_,_,_,_,rfl,(HS.add (FV.stable _ _ _ _) ((FV.zero 0 _).as rfl af)).jm 3 2 rfl rfl⟩
  ·skip
   refine Lm rfl<|Lq<|Lq<|Lt rfl rfl<|Lm rfl<|Lq<|Lq<|Lq<|Lt rfl rfl<|Lm rfl<|Lq<|Lq<|Lq<|Lq<|Lq<|Lq<|Lt rfl rfl<|Jn<|JC.bK rfl<|Js<|Lz dW (fun a ha=>bF.run_build (ha.bW rfl) atL atF fO rfl)<|JL.store HS rfl rfl (i:=2) rfl atz rfl rfl rfl (vs':=df) rfl rfl (fun Oq HS => ?_);refine La rfl<|Jn<|Jb Tryz.results75 (.agg rfl atD atz (HS.box _ ay) rfl rfl) (.tmp rfl)<|?_;exact ⟨_,_,_,_,_,_,_,rfl,(HS.add (FV.stable _ _ _ _) ((FV.zero 0 _).as rfl af)).jm 3 2 rfl rfl⟩
 ·skip
  refine JC.seq<|?_;obtain ⟨b,hb⟩ : ∃ b,l[j]? = some b:=⟨_,awf (show j<l.length from af)⟩;obtain ⟨xE,xC⟩:=hcl j b af hb;refine JC.region<|Lm rfl<|Lm rfl<|Lz (.int .u8 (b.toNat:Int)) (fun a ha=>fE (ha.ev rfl) (ha.ev rfl) atE rfl hb rfl)<|Jn<|JC.block<|Js<|Lz (.bool false) (fun a ha=>dh (ha.ev rfl) (ha.ev rfl) (GI xE))<|La rfl<|Jn<|JC.bG rfl<|Js<|Lz (.bool false) (fun a ha=>dh (ha.ev rfl) (ha.ev rfl) (GH xC))<|La rfl<|Jn<|JC.bG rfl<|JC.Ip (fun _ _ h=>h)<|JC.region<|Lz (.int .i64 ((j+1:Nat):Int)) (fun a ha=>iw (ha.ev rfl) (ha.ev rfl) (by rw [IntKind.wrap_i64];omega))<|Lm rfl<|?_;exact Jr (j+1) ⟨af,HS⟩
theorem ait(HT:Tz W0)(HB:Tab W0)(HS:St W0 U Ps w)(hcl : ∀ (j:Nat) (b:UInt8),j<i0->l[j]? = some b->b.toNat≠47/\b.toNat≠46)(hat:l[i0]? = some 47)(htk:l.take i0=a)(hdr:l.drop (i0+1)=r)(hl:l.length<=300)(ha:RP a za ca)(hr:RP r zr cr)(hok:ca=0/\cr=0/\0<zr/\lD (Rat.divInt za zr)=l):bC Tryz.prog 75 [.string ⟨l.toArray⟩] w (fJ W0 U Ps (Rat.divInt za zr) 100 (.int .i64 0)):=by
 have hi0:i0<l.length:=(awD.1 hat).1;refine cO avq rfl avr rfl<|Js<|JL.alloc (vs:=df) HS rfl atF rfl rfl (fun g1 w1 HS => ?_);refine La rfl<|Jn<|JC.seq<|Js<|Lm rfl<|Lz (.int .i64 (l.length:Int)) (fun a ha=>dQ (ha.ev rfl) atE rfl)<|Lz (.bool false) (fun a ha=>dH (ha.ev rfl) (ha.ev rfl) (decide_eq_false af))<|Jn<|JC.bG rfl<|Jk<|JC.seq<|Js<|Lm rfl<|Lz (.int .i64 (l.length:Int)) (fun a ha=>dQ (ha.ev rfl) atE rfl)<|Lm rfl<|Jn<|JC.block<|Jw (ι:=Nat) (fun j=>l.length-j) (fun j=>[(0,.string ⟨l.toArray⟩),(2,.pointer (some ⟨g1,0,none⟩)),(11,.string ⟨l.toArray⟩),(12,.int .i64 (l.length:Int)),(13,.bool false),(15,.string ⟨l.toArray⟩),(16,.int .i64 (l.length:Int)),(17,aj j)]) (fun j w=>(j<=i0)/\St W0 (⟨g1,24,df⟩::U) (Ps) w) ?_ 0 _ ⟨avY _,HS⟩;skip;rintro j yI ⟨xN,HS⟩
 try dsimp only at *
 refine Js<|Lz (.bool true) (fun a ha=>dU (ha.ev rfl) (ha.ev rfl) (decide_eq_true af))<|Jn<|JC.seq<|JC.bK rfl<|Jk<|JC.seq<|JC.block<|Js<|Lm rfl<|La rfl<|Jn<|?_
 by_cases hc2:j=i0
 ·skip
  refine Js<|Lm rfl<|Lm rfl<|Lz (.int .u8 47) (fun a ha=>fE (ha.ev rfl) (ha.ev rfl) atE (congrArg (fun x:Nat=>(x:Int)) hc2) hat rfl)<|Jn<|JC.block<|Js<|Lz (.bool true) (fun a ha=>dh (ha.ev rfl) (ha.ev rfl) ai)<|La rfl<|Jn<|JC.bK rfl<|Js<|Lm rfl<|Lm rfl<|Lz (.string ⟨a.toArray⟩) (fun a ha=>NH (ha.ev rfl) (ha.ev rfl) atE (congrArg (fun x:Nat=>(x:Int)) hc2) af htk)<|JL.call rfl rfl at7 (ha HS)<|?_;rintro v3 w3 ⟨s3,A3,n3,c3,rfl,HS⟩;refine Lm rfl<|Lx rfl rfl<|Lx rfl rfl<|JL.alloc (vs:=[.bool false,.slice none 0 0]) HS rfl atM rfl rfl (fun g4 w4 HS => ?_);refine JL.store HS rfl rfl (i:=0) rfl atB rfl rfl rfl (vs':=[.bool s3,.slice A3 n3 c3]) rfl rfl (fun w5 HS => ?_);refine La rfl<|Jn<|Js<|Lm rfl<|Lm rfl<|Lz (.int .i64 ((i0+1:Nat):Int)) (fun a ha=>iw (ha.ev rfl) (ha.ev rfl) (by rw [IntKind.wrap_i64];omega))<|Lz (.string ⟨r.toArray⟩) (fun a ha=>zV (ha.ev rfl) (ha.ev rfl) atE rfl af hdr)<|JL.call rfl rfl at7 (hr HS)<|?_;rintro v6 w6 ⟨s6,A6,n6,c6,rfl,HS⟩;refine Lm rfl<|Lx rfl rfl<|Lx rfl rfl<|JL.alloc (vs:=[.bool false,.slice none 0 0]) HS rfl atM rfl rfl (fun g7 w7 HS => ?_);refine JL.store HS rfl rfl (i:=0) rfl atB rfl rfl rfl (vs':=[.bool s6,.slice A6 n6 c6]) rfl rfl (fun w8 HS => ?_);refine La rfl<|Jn<|JC.seq<|Js<|Lm rfl<|Lz (.bool false) (fun a ha=>gG (ha.ev rfl) (ha.ev rfl) (by rw [hok.1];rfl))<|Lm rfl<|bJ rfl<|bz (.bool false) (fun a ha=>gG (ha.ev rfl) (ha.ev rfl) (by rw [hok.2.1];rfl))<|Lf rfl rfl<|Lm rfl<|bz (.agg #[.bool s6,.slice A6 n6 c6]) (fun a ha=>dJ (ha.ev rfl) atH atB (HS.box _ ak) rfl rfl)<|JL.dD rfl rfl rfl rfl rfl rfl aul (o9 HT HB HS (HS.at_ 0 rfl) af)<|?_;rintro v9 w9 ⟨rfl,HS⟩;refine bz (.bool false) (fun a ha=>yu (ha.ev rfl) (ha.ev rfl) ((Yn _).trans (decide_eq_false (show ¬ zr<=0 from af))))<|Lf rfl rfl<|Lm rfl<|bz (.agg #[.bool s3,.slice A3 n3 c3]) (fun a ha=>dJ (ha.ev rfl) atH atB (HS.box _ au) rfl rfl)<|bz (.agg #[.bool s6,.slice A6 n6 c6]) (fun a ha=>dJ (ha.ev rfl) atH atB (HS.box _ ak) rfl rfl)<|JL.dD rfl rfl rfl rfl rfl rfl auK (yt HT HB HS (HS.at_ 1 rfl) (HS.at_ 0 rfl) af af)<|?_
  rintro v10 w10 ⟨s10,IY,n10,c10,B10,m10,d10,rfl,HS⟩;refine JL.dD rfl rfl rfl rfl rfl rfl Tryz.call65 (Xc HT HB HS (HS.at_ 0 rfl) af)<|?_;rintro v11 qO ⟨rfl,HS⟩;refine bJ rfl<|bz (.bool false) (fun a ha=>Ib (ha.ev rfl) (ha.ev rfl) (aa3 hok.2.2.2))<|Lf rfl rfl<|Jn<|JC.bG rfl<|Jk<|Js<|JL.load (.agg #[.bool s3,.slice A3 n3 c3]) HS 1 rfl rfl rfl atH atB rfl rfl<|JL.load (.agg #[.bool s6,.slice A6 n6 c6]) HS 0 rfl rfl rfl atH atB rfl rfl<|JL.call rfl rfl auK (yt HT HB HS (HS.at_ 2 rfl) (HS.at_ 1 rfl) af af)<|?_;rintro v12 w12 ⟨s12,IZ,n12,c12,Jd,m12,d12,rfl,HS⟩;refine JL.store HS rfl rfl (i:=2) rfl atz rfl rfl rfl (vs':=(avT s12 IZ n12 c12 Jd m12 d12)) rfl rfl (fun uI HS => ?_);refine La rfl<|Jn<|Jb Tryz.results75 (.agg rfl atD atz (HS.box _ ay) rfl rfl) (.tmp rfl)<|?_;exact ⟨_,_,_,_,_,_,_,rfl,HS.oh 3 4 0 rfl (fun _ h=>h.as rfl af)⟩
 ·skip
  refine JC.seq<|?_;obtain ⟨b,hb⟩ : ∃ b,l[j]? = some b:=⟨_,awf (show j<l.length from af)⟩;obtain ⟨xE,xC⟩:=hcl j b af hb;refine JC.region<|Lm rfl<|Lm rfl<|Lz (.int .u8 (b.toNat:Int)) (fun a ha=>fE (ha.ev rfl) (ha.ev rfl) atE rfl hb rfl)<|Jn<|JC.block<|Js<|Lz (.bool false) (fun a ha=>dh (ha.ev rfl) (ha.ev rfl) (GI xE))<|La rfl<|Jn<|JC.bG rfl<|Js<|Lz (.bool false) (fun a ha=>dh (ha.ev rfl) (ha.ev rfl) (GH xC))<|La rfl<|Jn<|JC.bG rfl<|JC.Ip (fun _ _ h=>h)<|JC.region<|Lz (.int .i64 ((j+1:Nat):Int)) (fun a ha=>iw (ha.ev rfl) (ha.ev rfl) (by rw [IntKind.wrap_i64];omega))<|Lm rfl<|?_;exact Jr (j+1) ⟨af,HS⟩
theorem air(HT:Tz W0)(HB:Tab W0){q:Rat}(HS:St W0 U Ps w)(hcl : ∀ (j:Nat) (b:UInt8),j<i0->l[j]? = some b->b.toNat≠47/\b.toNat≠46)(hat:l[i0]? = some 46)(htk:l.take i0=a)(hdr:l.drop (i0+1)=r)(hl:l.length<=300)(hd:RD a r (l.length:Int) q c):bC Tryz.prog 75 [.string ⟨l.toArray⟩] w (fJ W0 U Ps q 200 (.int .i64 c)):=by
 have hi0:i0<l.length:=(awD.1 hat).1;refine cO avq rfl avr rfl<|Js<|JL.alloc (vs:=df) HS rfl atF rfl rfl (fun g1 w1 HS => ?_);refine La rfl<|Jn<|JC.seq<|Js<|Lm rfl<|Lz (.int .i64 (l.length:Int)) (fun a ha=>dQ (ha.ev rfl) atE rfl)<|Lz (.bool false) (fun a ha=>dH (ha.ev rfl) (ha.ev rfl) (decide_eq_false af))<|Jn<|JC.bG rfl<|Jk<|JC.seq<|Js<|Lm rfl<|Lz (.int .i64 (l.length:Int)) (fun a ha=>dQ (ha.ev rfl) atE rfl)<|Lm rfl<|Jn<|JC.block<|Jw (ι:=Nat) (fun j=>l.length-j) (fun j=>[(0,.string ⟨l.toArray⟩),(2,.pointer (some ⟨g1,0,none⟩)),(11,.string ⟨l.toArray⟩),(12,.int .i64 (l.length:Int)),(13,.bool false),(15,.string ⟨l.toArray⟩),(16,.int .i64 (l.length:Int)),(17,aj j)]) (fun j w=>(j<=i0)/\St W0 (⟨g1,24,df⟩::U) (Ps) w) ?_ 0 _ ⟨avY _,HS⟩;skip;rintro j yI ⟨xN,HS⟩
 try dsimp only at *
 refine Js<|Lz (.bool true) (fun a ha=>dU (ha.ev rfl) (ha.ev rfl) (decide_eq_true af))<|Jn<|JC.seq<|JC.bK rfl<|Jk<|JC.seq<|JC.block<|Js<|Lm rfl<|La rfl<|Jn<|?_
 by_cases hc2:j=i0
 ·skip
  refine Js<|Lm rfl<|Lm rfl<|Lz (.int .u8 46) (fun a ha=>fE (ha.ev rfl) (ha.ev rfl) atE (congrArg (fun x:Nat=>(x:Int)) hc2) hat rfl)<|Jn<|JC.block<|Js<|Lz (.bool false) (fun a ha=>dh (ha.ev rfl) (ha.ev rfl) ai)<|La rfl<|Jn<|JC.bG rfl<|Js<|Lz (.bool true) (fun a ha=>dh (ha.ev rfl) (ha.ev rfl) ai)<|La rfl<|Jn<|JC.bK rfl<|JC.seq<|JC.draw HS [12] ah (fun w3 HS => ?_);refine Dm 0 rfl HS.b0 rfl<|Dm 1 rfl HS.b0 rfl<|Dv (.string ⟨a.toArray⟩) 2 rfl HS.b0 (fun a ha w=>NH (ha.ev rfl) (ha.ev rfl) atE (congrArg (fun x:Nat=>(x:Int)) hc2) af htk)<|Dm 3 rfl HS.b0 rfl<|Dm 4 rfl HS.b0 rfl<|Dv (.int .i64 ((i0+1:Nat):Int)) 5 rfl HS.b0 (fun a ha w=>iw (ha.ev rfl) (ha.ev rfl) (by rw [IntKind.wrap_i64];omega))<|Dv (.string ⟨r.toArray⟩) 6 rfl HS.b0 (fun a ha w=>zV (ha.ev rfl) (ha.ev rfl) atE rfl af hdr)<|Dm 7 rfl HS.b0 rfl<|Dv (.int .i64 (l.length:Int)) 8 rfl HS.b0 (fun a ha w=>dQ (ha.ev rfl) atE rfl)<|bV 9 rfl rfl rfl Tryz.call123 (hd HT HB HS)<|?_;rintro aq4 asG ⟨aiU,Zn,afV,abn,Zy,afu,abV,rfl,HS⟩;refine ⟨HS.b0,?_⟩;refine Dx 10 rfl HS.b0 rfl rfl<|Dx 11 rfl HS.b0 rfl rfl<|iZ 12 (avT aiU Zn afV abn Zy afu abV) HS 0 rfl rfl rfl rfl atz (fun _ HS=>⟨(gZ (s:=12) rfl rfl),?_⟩);refine Ds 13 rfl (gZ (s:=12) rfl rfl) rfl<|JR.next ah (fun _ _ h=>h)<|Jb Tryz.results75 (.agg rfl atD atz (HS.box _ ak) rfl rfl) (.tmp rfl)<|?_;exact ⟨_,_,_,_,_,_,_,rfl,HS.oh 1 1 0 rfl (fun _ h=>h.as rfl af)⟩
 ·skip
  refine JC.seq<|?_;obtain ⟨b,hb⟩ : ∃ b,l[j]? = some b:=⟨_,awf (show j<l.length from af)⟩;obtain ⟨xE,xC⟩:=hcl j b af hb;refine JC.region<|Lm rfl<|Lm rfl<|Lz (.int .u8 (b.toNat:Int)) (fun a ha=>fE (ha.ev rfl) (ha.ev rfl) atE rfl hb rfl)<|Jn<|JC.block<|Js<|Lz (.bool false) (fun a ha=>dh (ha.ev rfl) (ha.ev rfl) (GI xE))<|La rfl<|Jn<|JC.bG rfl<|Js<|Lz (.bool false) (fun a ha=>dh (ha.ev rfl) (ha.ev rfl) (GH xC))<|La rfl<|Jn<|JC.bG rfl<|JC.Ip (fun _ _ h=>h)<|JC.region<|Lz (.int .i64 ((j+1:Nat):Int)) (fun a ha=>iw (ha.ev rfl) (ha.ev rfl) (by rw [IntKind.wrap_i64];omega))<|Lm rfl<|?_;exact Jr (j+1) ⟨af,HS⟩
theorem ais(_HT:Tz W0)(_HB:Tab W0)(HS:St W0 U Ps w)(hl:65536<l.length):bC Tryz.prog 75 [.string ⟨l.toArray⟩] w (di W0 U Ps (.tuple #[dW,.int .i64 4])):=by
 refine cO avq rfl avr rfl<|Js<|JL.alloc (vs:=df) HS rfl atF rfl rfl (fun g1 w1 HS => ?_);refine La rfl<|Jn<|JC.seq<|Js<|Lm rfl<|Lz (.int .i64 (l.length:Int)) (fun a ha=>dQ (ha.ev rfl) atE rfl)<|Lz (.bool true) (fun a ha=>dH (ha.ev rfl) (ha.ev rfl) (decide_eq_true af))<|Jn<|JC.bK rfl<|Js<|Lz dW (fun a ha=>bF.run_build (ha.bW rfl) atL atF fO rfl)<|JL.store HS rfl rfl (i:=0) rfl atz rfl rfl rfl (vs':=df) rfl rfl (fun w2 HS => ?_);refine La rfl<|Jn<|Jb Tryz.results75 (.agg rfl atD atz (HS.box _ ak) rfl rfl) (.tmp rfl)<|?_;exact ⟨rfl,HS.o0 1 0⟩
end
end Go.Proofs.BGQ
