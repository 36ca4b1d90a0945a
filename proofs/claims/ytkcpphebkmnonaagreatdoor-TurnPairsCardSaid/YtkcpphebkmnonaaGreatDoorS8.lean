/- Part of a proof, said shortly. -/
import Derived.OpenShut
import Derived.Deep.Strs
import Derived.Test.YtkcpphebkmnonaaGreatDoorAlz
import Derived.Test.YtkcpphebkmnonaaGreatDoorC15
import Derived.Test.YtkcpphebkmnonaaGreatDoorC11
import Derived.Test.YtkcpphebkmnonaaGreatDoorC12
import Derived.Test.YtkcpphebkmnonaaGreatDoorC10
import Derived.Test.YtkcpphebkmnonaaGreatDoorS3
import Derived.Test.YtkcpphebkmnonaaGreatDoorC9
import Derived.Test.YtkcpphebkmnonaaGreatDoorC8
import Derived.Test.YtkcpphebkmnonaaGreatDoorC5
import Derived.Test.YtkcpphebkmnonaaGreatDoorC2
import Derived.Test.YtkcpphebkmnonaaGreatDoorC1
import Derived.Test.YtkcpphebkmnonaaGreatDoorC4
import Derived.Test.YtkcpphebkmnonaaGreatDoorC3
import Derived.Test.YtkcpphebkmnonaaGreatDoorC7
import Derived.Test.YtkcpphebkmnonaaGreatDoorC6
import Derived.Test.YtkcpphebkmnonaaGreatDoorC14
import Derived.Test.YtkcpphebkmnonaaGreatDoorC13
import Derived.Test.YtkcpphebkmnonaaGreatDoorC16
import Derived.Test.YtkcpphebkmnonaaGreatDoorC17
set_option maxRecDepth 100000
set_option maxHeartbeats 8000000
set_option linter.unusedVariables false
set_option linter.unusedSimpArgs false
namespace Lw
open Go Go.RowKit bG
section
variable (W0:World) (U:List Box) (Ps:List (World->Prop))
def QL(lo hi:Rat)(k:Nat)(u:Value)(w:World):Prop := ∃ (s:Bool) (A:Option Addr) (n c:Nat) (B:Option Addr) (m d:Nat) (s':Bool) (A':Option Addr) (n' c':Nat) (B':Option Addr) (m' d':Nat),u=(aur s A n c B m d s' A' n' c' B' m' d') /\
 St W0 U (FV (aup s A n c B m d) lo k true::FV (aup s' A' n' c' B' m' d') hi k true::Ps) w
def aa8(lo hi:Rat)(k:Nat)(er:Value)(u:Value)(w:World):Prop := ∃ (s:Bool) (A:Option Addr) (n c:Nat) (B:Option Addr) (m d:Nat) (s':Bool) (A':Option Addr) (n' c':Nat) (B':Option Addr) (m' d':Nat),u = .tuple #[(aur s A n c B m d s' A' n' c' B' m' d'),er] /\
 St W0 U (FV (aup s A n c B m d) lo k true::FV (aup s' A' n' c' B' m' d') hi k true::Ps) w
end
end Lw
namespace Lw
theorem Md{u:Bool}{q a b:Rat}(h:u=true->q=0):(hx u q*hx u q+hy u q*hy u q)*((a.den:Int)*(b.den:Int))≠0:=by
 rw [<- uf,auN,auN];exact fQ (uf.2 (Eo h)) (fQ (rP a) (rP b))
theorem afy{u:Bool}{q a b:Rat}(h:u=true->q=0) :
  Rat.divInt ((hx u q*hx u q-hy u q*hy u q)*(a.num*(b.den:Int))-(hx u q*hy u q+hy u q*hx u q)*(b.num*(a.den:Int))) ((hx u q*hx u q+hy u q*hy u q)*((a.den:Int)*(b.den:Int)))=fC u q*a-fZ u q*b:=by
 have c:=Rp.cos (Rp.half (a:=(u,q)) h);have s:=Rp.sin (Rp.half (a:=(u,q)) h);refine dv (uf.2 (Md h)) ?_;simp only [Rat.intCast_sub,au6,auN];rw [sD a,sD b];dsimp only [tS,tC] at c s;grind
theorem afz{u:Bool}{q a b:Rat}(h:u=true->q=0) :
  Rat.divInt ((hx u q*hx u q-hy u q*hy u q)*(b.num*(a.den:Int))+(hx u q*hy u q+hy u q*hx u q)*(a.num*(b.den:Int))) ((hx u q*hx u q+hy u q*hy u q)*((a.den:Int)*(b.den:Int)))=fZ u q*a+fC u q*b:=by
 have c:=Rp.cos (Rp.half (a:=(u,q)) h);have s:=Rp.sin (Rp.half (a:=(u,q)) h);refine dv (uf.2 (Md h)) ?_;simp only [Rat.intCast_sub,au6,auN];rw [sD a,sD b];dsimp only [tS,tC] at c s;grind
end Lw
namespace Go.Proofs.BGQ
open Go Go.RowKit Lw bG
section
variable {W0 w:World} {U:List Box} {Ps:List (World->Prop)}
set_option maxRecDepth 100000 in
set_option maxHeartbeats 400000 in
theorem alU(HT:Tz W0)(HB:Tab W0){iZ:Bool}{iP:Option Addr}{iY c1a:Nat}{mO:Int}{jb:Nat}{ja:Bool}{iQ:Option Addr}{n1b iR:Nat}{oN:Int}{jc:Nat}{s2:Bool}{A2:Option Addr}{n2 c2:Nat}{x2:Int}{k2:Nat}(HS:St W0 U Ps w)(f1a:FI (.agg #[.bool iZ,.slice iP iY c1a]) mO jb w)(mY:FI (.agg #[.bool ja,.slice iQ n1b iR]) oN jc w)(f2:FI (.agg #[.bool s2,.slice A2 n2 c2]) x2 k2 w)(hk:jb+jc+k2<=20000)(hy:x2≠0):bF Tryz.prog 80 [.agg #[.bool iZ,.slice iP iY c1a,.bool ja,.slice iQ n1b iR],.agg #[.bool s2,.slice A2 n2 c2]] w (QL W0 U Ps (Rat.divInt mO x2) (Rat.divInt oN x2) (max jb jc+k2+2)):=by
 have HS:=HS.add (FI.stable _ _ _) f1a;have HS:=HS.add (FI.stable _ _ _) mY;have HS:=HS.add (FI.stable _ _ _) f2;clear f1a mY f2;refine df Tryz.func80 rfl Tryz.ntmps80 rfl<|Js<|JL.box (vs:=[.bool iZ,.slice iP iY c1a,.bool ja,.slice iQ n1b iR]) HS rfl rfl rfl rfl (fun g21 di HS => ?_);refine JL.box (vs:=[.bool s2,.slice A2 n2 c2]) HS rfl rfl rfl rfl (fun g22 dw HS => ?_);refine JL.alloc (vs:=[.bool false,.slice none 0 0,.slice none 0 0,.bool false,.slice none 0 0,.slice none 0 0]) HS rfl atg rfl rfl (fun g23 dR HS => ?_);refine Jn<|Js<|dH 0 rfl as7 rfl asW<|JL.load (.agg #[.bool iZ,.slice iP iY c1a]) HS 2 rfl rfl rfl asZ asW rfl rfl<|JL.load (.agg #[.bool s2,.slice A2 n2 c2]) HS 1 rfl rfl rfl asZ asW rfl rfl<|JL.call rfl rfl atF (F5 HT HB HS (HS.at_ 2 rfl) (HS.at_ 0 rfl) af hy)<|?_;rintro v24 dY ⟨s24,oO,n24,c24,oP,m24,d24,rfl,HS⟩;refine Lm rfl<|Lx rfl rfl<|Lx rfl rfl<|JL.alloc (vs:=[.bool false,.slice none 0 0,.slice none 0 0]) HS rfl as1 rfl rfl (fun kM dV HS => ?_);refine JL.store HS rfl rfl (i:=0) rfl asR rfl rfl rfl (vs':=[.bool s24,.slice oO n24 c24,.slice oP m24 d24]) rfl rfl (fun fA HS => ?_);refine La rfl<|Jn<|Js<|dH 2 rfl as7 rfl asW<|JL.load (.agg #[.bool ja,.slice iQ n1b iR]) HS 3 rfl rfl rfl asZ asW rfl rfl<|JL.load (.agg #[.bool s2,.slice A2 n2 c2]) HS 2 rfl rfl rfl asZ asW rfl rfl<|JL.call rfl rfl atF (F5 HT HB HS (HS.at_ 2 rfl) (HS.at_ 1 rfl) af hy)<|?_;rintro v27 lH ⟨JF,Gq,n27,Hg,GK,m27,d27,rfl,HS⟩;refine Lm rfl<|Lx rfl rfl<|Lx rfl rfl<|JL.alloc (vs:=[.bool false,.slice none 0 0,.slice none 0 0]) HS rfl as1 rfl rfl (fun g28 kE HS => ?_);refine JL.store HS rfl rfl (i:=0) rfl asR rfl rfl rfl (vs':=[.bool JF,.slice Gq n27 Hg,.slice GK m27 d27]) rfl rfl (fun jk HS => ?_);refine La rfl<|Jn<|Js<|JL.load (.agg #[.bool s24,.slice oO n24 c24,.slice oP m24 d24]) HS 1 rfl rfl rfl asT asR rfl rfl<|JL.load (.agg #[.bool JF,.slice Gq n27 Hg,.slice GK m27 d27]) HS 0 rfl rfl rfl asT asR rfl rfl<|Lz (.agg #[.bool s24,.slice oO n24 c24,.slice oP m24 d24,.bool JF,.slice Gq n27 Hg,.slice GK m27 d27]) (fun a ha=>bG.run_build (ha.dm rfl) as2 atg Jc rfl)<|JL.store HS rfl rfl (i:=2) rfl as6 rfl rfl rfl (vs':=[.bool s24,.slice oO n24 c24,.slice oP m24 d24,.bool JF,.slice Gq n27 Hg,.slice GK m27 d27]) rfl rfl (fun lI HS => ?_)
 refine Jn<|Ja Tryz.results80 (.agg rfl atm as6 (HS.box _ ay) rfl rfl)<|?_;exact ⟨_,_,_,_,_,_,_,_,_,_,_,_,_,_,rfl,HS.Be 5 5 1 0 rfl rfl rfl (fun _ h=>h.as rfl af) rfl (fun _ h=>h.as rfl af)⟩
set_option maxRecDepth 100000 in
set_option maxHeartbeats 400000 in
theorem F8(HT:Tz W0)(HB:Tab W0){s1:Bool}{A1:Option Addr}{n1 c1:Nat}{B1:Option Addr}{m1 d1:Nat}{q1:Rat}{k1:Nat}{b1:Bool}{u1:Bool}{kz:Bool}{jO:Option Addr}{jV jR:Nat}{mQ:Option Addr}{ni mW:Nat}{uT:Rat}{nY:Nat}{Dh:Bool}{kC:Bool}{jP:Option Addr}{jW jS:Nat}{mV:Option Addr}{nC mX:Nat}{uU:Rat}{nZ:Nat}{Di:Bool}(HS:St W0 U Ps w)(f1:FV (.agg #[.bool s1,.slice A1 n1 c1,.slice B1 m1 d1]) q1 k1 b1 w)(pV:FV (.agg #[.bool kz,.slice jO jV jR,.slice mQ ni mW]) uT nY Dh w)(pW:FV (.agg #[.bool kC,.slice jP jW jS,.slice mV nC mX]) uU nZ Di w)(hk1:k1<=200)(hka:nY<=400)(hkb:nZ<=400)(hg1:bT b1 u1 q1):bF Tryz.prog 35 [.agg #[.bool s1,.slice A1 n1 c1,.slice B1 m1 d1,.bool u1],.agg #[.bool kz,.slice jO jV jR,.slice mQ ni mW,.bool kC,.slice jP jW jS,.slice mV nC mX]] w (aa8 W0 U Ps (fC u1 q1*uT-fZ u1 q1*uU) (fZ u1 q1*uT+fC u1 q1*uU) (4*k1+4*nY+4*nZ+30) (.nilIface)):=by
 have HS:=HS.add (FV.stable _ _ _ _) f1;have HS:=HS.add (FV.stable _ _ _ _) pV;have HS:=HS.add (FV.stable _ _ _ _) pW;clear f1 pV pW;obtain ⟨rfl,t1⟩:=hg1;have hg1:bT true u1 q1:=⟨rfl,t1⟩;refine df Tryz.func35 rfl Tryz.ntmps35 rfl<|Js<|JL.box (vs:=[.bool s1,.slice A1 n1 c1,.slice B1 m1 d1,.bool u1]) HS rfl rfl rfl rfl (fun g21 di HS => ?_);refine JL.box (vs:=[.bool kz,.slice jO jV jR,.slice mQ ni mW,.bool kC,.slice jP jW jS,.slice mV nC mX]) HS rfl rfl rfl rfl (fun g22 dw HS => ?_);refine JL.alloc (vs:=[.bool false,.slice none 0 0,.slice none 0 0,.bool false,.slice none 0 0,.slice none 0 0]) HS rfl atg rfl rfl (fun g23 dR HS => ?_);refine La rfl<|Jn<|JC.seq<|Js<|JL.load (.agg #[.bool s1,.slice A1 n1 c1,.slice B1 m1 d1,.bool u1]) HS 2 rfl rfl rfl asQ asO rfl rfl<|JL.buildSlice (vs:=[.bool s1,.slice A1 n1 c1,.slice B1 m1 d1,.bool u1]) HS rfl (fun a ha=>ha.dm rfl) asX asO asU rfl rfl ah rfl (fun g24 dY HS => ?_);refine JL.call rfl rfl atj (JW HT HB HS (HS.at_ 2 rfl) af hg1)<|?_;rintro v25 dV ⟨rfl,HS⟩;refine La rfl<|Jn<|Js<|Lm rfl<|Lz (.bool false) (fun a ha=>fG (ha.ev rfl) rfl asY)<|Jn<|JC.bJ rfl<|Jk<|Js<|JL.load (.agg #[.bool s1,.slice A1 n1 c1,.slice B1 m1 d1,.bool u1]) HS 3 rfl rfl rfl asQ asO rfl rfl<|JL.call rfl rfl Tryz.call50 (Pm HT HB HS (HS.at_ 2 rfl) af)<|?_;rintro v26 fA ⟨s26a,Qd,n26a,SE,s26b,Qe,n26b,SG,YZ,Qg,WW,SH,rfl,HS⟩;refine Lm rfl<|Lx rfl rfl<|Lx rfl rfl<|JL.alloc (vs:=[.bool false,.slice none 0 0,.bool false,.slice none 0 0]) HS rfl ati rfl rfl (fun D8 lH HS => ?_);refine JL.alloc (vs:=[.bool false,.slice none 0 0]) HS rfl ath rfl rfl (fun g28 kE HS => ?_);refine JL.store HS rfl rfl (i:=1) rfl as8 rfl rfl rfl (vs':=[.bool s26a,.slice Qd n26a SE,.bool s26b,.slice Qe n26b SG]) rfl rfl (fun jk HS => ?_);refine JL.store HS rfl rfl (i:=0) rfl asW rfl rfl rfl (vs':=[.bool YZ,.slice Qg WW SH]) rfl rfl (fun lI HS => ?_);refine Jn<|Js<|JL.load (.agg #[.bool kz,.slice jO jV jR,.slice mQ ni mW,.bool kC,.slice jP jW jS,.slice mV nC mX]) HS 4 rfl rfl rfl atm as6 rfl rfl<|JL.call rfl rfl Tryz.call66 (ZU HT HB HS (HS.at_ 4 rfl) (HS.at_ 3 rfl) af)<|?_
 rintro v31 oL ⟨Y8,Qo,Xc,SV,Y9,Qp,Xd,SX,Za,Qq,Xe,SY,rfl,HS⟩;refine Lm rfl<|Lx rfl rfl<|Lx rfl rfl<|JL.alloc (vs:=[.bool false,.slice none 0 0,.bool false,.slice none 0 0]) HS rfl ati rfl rfl (fun L8 w32 HS => ?_);refine JL.alloc (vs:=[.bool false,.slice none 0 0]) HS rfl ath rfl rfl (fun uk o8 HS => ?_);refine JL.store HS rfl rfl (i:=1) rfl as8 rfl rfl rfl (vs':=[.bool Y8,.slice Qo Xc SV,.bool Y9,.slice Qp Xd SX]) rfl rfl (fun vz HS => ?_);refine JL.store HS rfl rfl (i:=0) rfl asW rfl rfl rfl (vs':=[.bool Za,.slice Qq Xe SY]) rfl rfl (fun zK HS => ?_);refine Jn<|JC.seq<|JC.draw HS [7] ah (fun J6 HS => ?_);refine Da (.agg #[.bool s26a,.slice Qd n26a SE,.bool s26b,.slice Qe n26b SG]) 0 3 rfl HS.b0 rfl rfl ato as8<|Da (.agg #[.bool Y8,.slice Qo Xc SV,.bool Y9,.slice Qp Xd SX]) 1 1 rfl HS.b0 rfl rfl ato as8<|Da (.agg #[.bool YZ,.slice Qg WW SH]) 3 2 rfl HS.b0 rfl rfl asZ asW<|Da (.agg #[.bool Za,.slice Qq Xe SY]) 4 0 rfl HS.b0 rfl rfl asZ asW<|cZ 2 rfl rfl rfl Tryz.call79 (Po HT HB HS (HS.at_ 3 rfl) (HS.at_ 4 rfl) (HS.at_ 0 rfl) (HS.at_ 1 rfl) af)<|?_;rintro aqF arO ⟨apZ,amV,aph,anJ,ap0,amW,apj,anK,rfl,HS⟩;refine ⟨HS.b0,?_⟩;refine cZ 5 rfl rfl rfl atp (qo HT HB HS (HS.at_ 7 rfl) (HS.at_ 4 rfl) af)<|?_;rintro aqG arP ⟨ap1,amX,apk,anL,rfl,HS⟩;refine ⟨HS.b0,?_⟩;refine cZ 6 rfl rfl rfl Tryz.call80 (alU HT HB HS (HS.at_ 1 rfl) (HS.at_ 2 rfl) (HS.at_ 0 rfl) af (Md t1))<|?_;rintro aqH arQ ⟨akI,aa5,ahI,adT,abl,ahh,aer,akJ,aa6,ahJ,adU,abm,ahi,aes,rfl,HS⟩;refine ⟨HS.b0,?_⟩;refine lK 7 [.bool akI,.slice aa5 ahI adT,.slice abl ahh aer,.bool akJ,.slice aa6 ahJ adU,.slice abm ahi aes] HS 5 rfl rfl rfl rfl as6 (fun _ HS=>⟨(jU (s:=7) rfl rfl),?_⟩);refine Ds 8 rfl (jU (s:=7) rfl rfl) rfl<|JR.next ah (fun _ _ h=>h)<|Jb Tryz.results35 (.agg rfl atm as6 (HS.box _ aB) rfl rfl) (.tmp rfl)<|?_;exact ⟨_,_,_,_,_,_,_,_,_,_,_,_,_,_,rfl,HS.Be 8 14 0 1 rfl rfl rfl (fun _ h=>h.as (afy t1) af) rfl (fun _ h=>h.as (afz t1) af)⟩
end
section
variable {W0 w:World} {U:List Box} {Ps:List (World->Prop)}
set_option maxRecDepth 100000 in
set_option maxHeartbeats 400000 in
theorem ZY(_HT:Tz W0)(_HB:Tab W0){g:Nat}{s1:Bool}{A1:Option Addr}{n1 c1:Nat}{B1:Option Addr}{m1 d1:Nat}{s2:Bool}{A2:Option Addr}{n2 c2:Nat}{B2:Option Addr}{m2 d2:Nat}{s3:Bool}{A3:Option Addr}{n3 c3:Nat}{B3:Option Addr}{m3 d3:Nat}{s4:Bool}{A4:Option Addr}{n4 c4:Nat}{B4:Option Addr}{m4 d4:Nat}(HS:St W0 (⟨g,24,[.bool s1,.slice A1 n1 c1,.slice B1 m1 d1,.bool s2,.slice A2 n2 c2,.slice B2 m2 d2,.bool s3,.slice A3 n3 c3,.slice B3 m3 d3,.bool s4,.slice A4 n4 c4,.slice B4 m4 d4]⟩::U) Ps w)   : bF Tryz.prog 12 [.slice (some ⟨g,0,none⟩) 4 4] w (dI W0 (⟨g,24,[.bool s1,.slice A1 n1 c1,.slice B1 m1 d1,.bool s2,.slice A2 n2 c2,.slice B2 m2 d2,.bool s3,.slice A3 n3 c3,.slice B3 m3 d3,.bool s4,.slice A4 n4 c4,.slice B4 m4 d4]⟩::U) Ps (.bool (decide (n1<=6/\m1<=6/\n2<=6/\m2<=6/\n3<=6/\m3<=6/\n4<=6/\m4<=6)))):=by
 refine df Tryz.func12 rfl Tryz.ntmps12 rfl<|Js<|La rfl<|Jn<|JC.seq<|Js<|Lm rfl<|Ll rfl atl<|Lm rfl<|Jn<|JC.block<|JC.lU 40<|Js<|Lz (.bool true) (fun a ha=>dG (ha.ev rfl) (ha.ev rfl) ai)<|Jn<|JC.seq<|JC.bH rfl<|Jk<|JC.seq<|JC.block<|Js<|Lz (.pointer (some ⟨g,0,none⟩)) (fun a ha=>eY (ha.ev rfl) (ha.ev rfl) atl asR (j:=0) rfl ai rfl)<|JL.load (.agg #[.bool s1,.slice A1 n1 c1,.slice B1 m1 d1]) HS 0 rfl rfl rfl asT asR rfl rfl<|JL.alloc (vs:=[.bool false,.slice none 0 0,.slice none 0 0]) HS rfl as1 rfl rfl (fun g21 di HS => ?_);refine JL.store HS rfl rfl (i:=0) rfl asR rfl rfl rfl (vs':=[.bool s1,.slice A1 n1 c1,.slice B1 m1 d1]) rfl rfl (fun dw HS => ?_);refine Jn<|Js<|dH 1 rfl as9 rfl ata<|JL.iH (.slice A1 n1 c1) HS 0 rfl rfl rfl atb rfl<|Ll rfl atc<|Lz (.bool (decide ((n1:Int) > 6))) (fun a ha=>kS (ha.ev rfl) (ha.ev rfl) rfl)<|?_
 cases AA:(decide ((n1:Int) > 6))
 ·skip
  have MP:=of_decide_eq_false AA;refine Lm rfl<|bz (.pointer (some ⟨g21,2,none⟩)) (fun a ha=>dF (ha.ev rfl) as9 rfl ata rfl rfl)<|bz (.slice B1 m1 d1) (fun a ha=>ji (ha.ev rfl) atb (HS.box _ ak) rfl)<|bz (aj m1) (fun a ha=>o6 (ha.ev rfl) atc)<|bz (.bool (decide ((m1:Int) > 6))) (fun a ha=>kS (ha.ev rfl) (ha.ev rfl) rfl)<|Lf rfl rfl<|Jn<|?_
  cases yL:(decide ((m1:Int) > 6))
  ·skip
   have hd24:=of_decide_eq_false yL;refine JC.bJ rfl<|JC.dX (fun _ _ h=>h)<|JC.region<|Lz (.int .i64 1) (fun a ha=>fF (ha.ev rfl) (ha.ev rfl) ai)<|Lm rfl<|JL.again 39 (fun _ _ h=>h)<|Js<|Lz (.bool true) (fun a ha=>dG (ha.ev rfl) (ha.ev rfl) ai)<|Jn<|JC.seq<|JC.bH rfl<|Jk<|JC.seq<|JC.block<|Js<|Lz (.pointer (some ⟨g,3,none⟩)) (fun a ha=>eY (ha.ev rfl) (ha.ev rfl) atl asR (j:=1) rfl ai rfl)<|JL.load (.agg #[.bool s2,.slice A2 n2 c2,.slice B2 m2 d2]) HS 1 rfl rfl rfl asT asR rfl rfl<|JL.alloc (vs:=[.bool false,.slice none 0 0,.slice none 0 0]) HS rfl as1 rfl rfl (fun kM dV HS => ?_);refine JL.store HS rfl rfl (i:=0) rfl asR rfl rfl rfl (vs':=[.bool s2,.slice A2 n2 c2,.slice B2 m2 d2]) rfl rfl (fun fA HS => ?_);refine Jn<|Js<|dH 1 rfl as9 rfl ata<|JL.iH (.slice A2 n2 c2) HS 0 rfl rfl rfl atb rfl<|Ll rfl atc<|Lz (.bool (decide ((n2:Int) > 6))) (fun a ha=>kS (ha.ev rfl) (ha.ev rfl) rfl)<|?_
   cases nX:(decide ((n2:Int) > 6))
   ·skip
    have hd27:=of_decide_eq_false nX;refine Lm rfl<|bz (.pointer (some ⟨kM,2,none⟩)) (fun a ha=>dF (ha.ev rfl) as9 rfl ata rfl rfl)<|bz (.slice B2 m2 d2) (fun a ha=>ji (ha.ev rfl) atb (HS.box _ ak) rfl)<|bz (aj m2) (fun a ha=>o6 (ha.ev rfl) atc)<|bz (.bool (decide ((m2:Int) > 6))) (fun a ha=>kS (ha.ev rfl) (ha.ev rfl) rfl)<|Lf rfl rfl<|Jn<|?_
    cases yM:(decide ((m2:Int) > 6))
    ·skip
     have hd28:=of_decide_eq_false yM;refine JC.bJ rfl<|JC.dX (fun _ _ h=>h)<|JC.region<|Lz (.int .i64 2) (fun a ha=>fF (ha.ev rfl) (ha.ev rfl) ai)<|Lm rfl<|JL.again 38 (fun _ _ h=>h)<|Js<|Lz (.bool true) (fun a ha=>dG (ha.ev rfl) (ha.ev rfl) ai)<|Jn<|JC.seq<|JC.bH rfl<|Jk<|JC.seq<|JC.block<|Js<|Lz (.pointer (some ⟨g,6,none⟩)) (fun a ha=>eY (ha.ev rfl) (ha.ev rfl) atl asR (j:=2) rfl ai rfl)<|JL.load (.agg #[.bool s3,.slice A3 n3 c3,.slice B3 m3 d3]) HS 2 rfl rfl rfl asT asR rfl rfl<|JL.alloc (vs:=[.bool false,.slice none 0 0,.slice none 0 0]) HS rfl as1 rfl rfl (fun wL jk HS => ?_);refine JL.store HS rfl rfl (i:=0) rfl asR rfl rfl rfl (vs':=[.bool s3,.slice A3 n3 c3,.slice B3 m3 d3]) rfl rfl (fun lI HS => ?_);refine Jn<|Js<|dH 1 rfl as9 rfl ata<|JL.iH (.slice A3 n3 c3) HS 0 rfl rfl rfl atb rfl<|Ll rfl atc<|Lz (.bool (decide ((n3:Int) > 6))) (fun a ha=>kS (ha.ev rfl) (ha.ev rfl) rfl)<|?_
     cases wS:(decide ((n3:Int) > 6))
     ·skip
      have hd31:=of_decide_eq_false wS;refine Lm rfl<|bz (.pointer (some ⟨wL,2,none⟩)) (fun a ha=>dF (ha.ev rfl) as9 rfl ata rfl rfl)<|bz (.slice B3 m3 d3) (fun a ha=>ji (ha.ev rfl) atb (HS.box _ ak) rfl)<|bz (aj m3) (fun a ha=>o6 (ha.ev rfl) atc)<|bz (.bool (decide ((m3:Int) > 6))) (fun a ha=>kS (ha.ev rfl) (ha.ev rfl) rfl)<|Lf rfl rfl<|Jn<|?_
      cases Ez:(decide ((m3:Int) > 6))
      ·skip
       have hd32:=of_decide_eq_false Ez;refine JC.bJ rfl<|JC.dX (fun _ _ h=>h)<|JC.region<|Lz (.int .i64 3) (fun a ha=>fF (ha.ev rfl) (ha.ev rfl) ai)<|Lm rfl<|JL.again 37 (fun _ _ h=>h)<|Js<|Lz (.bool true) (fun a ha=>dG (ha.ev rfl) (ha.ev rfl) ai)<|Jn<|JC.seq<|JC.bH rfl<|Jk<|JC.seq<|JC.block<|Js<|Lz (.pointer (some ⟨g,9,none⟩)) (fun a ha=>eY (ha.ev rfl) (ha.ev rfl) atl asR (j:=3) rfl ai rfl)<|JL.load (.agg #[.bool s4,.slice A4 n4 c4,.slice B4 m4 d4]) HS 3 rfl rfl rfl asT asR rfl rfl<|JL.alloc (vs:=[.bool false,.slice none 0 0,.slice none 0 0]) HS rfl as1 rfl rfl (fun uk o8 HS => ?_);refine JL.store HS rfl rfl (i:=0) rfl asR rfl rfl rfl (vs':=[.bool s4,.slice A4 n4 c4,.slice B4 m4 d4]) rfl rfl (fun vz HS => ?_);refine Jn<|Js<|dH 1 rfl as9 rfl ata<|JL.iH (.slice A4 n4 c4) HS 0 rfl rfl rfl atb rfl<|Ll rfl atc<|Lz (.bool (decide ((n4:Int) > 6))) (fun a ha=>kS (ha.ev rfl) (ha.ev rfl) rfl)<|?_
       cases VB:(decide ((n4:Int) > 6))
       ·skip
        have agj:=of_decide_eq_false VB;refine Lm rfl<|bz (.pointer (some ⟨uk,2,none⟩)) (fun a ha=>dF (ha.ev rfl) as9 rfl ata rfl rfl)<|bz (.slice B4 m4 d4) (fun a ha=>ji (ha.ev rfl) atb (HS.box _ ak) rfl)<|bz (aj m4) (fun a ha=>o6 (ha.ev rfl) atc)<|bz (.bool (decide ((m4:Int) > 6))) (fun a ha=>kS (ha.ev rfl) (ha.ev rfl) rfl)<|Lf rfl rfl<|Jn<|?_
        cases VC:(decide ((m4:Int) > 6))
        ·skip
         have agk:=of_decide_eq_false VC;refine JC.bJ rfl<|JC.dX (fun _ _ h=>h)<|JC.region<|Lz (.int .i64 4) (fun a ha=>fF (ha.ev rfl) (ha.ev rfl) ai)<|Lm rfl<|JL.again 36 (fun _ _ h=>h)<|Js<|Lz (.bool false) (fun a ha=>dG (ha.ev rfl) (ha.ev rfl) ai)<|Jn<|JC.seq<|JC.bJ rfl<|JC.exit (fun _ _ h=>h) (fun _ _ h=>h)<|Js<|La rfl<|Jn<|Ja Tryz.results12 (.tmp rfl)<|?_;exact ⟨(congrArg Value.bool (decide_eq_true af).symm),HS.o0 4 0⟩
        ·skip
         have agk:=of_decide_eq_true VC;refine JC.bH rfl<|Js<|La rfl<|Jn<|Ja Tryz.results12 (.tmp rfl)<|?_;exact ⟨(congrArg Value.bool (decide_eq_false af).symm),HS.o0 4 0⟩
       ·skip
        have agj:=of_decide_eq_true VB;refine Lm rfl<|Lq<|Lq<|Lq<|Lq<|Lt rfl rfl<|Jn<|JC.bH rfl<|Js<|La rfl<|Jn<|Ja Tryz.results12 (.tmp rfl)<|?_;exact ⟨(congrArg Value.bool (decide_eq_false af).symm),HS.o0 4 0⟩
      ·skip
       have hd32:=of_decide_eq_true Ez;refine JC.bH rfl<|Js<|La rfl<|Jn<|Ja Tryz.results12 (.tmp rfl)<|?_;exact ⟨(congrArg Value.bool (decide_eq_false af).symm),HS.o0 3 0⟩
     ·skip
      have hd31:=of_decide_eq_true wS;refine Lm rfl<|Lq<|Lq<|Lq<|Lq<|Lt rfl rfl<|Jn<|JC.bH rfl<|Js<|La rfl<|Jn<|Ja Tryz.results12 (.tmp rfl)<|?_;exact ⟨(congrArg Value.bool (decide_eq_false af).symm),HS.o0 3 0⟩
    ·skip
     have hd28:=of_decide_eq_true yM;refine JC.bH rfl<|Js<|La rfl<|Jn<|Ja Tryz.results12 (.tmp rfl)<|?_;exact ⟨(congrArg Value.bool (decide_eq_false af).symm),HS.o0 2 0⟩
   ·skip
    have hd27:=of_decide_eq_true nX;refine Lm rfl<|Lq<|Lq<|Lq<|Lq<|Lt rfl rfl<|Jn<|JC.bH rfl<|Js<|La rfl<|Jn<|Ja Tryz.results12 (.tmp rfl)<|?_;exact ⟨(congrArg Value.bool (decide_eq_false af).symm),HS.o0 2 0⟩
  ·skip
   have hd24:=of_decide_eq_true yL;refine JC.bH rfl<|Js<|La rfl<|Jn<|Ja Tryz.results12 (.tmp rfl)<|?_;exact ⟨(congrArg Value.bool (decide_eq_false af).symm),HS.o0 1 0⟩
 ·skip
  have MP:=of_decide_eq_true AA;refine Lm rfl<|Lq<|Lq<|Lq<|Lq<|Lt rfl rfl<|Jn<|JC.bH rfl<|Js<|La rfl<|Jn<|Ja Tryz.results12 (.tmp rfl)<|?_;exact ⟨(congrArg Value.bool (decide_eq_false af).symm),HS.o0 1 0⟩
end
open Go.ChangeShapes Go.WideShapes Go.ChangeAt Go.Joins
theorem adn{α:Type}{cs:Array α}(h:cs.size=6) : ∃ a b c d e f,cs = #[a,b,c,d,e,f]:=by
 obtain ⟨l⟩:=cs
 match l,h with
 | [a,b,c,d,e,f],_=>exact ⟨a,b,c,d,e,f,rfl⟩
theorem adW:Tryz.prog.cellsOf 50=6:=ah
set_option maxRecDepth 100000 in
theorem Xz{H:Type}{enc:TypeId×Value->H}{W:World}{base:Nat}{v:Value}{d:DataW H}{p:List MemPlace}(hv:Value.okWide Tryz.prog W .any base 50 v)(h:DataW.Trod enc Tryz.prog W 0 (fun _=>true) true 50 v d p) :
  ∃ s A n c B m e k q b s' A' n' c' B' m' e' k' q' b',v = .agg #[.bool s,.slice A n c,.slice B m e,.bool s',.slice A' n' c',.slice B' m' e']/\bV W ⟨.agg #[.bool s,.slice A n c,.slice B m e],q,k,b⟩/\bV W ⟨.agg #[.bool s',.slice A' n' c',.slice B' m' e'],q',k',b'⟩:=by
 obtain ⟨cs,rfl,hsz⟩:=okWide_struct Tryz.underlying50 hv;obtain ⟨c0,c1,c2,c3,c4,c5,rfl⟩:=adn (hsz.trans adW);obtain ⟨fuel,hf⟩:=h;obtain ⟨y0,y1,n,_,_,h0,h1⟩:=trod_struct2 Tryz.underlying50 hf;rw [TK] at h0 h1;obtain ⟨s,A,n1,c,B,m,e,k,q,b,rfl,rfl,rfl,f1⟩:=Ot (show DataW.trod enc Tryz.prog W 0 (fun _=>true) true n 24 [c0,c1,c2]=some y0 from h0);obtain ⟨s',A',n1',c',B',m',e',k',q',b',rfl,rfl,rfl,f2⟩:=Ot (show DataW.trod enc Tryz.prog W 0 (fun _=>true) true n 24 [c3,c4,c5]=some y1 from h1);exact ⟨s,A,n1,c,B,m,e,k,q,b,s',A',n1',c',B',m',e',k',q',b',rfl,f1,f2⟩
end Go.Proofs.BGQ
