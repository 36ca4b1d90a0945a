/- Part of a proof, said shortly. -/
import Derived.Test.YtkcpphebkmnonaaGreatDoorAlz
import Derived.Test.YtkcpphebkmnonaaGreatDoorC16
import Derived.Test.YtkcpphebkmnonaaGreatDoorS1
import Derived.Test.YtkcpphebkmnonaaGreatDoorS2
import Derived.Test.YtkcpphebkmnonaaGreatDoorC15
import Derived.Test.YtkcpphebkmnonaaGreatDoorC11
import Derived.Test.YtkcpphebkmnonaaGreatDoorC12
import Derived.Test.YtkcpphebkmnonaaGreatDoorC10
import Derived.Test.YtkcpphebkmnonaaGreatDoorC9
import Derived.Test.YtkcpphebkmnonaaGreatDoorC8
import Derived.Test.YtkcpphebkmnonaaGreatDoorC5
import Derived.Test.YtkcpphebkmnonaaGreatDoorC2
import Derived.Test.YtkcpphebkmnonaaGreatDoorC1
import Derived.Test.YtkcpphebkmnonaaGreatDoorC4
import Derived.Test.YtkcpphebkmnonaaGreatDoorC3
import Derived.Test.YtkcpphebkmnonaaGreatDoorC7
import Derived.Test.YtkcpphebkmnonaaGreatDoorC6
import Derived.Test.YtkcpphebkmnonaaGreatDoorC14
import Derived.Test.YtkcpphebkmnonaaGreatDoorC13
import Derived.Test.YtkcpphebkmnonaaGreatDoorC17
namespace Lw
theorem OY{a b:Tn}(ha:tok a)(hb:tok b):tA a b=tA b a:=(Rp.add (Rp.self ha) (Rp.self hb)).uniq (Rp.add (Rp.self hb) (Rp.self ha)) (by grind)
theorem OX{a b c:Tn}(ha:tok a)(hb:tok b)(hc:tok c):tA (tA a b) c=tA a (tA b c) :=
 (Rp.add (Rp.add (Rp.self ha) (Rp.self hb)) (Rp.self hc)).uniq (Rp.add (Rp.self ha) (Rp.add (Rp.self hb) (Rp.self hc))) (by grind)
theorem BK{a:Tn}(ha:tok a):tA a (tN a)=(false,0):=(Rp.add (Rp.self ha) (Rp.neg (Rp.self ha))).uniq Rp.one (by grind)
end Lw
namespace Go.Proofs.BGQ
open Go Go.RowKit Lw bG
section
variable {W0 w:World} {U:List Box} {Ps:List (World->Prop)}
set_option maxRecDepth 100000 in
set_option maxHeartbeats 400000 in
theorem ZX(_HT:Tz W0)(_HB:Tab W0){g:Nat}{s1:Bool}{A1:Option Addr}{n1 c1:Nat}{B1:Option Addr}{m1 d1:Nat}{s2:Bool}{A2:Option Addr}{n2 c2:Nat}{B2:Option Addr}{m2 d2:Nat}{s3:Bool}{A3:Option Addr}{n3 c3:Nat}{B3:Option Addr}{m3 d3:Nat}(HS:St W0 (⟨g,24,[.bool s1,.slice A1 n1 c1,.slice B1 m1 d1,.bool s2,.slice A2 n2 c2,.slice B2 m2 d2,.bool s3,.slice A3 n3 c3,.slice B3 m3 d3]⟩::U) Ps w)   : bF Tryz.prog 12 [.slice (some ⟨g,0,none⟩) 3 3] w (dI W0 (⟨g,24,[.bool s1,.slice A1 n1 c1,.slice B1 m1 d1,.bool s2,.slice A2 n2 c2,.slice B2 m2 d2,.bool s3,.slice A3 n3 c3,.slice B3 m3 d3]⟩::U) Ps (.bool (decide (n1<=6/\m1<=6/\n2<=6/\m2<=6/\n3<=6/\m3<=6)))):=by
 refine df Tryz.func12 rfl Tryz.ntmps12 rfl<|Js<|La rfl<|Jn<|JC.seq<|Js<|Lm rfl<|Ll rfl atl<|Lm rfl<|Jn<|JC.block<|JC.lU 40<|Js<|Lz (.bool true) (fun a ha=>dG (ha.ev rfl) (ha.ev rfl) ai)<|Jn<|JC.seq<|JC.bH rfl<|Jk<|JC.seq<|JC.block<|Js<|Lz (.pointer (some ⟨g,0,none⟩)) (fun a ha=>eY (ha.ev rfl) (ha.ev rfl) atl asR (j:=0) rfl ai rfl)<|JL.load (.agg #[.bool s1,.slice A1 n1 c1,.slice B1 m1 d1]) HS 0 rfl rfl rfl asT asR rfl rfl<|JL.alloc (vs:=[.bool false,.slice none 0 0,.slice none 0 0]) HS rfl as1 rfl rfl (fun g21 di HS => ?_);refine JL.store HS rfl rfl (i:=0) rfl asR rfl rfl rfl (vs':=[.bool s1,.slice A1 n1 c1,.slice B1 m1 d1]) rfl rfl (fun dw HS => ?_);refine Jn<|Js<|dH 1 rfl as9 rfl ata<|JL.iH (.slice A1 n1 c1) HS 0 rfl rfl rfl atb rfl<|Ll rfl atc<|Lz (.bool (decide ((n1:Int) > 6))) (fun a ha=>kS (ha.ev rfl) (ha.ev rfl) rfl)<|?_
 cases AA:(decide ((n1:Int) > 6))
 ·skip
  have MP:=of_decide_eq_false AA;refine Lm rfl<|bz (.pointer (some ⟨g21,2,none⟩)) (fun a ha=>dF (ha.ev rfl) as9 rfl ata rfl rfl)<|bz (.slice B1 m1 d1) (fun a ha=>ji (ha.ev rfl) atb (HS.box _ ak) rfl)<|bz (aj m1) (fun a ha=>o6 (ha.ev rfl) atc)<|bz (.bool (decide ((m1:Int) > 6))) (fun a ha=>kS (ha.ev rfl) (ha.ev rfl) rfl)<|Lf rfl rfl<|Jn<|?_
  cases yL:(decide ((m1:Int) > 6))
  ·skip
   have hd24:=of_decide_eq_false yL;refine JC.bJ rfl<|JC.dX (fun _ _ h=>h)<|JC.region<|Lz (.int .i64 1) (fun a ha=>fF (ha.ev rfl) (ha.ev rfl) ai)<|Lm rfl<|JL.again 39 (fun _ _ h=>h)<|Js<|Lz (.bool true) (fun a ha=>dG (ha.ev rfl) (ha.ev rfl) ai)<|Jn<|JC.seq<|JC.bH rfl<|Jk<|JC.seq<|JC.block<|Js<|Lz (.pointer (some ⟨g,3,none⟩)) (fun a ha=>eY (ha.ev rfl) (ha.ev rfl) atl asR (j:=1) rfl ai rfl)<|JL.load (.agg #[.bool s2,.slice A2 n2 c2,.slice B2 m2 d2]) HS 1 rfl rfl rfl asT asR rfl rfl<|JL.alloc (vs:=[.bool false,.slice none 0 0,.slice none 0 0]) HS rfl as1 rfl rfl (fun kM dV HS => ?_);refine JL.store HS rfl rfl (i:=0) rfl asR rfl rfl rfl (vs':=[.bool s2,.slice A2 n2 c2,.slice B2 m2 d2]) rfl rfl (fun fA HS => ?_);refine Jn<|Js<|dH 1 rfl as9 rfl ata<|JL.iH (.slice A2 n2 c2) HS 0 rfl rfl rfl atb rfl<|Ll rfl atc<|Lz (.bool (decide ((n2:Int) > 6))) (fun a ha=>kS (ha.ev rfl) (ha.ev rfl) rfl)<|?_
   cases nX:(decide ((n2:Int) > 6))
   ·skip
    have hd27:=of_decide_eq_false nX;refine Lm rfl<|bz (.pointer (some ⟨kM,2,none⟩)) (fun a ha=>dF (ha.ev rfl) as9 rfl ata rfl rfl)<|bz (.slice B2 m2 d2) (fun a ha=>ji (ha.ev rfl) atb (HS.box _ ak) rfl)<|bz (aj m2) (fun a ha=>o6 (ha.ev rfl) atc)<|bz (.bool (decide ((m2:Int) > 6))) (fun a ha=>kS (ha.ev rfl) (ha.ev rfl) rfl)<|Lf rfl rfl<|Jn<|?_
    cases yM:(decide ((m2:Int) > 6))
    ·skip
     have hd28:=of_decide_eq_false yM;refine JC.bJ rfl<|JC.dX (fun _ _ h=>h)<|JC.region<|Lz (.int .i64 2) (fun a ha=>fF (ha.ev rfl) (ha.ev rfl) ai)<|Lm rfl<|JL.again 38 (fun _ _ h=>h)<|Js<|Lz (.bool true) (fun a ha=>dG (ha.ev rfl) (ha.ev rfl) ai)<|Jn<|JC.seq<|JC.bH rfl<|Jk<|JC.seq<|JC.block<|Js<|Lz (.pointer (some ⟨g,6,none⟩)) (fun a ha=>eY (ha.ev rfl) (ha.ev rfl) atl asR (j:=2) rfl ai rfl)<|JL.load (.agg #[.bool s3,.slice A3 n3 c3,.slice B3 m3 d3]) HS 2 rfl rfl rfl asT asR rfl rfl<|JL.alloc (vs:=[.bool false,.slice none 0 0,.slice none 0 0]) HS rfl as1 rfl rfl (fun wL jk HS => ?_);refine JL.store HS rfl rfl (i:=0) rfl asR rfl rfl rfl (vs':=[.bool s3,.slice A3 n3 c3,.slice B3 m3 d3]) rfl rfl (fun lI HS => ?_);refine Jn<|Js<|dH 1 rfl as9 rfl ata<|JL.iH (.slice A3 n3 c3) HS 0 rfl rfl rfl atb rfl<|Ll rfl atc<|Lz (.bool (decide ((n3:Int) > 6))) (fun a ha=>kS (ha.ev rfl) (ha.ev rfl) rfl)<|?_
     cases wS:(decide ((n3:Int) > 6))
     ·skip
      have hd31:=of_decide_eq_false wS;refine Lm rfl<|bz (.pointer (some ⟨wL,2,none⟩)) (fun a ha=>dF (ha.ev rfl) as9 rfl ata rfl rfl)<|bz (.slice B3 m3 d3) (fun a ha=>ji (ha.ev rfl) atb (HS.box _ ak) rfl)<|bz (aj m3) (fun a ha=>o6 (ha.ev rfl) atc)<|bz (.bool (decide ((m3:Int) > 6))) (fun a ha=>kS (ha.ev rfl) (ha.ev rfl) rfl)<|Lf rfl rfl<|Jn<|?_
      cases Ez:(decide ((m3:Int) > 6))
      ·skip
       have hd32:=of_decide_eq_false Ez;refine JC.bJ rfl<|JC.dX (fun _ _ h=>h)<|JC.region<|Lz (.int .i64 3) (fun a ha=>fF (ha.ev rfl) (ha.ev rfl) ai)<|Lm rfl<|JL.again 37 (fun _ _ h=>h)<|Js<|Lz (.bool false) (fun a ha=>dG (ha.ev rfl) (ha.ev rfl) ai)<|Jn<|JC.seq<|JC.bJ rfl<|JC.exit (fun _ _ h=>h) (fun _ _ h=>h)<|Js<|La rfl<|Jn<|Ja Tryz.results12 (.tmp rfl)<|?_;exact ⟨(congrArg Value.bool (decide_eq_true af).symm),HS.o0 3 0⟩
      ·skip
       have hd32:=of_decide_eq_true Ez;refine JC.bH rfl<|Js<|La rfl<|Jn<|Ja Tryz.results12 (.tmp rfl)<|?_;exact ⟨(congrArg Value.bool (decide_eq_false af).symm),HS.o0 3 0⟩
     ·skip
      have hd31:=of_decide_eq_true wS;refine Lm rfl<|Lq<|Lq<|Lq<|Lq<|Lt rfl rfl<|Jn<|JC.bH rfl<|Js<|La rfl<|Jn<|Ja Tryz.results12 (.tmp rfl)<|?_;exact ⟨(congrArg Value.bool (decide_eq_false af).symm),HS.o0 3 0⟩
    ·skip
     have hd28:=of_decide_eq_true yM;refine JC.bH rfl<|Js<|La rfl<|Jn<|Ja Tryz.results12 (.tmp rfl)<|?_;exact ⟨(congrArg Value.bool (decide_eq_false af).symm),HS.o0 2 0⟩
   ·skip
    have hd27:=of_decide_eq_true nX;refine Lm rfl<|Lq<|Lq<|Lq<|Lq<|Lt rfl rfl<|Jn<|JC.bH rfl<|Js<|La rfl<|Jn<|Ja Tryz.results12 (.tmp rfl)<|?_;exact ⟨(congrArg Value.bool (decide_eq_false af).symm),HS.o0 2 0⟩
  ·skip
   have hd24:=of_decide_eq_true yL;refine JC.bH rfl<|Js<|La rfl<|Jn<|Ja Tryz.results12 (.tmp rfl)<|?_;exact ⟨(congrArg Value.bool (decide_eq_false af).symm),HS.o0 1 0⟩
 ·skip
  have MP:=of_decide_eq_true AA;refine Lm rfl<|Lq<|Lq<|Lq<|Lq<|Lt rfl rfl<|Jn<|JC.bH rfl<|Js<|La rfl<|Jn<|Ja Tryz.results12 (.tmp rfl)<|?_;exact ⟨(congrArg Value.bool (decide_eq_false af).symm),HS.o0 1 0⟩
end
end Go.Proofs.BGQ
