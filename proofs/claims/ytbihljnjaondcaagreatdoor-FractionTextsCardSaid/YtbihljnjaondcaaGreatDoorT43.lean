/- Part of a proof, said shortly. -/
import Derived.Test.YtbihljnjaondcaaGreatDoorAlt
import Derived.Test.YtbihljnjaondcaaGreatDoorT41
import Derived.Test.YtbihljnjaondcaaGreatDoorT40
import Derived.Test.YtbihljnjaondcaaGreatDoorT31
import Derived.Test.YtbihljnjaondcaaGreatDoorT34
import Derived.Test.YtbihljnjaondcaaGreatDoorT29
import Derived.Test.YtbihljnjaondcaaGreatDoorT28
import Derived.Test.YtbihljnjaondcaaGreatDoorT26
import Derived.Test.YtbihljnjaondcaaGreatDoorT25
import Derived.Test.YtbihljnjaondcaaGreatDoorT24
import Derived.Test.YtbihljnjaondcaaGreatDoorT23
import Derived.Test.YtbihljnjaondcaaGreatDoorT22
import Derived.Test.YtbihljnjaondcaaGreatDoorT21
import Derived.Test.YtbihljnjaondcaaGreatDoorT20
import Derived.Test.YtbihljnjaondcaaGreatDoorT14
import Derived.Test.YtbihljnjaondcaaGreatDoorT4
import Derived.Test.YtbihljnjaondcaaGreatDoorT3
import Derived.Test.YtbihljnjaondcaaGreatDoorT2
import Derived.Test.YtbihljnjaondcaaGreatDoorT1
import Derived.Test.YtbihljnjaondcaaGreatDoorT13
import Derived.Test.YtbihljnjaondcaaGreatDoorT9
import Derived.Test.YtbihljnjaondcaaGreatDoorT8
import Derived.Test.YtbihljnjaondcaaGreatDoorT6
import Derived.Test.YtbihljnjaondcaaGreatDoorT5
import Derived.Test.YtbihljnjaondcaaGreatDoorT7
import Derived.Test.YtbihljnjaondcaaGreatDoorT19
import Derived.Test.YtbihljnjaondcaaGreatDoorT18
import Derived.Test.YtbihljnjaondcaaGreatDoorT16
import Derived.Test.YtbihljnjaondcaaGreatDoorT15
import Derived.Test.YtbihljnjaondcaaGreatDoorT17
import Derived.Test.YtbihljnjaondcaaGreatDoorT10
import Derived.Test.YtbihljnjaondcaaGreatDoorT11
import Derived.Test.YtbihljnjaondcaaGreatDoorT12
import Derived.Test.YtbihljnjaondcaaGreatDoorT27
import Derived.Test.YtbihljnjaondcaaGreatDoorT39
import Derived.Test.YtbihljnjaondcaaGreatDoorT38
import Derived.Test.YtbihljnjaondcaaGreatDoorT35
import Derived.Test.YtbihljnjaondcaaGreatDoorT37
import Derived.Test.YtbihljnjaondcaaGreatDoorT36
import Derived.Test.YtbihljnjaondcaaGreatDoorT32
import Derived.Test.YtbihljnjaondcaaGreatDoorT42
set_option maxRecDepth 100000
open Go.Proofs.YtbihljnjaondcaaGreatDoor (btT btU btV btW abe abd bq6 bq5 iy0)
set_option linter.unusedVariables false
set_option linter.unusedSimpArgs false
namespace Go.Proofs.YtbihljnjaondcaaGreatDoor
open Go Go.RowKit Lw acY
section
variable {W0 w:World} {U:List Box} {Ps:List (World→Prop)}
variable {s1:Bool} {A1:Option Addr} {n1 c1:Nat} {B1:Option Addr} {m1 d1:Nat}
theorem FI.a8t {v:Value} {z:Int} {k:Nat} {w:World} (h:FI v z k w) (hk:k≤100):(Lib.itoa z).length≤1002:=bkm (Opd.lt h) hk
theorem bns (HS:St W0 U Ps w) {s1:Bool} {A1:Option Addr} {n1 c1:Nat} {x1:Int} {k1:Nat} (f1:FI (.agg #[.bool s1,.slice A1 n1 c1]) x1 k1 w) (hk:k1≤10000):aba Tryz.prog 119 [.agg #[.bool s1,.slice A1 n1 c1]] w (AnP W0 U Ps (.string ⟨(Lib.itoa x1).toArray⟩)):=by
 obtain ⟨s,A,n,c,ns,B,he,h1,h2,h3,h4,h5,h6,-⟩:=f1
 injection he with he
 obtain ⟨rfl,rfl,rfl,rfl⟩:s1=s∧A1=A∧n1=n∧c1=c:=by simpa using he
 have hz:zv s1 ns=x1:=h6
 have hk':n1≤k1:=h4
 rw [← hz]
 refine Calls.mono (bmX s1 A1 ns n1 c1 B w h1 h2 h3 (by omega) h5) fun e w' hh => ?_
 obtain ⟨rfl,hb⟩:=hh
 exact ⟨_,rfl,rfl,HS.next hb⟩
theorem baX (_:Tz W0) (_:Tab W0) (HS:St W0 U Ps w) {s1:Bool} {A1:Option Addr} {n1 c1:Nat} {x1:Int} {k1:Nat} (f1:FI (.agg #[.bool s1,.slice A1 n1 c1]) x1 k1 w) (hk:k1≤10000):aba Tryz.prog 119 [.agg #[.bool s1,.slice A1 n1 c1]] w (AnP W0 U Ps (.string ⟨(Lib.itoa x1).toArray⟩)):=bns HS f1 hk
theorem bmr {q:Rat} (h:decide ((q.den:Int)=1)=true):Lib.itoa q.num=aka q:=by
 have h:=of_decide_eq_true h
 unfold aka; rw [if_pos (by omega)]
theorem bms {q:Rat} (h:decide ((q.den:Int)=1)=false):(Lib.itoa q.num++[47])++Lib.itoa (q.den:Int)=aka q:=by
 have h:=of_decide_eq_false h
 unfold aka; rw [if_neg (by omega),List.append_assoc]
set_option maxHeartbeats 400000 in
theorem a8j (HT:Tz W0) (HB:Tab W0) {q1:Rat} {k1:Nat} {b1:Bool} (HS:St W0 U Ps w) (f1:FV (btT s1 A1 n1 c1 B1 m1 d1) q1 k1 b1 w) (hk:k1≤90):aba Tryz.prog 30 [(btT s1 A1 n1 c1 B1 m1 d1)] w (AnP W0 U Ps (.string ⟨(aka q1).toArray⟩)):=by
 have HS:=HS.add (FV.stable _ _ _ _) f1
 clear f1
 refine ake Tryz.func30 rfl Tryz.ntmps30 rfl ?_
 refine JC.seq ?_
 refine JC.region ?_
 refine JL.box (vs:=(btU s1 A1 n1 c1 B1 m1 d1)) HS rfl rfl rfl rfl (fun g1 w1 HS => ?_)
 refine Lv (.string ⟨([]).toArray⟩) (fun a ha=>run_assign (ha.ev rfl)) ?_
 refine jn ?_
 refine JC.seq ?_
 refine JC.region ?_
 refine JL.load (btT s1 A1 n1 c1 B1 m1 d1) HS 0 rfl rfl rfl bsq bsm rfl rfl ?_
 refine JL.call rfl rfl Tryz.call98 (bm' HT HB HS (HS.at_ 0 rfl) (by omega)) (fun v2 w2 HR2 => ?_)
 obtain ⟨s2a,A2a,n2a,c2a,s2b,A2b,n2b,c2b,rfl,HS⟩:=HR2
 refine Lv (.tuple #[.agg #[.bool s2a,.slice A2a n2a c2a],.agg #[.bool s2b,.slice A2b n2b c2b]]) (fun a ha=>run_move (ha.ev rfl)) ?_
 refine Lv (.agg #[.bool s2a,.slice A2a n2a c2a]) (fun a ha=>aa6 (ha.ev rfl) rfl) ?_
 refine Lv (.agg #[.bool s2b,.slice A2b n2b c2b]) (fun a ha=>aa6 (ha.ev rfl) rfl) ?_
 refine JL.alloc (vs:=[.bool false,.slice none 0 0]) HS rfl bsv rfl rfl (fun g3 w3 HS => ?_)
 refine JL.alloc (vs:=[.bool false,.slice none 0 0]) HS rfl bsv rfl rfl (fun g4 w4 HS => ?_)
 refine JL.store HS rfl rfl (i:=1) rfl bso rfl rfl rfl (vs':=[.bool s2a,.slice A2a n2a c2a]) rfl rfl (fun w5 HS => ?_)
 refine JL.store HS rfl rfl (i:=0) rfl bso rfl rfl rfl (vs':=[.bool s2b,.slice A2b n2b c2b]) rfl rfl (fun w6 HS => ?_)
 refine jn ?_
 refine JC.seq ?_
 refine JC.seq ?_
 refine JC.draw HS [] (by kernel_rfl) (fun w7 HS => ?_)
 refine Da (.agg #[.bool s2b,.slice A2b n2b c2b]) 0 0 rfl HS.b0 rfl rfl bsr bso ?_
 refine D1c 1 rfl rfl rfl bs8 (a2x HT HB HS  ) (fun boU bo' a88 => ?_)
 obtain ⟨bnF,bf3,bkZ,bhx,rfl,HS⟩:=a88
 refine ⟨HS.b0,?_⟩
 refine D1c 2 rfl rfl rfl Tryz.call118 (bmC HT HB HS (HS.at_ 2 rfl) (HS.at_ 0 rfl) (by omega)) (fun boV bpa a9a => ?_)
 obtain ⟨rfl,HS⟩:=a9a
 refine ⟨HS.b0,?_⟩
 refine Dv (.bool (decide ((q1.den:Int)=1))) 3 rfl HS.b0 (fun a ha w=>aj6 (ha.ev rfl) (ha.ev rfl) (bhJ _ _)) ?_
 refine JR.next (by kernel_rfl) (fun _ _ h=>h) ?_
 cases a1O:((decide ((q1.den:Int)=1)))
 ·skip
  refine JC.abl rfl ?_
  refine JC.abu (fun _ _ h=>h) ?_
  refine JC.seq ?_
  refine JC.draw HS [] (by kernel_rfl) (fun w10 HS => ?_)
  refine Da (.agg #[.bool s2a,.slice A2a n2a c2a]) 0 1 rfl HS.b0 rfl rfl bsr bso ?_
  refine Da (.agg #[.bool s2b,.slice A2b n2b c2b]) 3 0 rfl HS.b0 rfl rfl bsr bso ?_
  refine D1c 1 rfl rfl rfl Tryz.call119 (baX HT HB HS (HS.at_ 1 rfl) (by omega)) (fun brm brR bge => ?_)
  obtain ⟨rfl,HS⟩:=bge
  refine ⟨HS.b0,?_⟩
  refine Dv (.string ⟨((Lib.itoa q1.num)++[47]).toArray⟩) 2 rfl HS.b0 (fun a ha w=>a8n (ha.ev rfl) (ha.ev rfl) (by have:=FI.a8t (HS.at_ 1 rfl) (by omega); have:=FI.a8t (HS.at_ 2 rfl) (by omega); simp only [List.length_append,List.length_cons,List.length_nil]; omega) rfl) ?_
  refine D1c 4 rfl rfl rfl Tryz.call119 (baX HT HB HS (HS.at_ 2 rfl) (by omega)) (fun brn brS bgf => ?_)
  obtain ⟨rfl,HS⟩:=bgf
  refine ⟨HS.b0,?_⟩
  refine Dv (.string ⟨(((Lib.itoa q1.num)++[47])++(Lib.itoa (q1.den:Int))).toArray⟩) 5 rfl HS.b0 (fun a ha w=>a8n (ha.ev rfl) (ha.ev rfl) (by have:=FI.a8t (HS.at_ 1 rfl) (by omega); have:=FI.a8t (HS.at_ 2 rfl) (by omega); simp only [List.length_append,List.length_cons,List.length_nil]; omega) rfl) ?_
  refine Dv (.string ⟨(((Lib.itoa q1.num)++[47])++(Lib.itoa (q1.den:Int))).toArray⟩) 6 rfl HS.b0 (fun a ha w=>run_assign (ha.ev rfl)) ?_
  refine JR.next (by kernel_rfl) (fun _ _ h=>h) ?_
  refine JC.ret (fun a ha => ?_)
  repeat (first | refine aev ?_ | refine aeu ?_)
  refine a2w (v := .string ⟨(((Lib.itoa q1.num)++[47])++(Lib.itoa (q1.den:Int))).toArray⟩) ha Tryz.results30 (.tmp rfl) ⟨_,rfl,?_⟩
  exact ⟨(congrArg (fun l:List UInt8=>Value.string ⟨l.toArray⟩) (bms (by assumption))),HS.anp 3 4 rfl rfl⟩
 ·skip
  refine JC.acZ rfl ?_
  refine JC.seq ?_
  refine JC.region ?_
  refine JL.load (.agg #[.bool s2a,.slice A2a n2a c2a]) HS 1 rfl rfl rfl bsr bso rfl rfl ?_
  refine JL.call rfl rfl Tryz.call119 (baX HT HB HS (HS.at_ 1 rfl) (by omega)) (fun v12 w12 a2L => ?_)
  obtain ⟨rfl,HS⟩:=a2L
  refine Lv (.string ⟨(Lib.itoa q1.num).toArray⟩) (fun a ha=>run_assign (ha.ev rfl)) ?_
  refine jn ?_
  refine JC.ret (fun a ha => ?_)
  repeat (first | refine aev ?_ | refine aeu ?_)
  refine a2w (v := .string ⟨(Lib.itoa q1.num).toArray⟩) ha Tryz.results30 (.tmp rfl) ⟨_,rfl,?_⟩
  exact ⟨(congrArg (fun l:List UInt8=>Value.string ⟨l.toArray⟩) (bmr (by assumption))),HS.anp 3 4 rfl rfl⟩
end
end Go.Proofs.YtbihljnjaondcaaGreatDoor
