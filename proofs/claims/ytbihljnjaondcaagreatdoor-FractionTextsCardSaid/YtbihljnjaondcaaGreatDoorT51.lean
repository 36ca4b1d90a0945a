/- Part of a proof, said shortly. -/
import Derived.Test.YtbihljnjaondcaaGreatDoorAlt
import Derived.Test.YtbihljnjaondcaaGreatDoorT50
import Derived.Test.YtbihljnjaondcaaGreatDoorT46
import Derived.Test.YtbihljnjaondcaaGreatDoorT45
import Derived.Test.YtbihljnjaondcaaGreatDoorT33
import Derived.Test.YtbihljnjaondcaaGreatDoorT32
import Derived.Test.YtbihljnjaondcaaGreatDoorT31
import Derived.Test.YtbihljnjaondcaaGreatDoorT43
import Derived.Test.YtbihljnjaondcaaGreatDoorT41
import Derived.Test.YtbihljnjaondcaaGreatDoorT40
import Derived.Test.YtbihljnjaondcaaGreatDoorT34
import Derived.Test.YtbihljnjaondcaaGreatDoorT29
import Derived.Test.YtbihljnjaondcaaGreatDoorT28
import Derived.Test.YtbihljnjaondcaaGreatDoorT26
import Derived.Test.YtbihljnjaondcaaGreatDoorT25
import Derived.Test.YtbihljnjaondcaaGreatDoorT24
import Derived.Test.YtbihljnjaondcaaGreatDoorT23
import Derived.Test.YtbihljnjaondcaaGreatDoorT22
import Derived.Test.YtbihljnjaondcaaGreatDoorT21
import Derived.Test.YtbihljnjaondcaaGreatDoorT20
import Derived.Test.YtbihljnjaondcaaGreatDoorT14
import Derived.Test.YtbihljnjaondcaaGreatDoorT4
import Derived.Test.YtbihljnjaondcaaGreatDoorT3
import Derived.Test.YtbihljnjaondcaaGreatDoorT2
import Derived.Test.YtbihljnjaondcaaGreatDoorT1
import Derived.Test.YtbihljnjaondcaaGreatDoorT13
import Derived.Test.YtbihljnjaondcaaGreatDoorT9
import Derived.Test.YtbihljnjaondcaaGreatDoorT8
import Derived.Test.YtbihljnjaondcaaGreatDoorT6
import Derived.Test.YtbihljnjaondcaaGreatDoorT5
import Derived.Test.YtbihljnjaondcaaGreatDoorT7
import Derived.Test.YtbihljnjaondcaaGreatDoorT19
import Derived.Test.YtbihljnjaondcaaGreatDoorT18
import Derived.Test.YtbihljnjaondcaaGreatDoorT16
import Derived.Test.YtbihljnjaondcaaGreatDoorT15
import Derived.Test.YtbihljnjaondcaaGreatDoorT17
import Derived.Test.YtbihljnjaondcaaGreatDoorT10
import Derived.Test.YtbihljnjaondcaaGreatDoorT11
import Derived.Test.YtbihljnjaondcaaGreatDoorT12
import Derived.Test.YtbihljnjaondcaaGreatDoorT27
import Derived.Test.YtbihljnjaondcaaGreatDoorT39
import Derived.Test.YtbihljnjaondcaaGreatDoorT38
import Derived.Test.YtbihljnjaondcaaGreatDoorT35
import Derived.Test.YtbihljnjaondcaaGreatDoorT37
import Derived.Test.YtbihljnjaondcaaGreatDoorT36
import Derived.Test.YtbihljnjaondcaaGreatDoorT42
import Derived.Test.YtbihljnjaondcaaGreatDoorT44
import Derived.Test.YtbihljnjaondcaaGreatDoorT47
import Derived.Test.YtbihljnjaondcaaGreatDoorT49
import Derived.Test.YtbihljnjaondcaaGreatDoorT48
set_option maxRecDepth 100000
open Go.Proofs.YtbihljnjaondcaaGreatDoor (btT btU btV btW abe abd bq6 bq5 iy0)
set_option linter.unusedVariables false
set_option linter.unusedSimpArgs false
namespace Go.Proofs.YtbihljnjaondcaaGreatDoor
open Go Go.RowKit Lw acY
section
variable {W0 w:World} {U:List Box} {Ps:List (World→Prop)}
variable {s1:Bool} {A1:Option Addr} {n1 c1:Nat} {B1:Option Addr} {m1 d1:Nat}
set_option maxHeartbeats 2000000 in
theorem bjh (HT:Tz W0) (HB:Tab W0) {l:List UInt8} {q1:Rat} {k1:Nat} {b1:Bool} (HS:St W0 U Ps w) (f1:FV (btT s1 A1 n1 c1 B1 m1 d1) q1 k1 b1 w) (HX:Mx W0):aba Tryz.prog 4 [(btT s1 A1 n1 c1 B1 m1 d1),.string ⟨l.toArray⟩] w (AnP W0 U Ps (.bool true)):=by
 have HS:=HS.add (FV.stable _ _ _ _) f1
 clear f1
 refine ake btS rfl Tryz.ntmps4 rfl ?_
 refine JC.seq ?_
 refine JC.region ?_
 refine JL.box (vs:=(btU s1 A1 n1 c1 B1 m1 d1)) HS rfl rfl rfl rfl (fun g1 w1 HS => ?_)
 refine Lv (.bool false) (fun a ha=>run_assign (ha.ev rfl)) ?_
 refine jn ?_
 refine JC.seq ?_
 refine JC.seq ?_
 refine JC.region ?_
 refine JL.load (btT s1 A1 n1 c1 B1 m1 d1) HS 0 rfl rfl rfl bsq bsm rfl rfl ?_
 refine JL.buildSlice (ps:=[(0,(btT s1 A1 n1 c1 B1 m1 d1))]) (vs:=(btU s1 A1 n1 c1 B1 m1 d1)) HS rfl (fun a ha=>by simp only [List.map_cons,List.map_nil,ha.ev (x := .tmp 9) (v:=(btT s1 A1 n1 c1 B1 m1 d1)) rfl]) Tryz.runUnderlying77 bsm bsp rfl rfl (by kernel_rfl) rfl (fun g2 w2 HS => ?_)
 refine JL.call rfl rfl Tryz.call12 (bjf HS 0 [⟨s1,A1,n1,c1,B1,m1,d1⟩] rfl rfl (by omega)) (fun v3 w3 HR3 => ?_)
 obtain ⟨rfl,HS⟩:=HR3
 cases bj7:(aNp [⟨s1,A1,n1,c1,B1,m1,d1⟩])
 ·skip
  refine Lv (.bool true) (fun a ha=>amj (b:=false) (ha.ev rfl)) ?_
  refine Lv (.bool true) (fun a ha=>run_move (ha.ev rfl)) ?_
  refine Lp ?_
  refine Lp ?_
  refine Lp ?_
  refine Lp ?_
  refine LpU ?_
  refine LpU ?_
  refine LpU ?_
  refine Lp ?_
  refine Lv (.bool true) (fun a ha=>ae7 (ha.ev rfl) (ha.ev rfl)) ?_
  refine Lv (.bool true) (fun a ha=>run_move (ha.ev rfl)) ?_
  refine Lp ?_
  refine Lp ?_
  refine Lp ?_
  refine Lv (.bool true) (fun a ha=>ae7 (ha.ev rfl) (ha.ev rfl)) ?_
  refine Lv (.bool true) (fun a ha=>run_move (ha.ev rfl)) ?_
  refine Lp ?_
  refine Lp ?_
  refine Lv (.bool true) (fun a ha=>ae7 (ha.ev rfl) (ha.ev rfl)) ?_
  refine jn ?_
  refine JC.acZ rfl ?_
  refine JC.seq ?_
  refine JC.region ?_
  refine JL.call rfl rfl bty (a4t HT HB HX HS) (fun v5 w5 HR5 => ?_)
  obtain ⟨rfl,HS⟩:=HR5
  refine Lv (.bool true) (fun a ha=>run_assign (ha.ev rfl)) ?_
  refine jn ?_
  refine JC.ret (fun a ha => ?_)
  repeat (first | refine aev ?_ | refine aeu ?_)
  refine a2w (v := .bool true) ha Tryz.results4 (.tmp rfl) ⟨_,rfl,?_⟩
  exact ⟨rfl,HS.anp 2 1 rfl rfl⟩
 ·skip
  have hfew:n1≤12∧m1≤12:=(biK bj7).1
  refine Lv (.bool false) (fun a ha=>amj (b:=true) (ha.ev rfl)) ?_
  refine Lv (.bool false) (fun a ha=>run_move (ha.ev rfl)) ?_
  refine Lg (.string ⟨l.toArray⟩) (fun a ha=>run_move (ha.ev rfl)) ?_
  refine Lg (.int .i64 (l.length:Int)) (fun a ha=>ae9 (ha.ev rfl) bsn rfl) ?_
  refine Lg (.bool (decide ((l.length:Int) > 300))) (fun a ha=>afd (ha.ev rfl) (ha.ev rfl) rfl) ?_
  cases a7L:(decide ((l.length:Int) > 300))
  ·skip
   have hd6:=of_decide_eq_false a7L
   refine Lg (.bool false) (fun a ha=>run_move (ha.ev rfl)) ?_
   refine Lp ?_
   refine Lp ?_
   refine Lp ?_
   refine Lg (.bool false) (fun a ha=>abE (ha.ev rfl) (ha.ev rfl)) ?_
   refine Lv (.bool false) (fun a ha=>abE (ha.ev rfl) (ha.ev rfl)) ?_
   refine Lv (.bool false) (fun a ha=>run_move (ha.ev rfl)) ?_
   refine Lg (.string ⟨l.toArray⟩) (fun a ha=>run_move (ha.ev rfl)) ?_
   refine Lg (.int .i64 (l.length:Int)) (fun a ha=>ae9 (ha.ev rfl) bsn rfl) ?_
   refine Lg (.bool (decide ((l.length:Int) > 65636))) (fun a ha=>afd (ha.ev rfl) (ha.ev rfl) rfl) ?_
   refine Lv (.bool (decide ((l.length:Int) > 65636))) (fun a ha=>abE (ha.ev rfl) (ha.ev rfl)) ?_
   cases a7M:(decide ((l.length:Int) > 65636))
   ·skip
    have hd7:=of_decide_eq_false a7M
    refine Lv (.bool false) (fun a ha=>run_move (ha.ev rfl)) ?_
    refine JL.ajo rfl rfl rfl rfl rfl rfl bty (a4t HT HB HX HS) (fun v8 w8 HR8 => ?_)
    obtain ⟨rfl,HS⟩:=HR8
    refine Lg (.bool false) (fun a ha=>amj (b:=true) (ha.ev rfl)) ?_
    refine Lv (.bool false) (fun a ha=>abE (ha.ev rfl) (ha.ev rfl)) ?_
    refine jn ?_
    refine JC.abl rfl ?_
    refine JC.abu (fun _ _ h=>h) ?_
    refine JC.seq ?_
    have HS:=HS.atF 0 rfl (fun _ h=>(Fop.cut (K:=12) h (by omega) (by omega):FV _ _ 12 _ _))
    obtain ⟨q,er,c,hn1,hw⟩:=beC l (by omega)
    refine JC.region ?_
    refine Lv (.string ⟨l.toArray⟩) (fun a ha=>run_move (ha.ev rfl)) ?_
    refine JL.call rfl rfl Tryz.call27 ((hw HT HB HX HS).1) (fun v9 w9 HR9 => ?_)
    obtain ⟨s9,A9,n9,c9,B9,m9,d9,rfl,HS⟩:=HR9
    refine Lv (.tuple #[(btT s9 A9 n9 c9 B9 m9 d9),er]) (fun a ha=>run_move (ha.ev rfl)) ?_
    refine Lv (btT s9 A9 n9 c9 B9 m9 d9) (fun a ha=>aa6 (ha.ev rfl) rfl) ?_
    refine Lv (er) (fun a ha=>aa6 (ha.ev rfl) rfl) ?_
    refine JL.alloc (vs:=abd) HS rfl bsp rfl rfl (fun g10 w10 HS => ?_)
    refine JL.store HS rfl rfl (i:=0) rfl bsm rfl rfl rfl (vs':=(btU s9 A9 n9 c9 B9 m9 d9)) rfl rfl (fun w11 HS => ?_)
    refine Lv (er) (fun a ha=>run_assign (ha.ev rfl)) ?_
    refine jn ?_
    refine JC.seq ?_
    refine JC.region ?_
    refine Lv (.string ⟨l.toArray⟩) (fun a ha=>run_move (ha.ev rfl)) ?_
    refine JL.call rfl rfl Tryz.call28 ((hw HT HB HX HS).2) (fun v12 w12 a2L => ?_)
    obtain ⟨s12,A12,n12,c12,B12,m12,d12,rfl,HS⟩:=a2L
    refine Lv (.tuple #[(btT s12 A12 n12 c12 B12 m12 d12),.int .i64 c]) (fun a ha=>run_move (ha.ev rfl)) ?_
    refine Lv (btT s12 A12 n12 c12 B12 m12 d12) (fun a ha=>aa6 (ha.ev rfl) rfl) ?_
    refine Lv (.int .i64 c) (fun a ha=>aa6 (ha.ev rfl) rfl) ?_
    refine JL.alloc (vs:=abd) HS rfl bsp rfl rfl (fun g13 w13 HS => ?_)
    refine JL.store HS rfl rfl (i:=0) rfl bsm rfl rfl rfl (vs':=(btU s12 A12 n12 c12 B12 m12 d12)) rfl rfl (fun w14 HS => ?_)
    refine Lv (.int .i64 c) (fun a ha=>run_assign (ha.ev rfl)) ?_
    refine jn ?_
    refine JC.seq ?_
    refine JC.draw HS [] (by kernel_rfl) (fun w15 HS => ?_)
    refine Da (btT s1 A1 n1 c1 B1 m1 d1) 0 3 rfl HS.b0 rfl rfl bsq bsm ?_
    refine Da (btT s1 A1 n1 c1 B1 m1 d1) 2 3 rfl HS.b0 rfl rfl bsq bsm ?_
    refine D1c 1 rfl rfl rfl Tryz.call29 (bcK HT HB HS (HS.at_ 2 rfl) (by omega)) (fun bfG bfM a5M => ?_)
    obtain ⟨rfl,HS⟩:=a5M
    refine ⟨HS.b0,?_⟩
    refine D1c 3 rfl rfl rfl btR (a8j HT HB HS (HS.at_ 2 rfl) (by omega)) (fun brs brX bgm => ?_)
    obtain ⟨rfl,HS⟩:=bgm
    refine ⟨HS.b0,?_⟩
    refine Dv (.bool true) 4 rfl HS.b0 (fun a ha w=>be3 (ha.ev rfl) (ha.ev rfl) (by simp)) ?_
    refine Dv (.bool true) 5 rfl HS.b0 (fun a ha w=>run_move (ha.ev rfl)) ?_
    refine Dg (er) 6 rfl HS.b0 (fun a ha w=>run_move (ha.ev rfl)) ?_
    refine Dg (.int .i64 c) 8 rfl HS.b0 (fun a ha w=>run_move (ha.ev rfl)) ?_
    refine J1 7 (by kernel_rfl) ?_
    refine afb.ajo rfl rfl rfl rfl rfl rfl rfl Tryz.call20 (hn1 _ _ _ _ HS) rfl (fun brt brY bgn => ?_) afb.nil
    obtain ⟨rfl,HS⟩:=bgn
    refine ⟨HS.b0,?_⟩
    refine Dg (.bool true) 9 rfl HS.b0 (fun a ha w=>aj6 (ha.ev rfl) (ha.ev rfl) (by simp)) ?_
    refine Dv (.bool true) 10 rfl HS.b0 (fun a ha w=>ae7 (ha.ev rfl) (ha.ev rfl)) ?_
    refine Dv (.bool true) 11 rfl HS.b0 (fun a ha w=>run_move (ha.ev rfl)) ?_
    refine Jlg (btT s9 A9 n9 c9 B9 m9 d9) 12 1 (by kernel_rfl) rfl (fun _ _ _ h=>h) rfl rfl rfl rfl rfl HS.b0 rfl rfl bsq bsm rfl rfl ?_
    refine Jlg (btT s12 A12 n12 c12 B12 m12 d12) 13 0 (by kernel_rfl) rfl (fun _ _ _ h=>h) rfl rfl rfl rfl rfl HS.b0 rfl rfl bsq bsm rfl rfl ?_
    refine J1 14 (by kernel_rfl) ?_
    refine afb.ajo rfl rfl rfl rfl rfl rfl rfl Tryz.call21 (beK HT HB HS (HS.at_ 1 rfl) (HS.at_ 0 rfl) (by omega) rfl) rfl (fun brw br1 bgq => ?_) afb.nil
    obtain ⟨rfl,HS⟩:=bgq
    refine ⟨HS.b0,?_⟩
    refine Dv (.bool true) 15 rfl HS.b0 (fun a ha w=>ae7 (ha.ev rfl) (ha.ev rfl)) ?_
    refine Dv (.bool true) 16 rfl HS.b0 (fun a ha w=>run_assign (ha.ev rfl)) ?_
    refine JR.next (by kernel_rfl) (fun _ _ h=>h) ?_
    refine JC.ret (fun a ha => ?_)
    repeat (first | refine aev ?_ | refine aeu ?_)
    refine a2w (v := .bool true) ha Tryz.results4 (.tmp rfl) ⟨_,rfl,?_⟩
    exact ⟨rfl,HS.anp 4 4 rfl rfl⟩
   ·skip
    have hd7:=of_decide_eq_true a7M
    refine Lv (.bool true) (fun a ha=>run_move (ha.ev rfl)) ?_
    refine Lp ?_
    refine Lp ?_
    refine Lv (.bool true) (fun a ha=>ae7 (ha.ev rfl) (ha.ev rfl)) ?_
    refine jn ?_
    refine JC.acZ rfl ?_
    refine JC.seq ?_
    refine JC.region ?_
    refine JL.call rfl rfl bty (a4t HT HB HX HS) (fun v17 w17 a8U => ?_)
    obtain ⟨rfl,HS⟩:=a8U
    refine Lv (.bool true) (fun a ha=>run_assign (ha.ev rfl)) ?_
    refine jn ?_
    refine JC.ret (fun a ha => ?_)
    repeat (first | refine aev ?_ | refine aeu ?_)
    refine a2w (v := .bool true) ha Tryz.results4 (.tmp rfl) ⟨_,rfl,?_⟩
    exact ⟨rfl,HS.anp 2 1 rfl rfl⟩
  ·skip
   have hd6:=of_decide_eq_true a7L
   refine Lg (.bool true) (fun a ha=>run_move (ha.ev rfl)) ?_
   refine Lg (.string ⟨l.toArray⟩) (fun a ha=>run_move (ha.ev rfl)) ?_
   refine Lg (.int .i64 (l.length:Int)) (fun a ha=>ae9 (ha.ev rfl) bsn rfl) ?_
   refine Lg (.bool (decide ((l.length:Int)≤65536))) (fun a ha=>a5c (ha.ev rfl) (ha.ev rfl) rfl) ?_
   refine Lg (.bool (decide ((l.length:Int)≤65536))) (fun a ha=>ae7 (ha.ev rfl) (ha.ev rfl)) ?_
   refine Lv (.bool (decide ((l.length:Int)≤65536))) (fun a ha=>abE (ha.ev rfl) (ha.ev rfl)) ?_
   cases a7K:(decide ((l.length:Int)≤65536))
   ·skip
    have bjN:=of_decide_eq_false a7K
    refine Lv (.bool false) (fun a ha=>run_move (ha.ev rfl)) ?_
    refine Lg (.string ⟨l.toArray⟩) (fun a ha=>run_move (ha.ev rfl)) ?_
    refine Lg (.int .i64 (l.length:Int)) (fun a ha=>ae9 (ha.ev rfl) bsn rfl) ?_
    refine Lg (.bool (decide ((l.length:Int) > 65636))) (fun a ha=>afd (ha.ev rfl) (ha.ev rfl) rfl) ?_
    refine Lv (.bool (decide ((l.length:Int) > 65636))) (fun a ha=>abE (ha.ev rfl) (ha.ev rfl)) ?_
    cases bdl:(decide ((l.length:Int) > 65636))
    ·skip
     have bjO:=of_decide_eq_false bdl
     refine Lv (.bool false) (fun a ha=>run_move (ha.ev rfl)) ?_
     refine JL.ajo rfl rfl rfl rfl rfl rfl bty (a4t HT HB HX HS) (fun v20 w20 a8Y => ?_)
     obtain ⟨rfl,HS⟩:=a8Y
     refine Lg (.bool false) (fun a ha=>amj (b:=true) (ha.ev rfl)) ?_
     refine Lv (.bool false) (fun a ha=>abE (ha.ev rfl) (ha.ev rfl)) ?_
     refine jn ?_
     refine JC.abl rfl ?_
     refine JC.abu (fun _ _ h=>h) ?_
     refine JC.seq ?_
     have HS:=HS.atF 0 rfl (fun _ h=>(Fop.cut (K:=12) h (by omega) (by omega):FV _ _ 12 _ _))
     obtain ⟨q,er,c,hn1,hw⟩:=beC l (by omega)
     refine JC.region ?_
     refine Lv (.string ⟨l.toArray⟩) (fun a ha=>run_move (ha.ev rfl)) ?_
     refine JL.call rfl rfl Tryz.call27 ((hw HT HB HX HS).1) (fun v21 w21 a8Z => ?_)
     obtain ⟨s21,A21,n21,c21,B21,m21,d21,rfl,HS⟩:=a8Z
     refine Lv (.tuple #[(btT s21 A21 n21 c21 B21 m21 d21),er]) (fun a ha=>run_move (ha.ev rfl)) ?_
     refine Lv (btT s21 A21 n21 c21 B21 m21 d21) (fun a ha=>aa6 (ha.ev rfl) rfl) ?_
     refine Lv (er) (fun a ha=>aa6 (ha.ev rfl) rfl) ?_
     refine JL.alloc (vs:=abd) HS rfl bsp rfl rfl (fun g22 w22 HS => ?_)
     refine JL.store HS rfl rfl (i:=0) rfl bsm rfl rfl rfl (vs':=(btU s21 A21 n21 c21 B21 m21 d21)) rfl rfl (fun w23 HS => ?_)
     refine Lv (er) (fun a ha=>run_assign (ha.ev rfl)) ?_
     refine jn ?_
     refine JC.seq ?_
     refine JC.region ?_
     refine Lv (.string ⟨l.toArray⟩) (fun a ha=>run_move (ha.ev rfl)) ?_
     refine JL.call rfl rfl Tryz.call28 ((hw HT HB HX HS).2) (fun v24 w24 bgv => ?_)
     obtain ⟨s24,A24,n24,c24,B24,m24,d24,rfl,HS⟩:=bgv
     refine Lv (.tuple #[(btT s24 A24 n24 c24 B24 m24 d24),.int .i64 c]) (fun a ha=>run_move (ha.ev rfl)) ?_
     refine Lv (btT s24 A24 n24 c24 B24 m24 d24) (fun a ha=>aa6 (ha.ev rfl) rfl) ?_
     refine Lv (.int .i64 c) (fun a ha=>aa6 (ha.ev rfl) rfl) ?_
     refine JL.alloc (vs:=abd) HS rfl bsp rfl rfl (fun g25 w25 HS => ?_)
     refine JL.store HS rfl rfl (i:=0) rfl bsm rfl rfl rfl (vs':=(btU s24 A24 n24 c24 B24 m24 d24)) rfl rfl (fun w26 HS => ?_)
     refine Lv (.int .i64 c) (fun a ha=>run_assign (ha.ev rfl)) ?_
     refine jn ?_
     refine JC.seq ?_
     refine JC.draw HS [] (by kernel_rfl) (fun w27 HS => ?_)
     refine Da (btT s1 A1 n1 c1 B1 m1 d1) 0 3 rfl HS.b0 rfl rfl bsq bsm ?_
     refine Da (btT s1 A1 n1 c1 B1 m1 d1) 2 3 rfl HS.b0 rfl rfl bsq bsm ?_
     refine D1c 1 rfl rfl rfl Tryz.call29 (bcK HT HB HS (HS.at_ 2 rfl) (by omega)) (fun boS bo9 a81 => ?_)
     obtain ⟨rfl,HS⟩:=a81
     refine ⟨HS.b0,?_⟩
     refine D1c 3 rfl rfl rfl btR (a8j HT HB HS (HS.at_ 2 rfl) (by omega)) (fun brA br5 bgy => ?_)
     obtain ⟨rfl,HS⟩:=bgy
     refine ⟨HS.b0,?_⟩
     refine Dv (.bool true) 4 rfl HS.b0 (fun a ha w=>be3 (ha.ev rfl) (ha.ev rfl) (by simp)) ?_
     refine Dv (.bool true) 5 rfl HS.b0 (fun a ha w=>run_move (ha.ev rfl)) ?_
     refine Dg (er) 6 rfl HS.b0 (fun a ha w=>run_move (ha.ev rfl)) ?_
     refine Dg (.int .i64 c) 8 rfl HS.b0 (fun a ha w=>run_move (ha.ev rfl)) ?_
     refine J1 7 (by kernel_rfl) ?_
     refine afb.ajo rfl rfl rfl rfl rfl rfl rfl Tryz.call20 (hn1 _ _ _ _ HS) rfl (fun brB br6 bgz => ?_) afb.nil
     obtain ⟨rfl,HS⟩:=bgz
     refine ⟨HS.b0,?_⟩
     refine Dg (.bool true) 9 rfl HS.b0 (fun a ha w=>aj6 (ha.ev rfl) (ha.ev rfl) (by simp)) ?_
     refine Dv (.bool true) 10 rfl HS.b0 (fun a ha w=>ae7 (ha.ev rfl) (ha.ev rfl)) ?_
     refine Dv (.bool true) 11 rfl HS.b0 (fun a ha w=>run_move (ha.ev rfl)) ?_
     refine Jlg (btT s21 A21 n21 c21 B21 m21 d21) 12 1 (by kernel_rfl) rfl (fun _ _ _ h=>h) rfl rfl rfl rfl rfl HS.b0 rfl rfl bsq bsm rfl rfl ?_
     refine Jlg (btT s24 A24 n24 c24 B24 m24 d24) 13 0 (by kernel_rfl) rfl (fun _ _ _ h=>h) rfl rfl rfl rfl rfl HS.b0 rfl rfl bsq bsm rfl rfl ?_
     refine J1 14 (by kernel_rfl) ?_
     refine afb.ajo rfl rfl rfl rfl rfl rfl rfl Tryz.call21 (beK HT HB HS (HS.at_ 1 rfl) (HS.at_ 0 rfl) (by omega) rfl) rfl (fun brE br9 bgC => ?_) afb.nil
     obtain ⟨rfl,HS⟩:=bgC
     refine ⟨HS.b0,?_⟩
     refine Dv (.bool true) 15 rfl HS.b0 (fun a ha w=>ae7 (ha.ev rfl) (ha.ev rfl)) ?_
     refine Dv (.bool true) 16 rfl HS.b0 (fun a ha w=>run_assign (ha.ev rfl)) ?_
     refine JR.next (by kernel_rfl) (fun _ _ h=>h) ?_
     refine JC.ret (fun a ha => ?_)
     repeat (first | refine aev ?_ | refine aeu ?_)
     refine a2w (v := .bool true) ha Tryz.results4 (.tmp rfl) ⟨_,rfl,?_⟩
     exact ⟨rfl,HS.anp 4 4 rfl rfl⟩
    ·skip
     have bjO:=of_decide_eq_true bdl
     refine Lv (.bool true) (fun a ha=>run_move (ha.ev rfl)) ?_
     refine Lp ?_
     refine Lp ?_
     refine Lv (.bool true) (fun a ha=>ae7 (ha.ev rfl) (ha.ev rfl)) ?_
     refine jn ?_
     refine JC.acZ rfl ?_
     refine JC.seq ?_
     refine JC.region ?_
     refine JL.call rfl rfl bty (a4t HT HB HX HS) (fun v29 w29 bgD => ?_)
     obtain ⟨rfl,HS⟩:=bgD
     refine Lv (.bool true) (fun a ha=>run_assign (ha.ev rfl)) ?_
     refine jn ?_
     refine JC.ret (fun a ha => ?_)
     repeat (first | refine aev ?_ | refine aeu ?_)
     refine a2w (v := .bool true) ha Tryz.results4 (.tmp rfl) ⟨_,rfl,?_⟩
     exact ⟨rfl,HS.anp 2 1 rfl rfl⟩
   ·skip
    have bjN:=of_decide_eq_true a7K
    refine Lv (.bool true) (fun a ha=>run_move (ha.ev rfl)) ?_
    refine Lp ?_
    refine Lp ?_
    refine Lp ?_
    refine Lv (.bool true) (fun a ha=>ae7 (ha.ev rfl) (ha.ev rfl)) ?_
    refine Lv (.bool true) (fun a ha=>run_move (ha.ev rfl)) ?_
    refine Lp ?_
    refine Lp ?_
    refine Lv (.bool true) (fun a ha=>ae7 (ha.ev rfl) (ha.ev rfl)) ?_
    refine jn ?_
    refine JC.acZ rfl ?_
    refine JC.seq ?_
    refine JC.region ?_
    refine JL.call rfl rfl bty (a4t HT HB HX HS) (fun v30 w30 bgE => ?_)
    obtain ⟨rfl,HS⟩:=bgE
    refine Lv (.bool true) (fun a ha=>run_assign (ha.ev rfl)) ?_
    refine jn ?_
    refine JC.ret (fun a ha => ?_)
    repeat (first | refine aev ?_ | refine aeu ?_)
    refine a2w (v := .bool true) ha Tryz.results4 (.tmp rfl) ⟨_,rfl,?_⟩
    exact ⟨rfl,HS.anp 2 1 rfl rfl⟩
theorem bjg {q1:Rat} {k1:Nat} {b1:Bool} {z2:ByteArray} {pw2:Prop} (W:World) (ht:Tz W) (hb:Tab W) (hx:Mx W) (f1:Fop W ⟨(btT s1 A1 n1 c1 B1 m1 d1),q1,k1,b1⟩) (_w2:pw2) :
 Calls Tryz.prog 4 #[(btT s1 A1 n1 c1 B1 m1 d1),.string z2] W fun e w'=>e = .returned (.bool true)∧Below W.heap.size W w':=by
 obtain ⟨l,rfl⟩ : ∃ l:List UInt8,z2=⟨l.toArray⟩:=⟨z2.data.toList,by simp⟩
 exact law_true (bjh ht hb (St.init W) f1 hx)
end
end Go.Proofs.YtbihljnjaondcaaGreatDoor
