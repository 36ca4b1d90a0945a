/- Part of a proof, said shortly. -/
import Derived.Test.YtbihljnjaondcaaGreatDoorAlt
import Derived.Test.YtbihljnjaondcaaGreatDoorT45
import Derived.Test.YtbihljnjaondcaaGreatDoorT33
import Derived.Test.YtbihljnjaondcaaGreatDoorT32
import Derived.Test.YtbihljnjaondcaaGreatDoorT31
import Derived.Test.YtbihljnjaondcaaGreatDoorT43
import Derived.Test.YtbihljnjaondcaaGreatDoorT41
import Derived.Test.YtbihljnjaondcaaGreatDoorT40
import Derived.Test.YtbihljnjaondcaaGreatDoorT34
import Derived.Test.YtbihljnjaondcaaGreatDoorT29
import Derived.Test.YtbihljnjaondcaaGreatDoorT28
import Derived.Test.YtbihljnjaondcaaGreatDoorT26
import Derived.Test.YtbihljnjaondcaaGreatDoorT25
import Derived.Test.YtbihljnjaondcaaGreatDoorT24
import Derived.Test.YtbihljnjaondcaaGreatDoorT23
import Derived.Test.YtbihljnjaondcaaGreatDoorT22
import Derived.Test.YtbihljnjaondcaaGreatDoorT21
import Derived.Test.YtbihljnjaondcaaGreatDoorT20
import Derived.Test.YtbihljnjaondcaaGreatDoorT14
import Derived.Test.YtbihljnjaondcaaGreatDoorT4
import Derived.Test.YtbihljnjaondcaaGreatDoorT3
import Derived.Test.YtbihljnjaondcaaGreatDoorT2
import Derived.Test.YtbihljnjaondcaaGreatDoorT1
import Derived.Test.YtbihljnjaondcaaGreatDoorT13
import Derived.Test.YtbihljnjaondcaaGreatDoorT9
import Derived.Test.YtbihljnjaondcaaGreatDoorT8
import Derived.Test.YtbihljnjaondcaaGreatDoorT6
import Derived.Test.YtbihljnjaondcaaGreatDoorT5
import Derived.Test.YtbihljnjaondcaaGreatDoorT7
import Derived.Test.YtbihljnjaondcaaGreatDoorT19
import Derived.Test.YtbihljnjaondcaaGreatDoorT18
import Derived.Test.YtbihljnjaondcaaGreatDoorT16
import Derived.Test.YtbihljnjaondcaaGreatDoorT15
import Derived.Test.YtbihljnjaondcaaGreatDoorT17
import Derived.Test.YtbihljnjaondcaaGreatDoorT10
import Derived.Test.YtbihljnjaondcaaGreatDoorT11
import Derived.Test.YtbihljnjaondcaaGreatDoorT12
import Derived.Test.YtbihljnjaondcaaGreatDoorT27
import Derived.Test.YtbihljnjaondcaaGreatDoorT39
import Derived.Test.YtbihljnjaondcaaGreatDoorT38
import Derived.Test.YtbihljnjaondcaaGreatDoorT35
import Derived.Test.YtbihljnjaondcaaGreatDoorT37
import Derived.Test.YtbihljnjaondcaaGreatDoorT36
import Derived.Test.YtbihljnjaondcaaGreatDoorT42
import Derived.Test.YtbihljnjaondcaaGreatDoorT44
set_option maxRecDepth 100000
open Go.Proofs.YtbihljnjaondcaaGreatDoor (btT btU btV btW abe abd bq6 bq5 iy0)
set_option linter.unusedVariables false
set_option linter.unusedSimpArgs false
namespace Go.Proofs.YtbihljnjaondcaaGreatDoor
open Go Go.RowKit Lw acY
section
variable {W0 w:World} {U:List Box} {Ps:List (World→Prop)}
theorem bhl {a b:List UInt8} (h:a=b):(a != b)=false:=by subst h; simp
theorem bk5 {b:UInt8} (h:b.toNat≠48):(((b.toNat:Nat):Int)==48)=false:=by simp; omega
theorem a5g {l t:List UInt8} {neg:Bool} (HS:St W0 U Ps w) (ht:Lib.trimPrefix l [45]=t) (hn:Lib.hasPrefix l [45]=neg):aba Tryz.prog 173 [.string ⟨l.toArray⟩,.string ⟨([45]).toArray⟩] w (AnP W0 U Ps (.tuple #[.string ⟨t.toArray⟩,.bool neg])):=by
 subst ht hn; exact bnK HS
set_option maxHeartbeats 1000000 in
theorem blJ (HT:Tz W0) (HB:Tab W0) {l t f b:List UInt8} {neg fd:Bool}  (HS:St W0 U Ps w)  (HX:Mx W0) (ht:Lib.trimPrefix l [45]=t) (hn:Lib.hasPrefix l [45]=neg) (hcut:Lib.cut t [46]=(f,b,fd)) (hl:l.length≤300) (htl:t.length≤300) (hfl:f.length≤300) (hbl:b.length≤300) (h64:64 < l.length):aba Tryz.prog 108 [.string ⟨l.toArray⟩] w (AnP W0 U Ps (.tuple #[abe,.iface 74 (.int .i64 2)])):=by
 refine ake bte rfl btf rfl ?_
 refine JC.seq ?_
 refine JC.region ?_
 refine JL.alloc (vs:=abd) HS rfl bsp rfl rfl (fun g1 w1 HS => ?_)
 refine Lv (.nilIface) (fun a ha=>run_assign (ha.ev rfl)) ?_
 refine jn ?_
 refine JC.seq ?_
 refine JC.region ?_
 refine Lv (.string ⟨l.toArray⟩) (fun a ha=>run_move (ha.ev rfl)) ?_
 refine JL.call rfl rfl bts (a5g HS ht hn) (fun v2 w2 HR2 => ?_)
 obtain ⟨rfl,HS⟩:=HR2
 refine Lv (.tuple #[.string ⟨t.toArray⟩,.bool neg]) (fun a ha=>run_move (ha.ev rfl)) ?_
 refine Lv (.string ⟨t.toArray⟩) (fun a ha=>aa6 (ha.ev rfl) rfl) ?_
 refine Lv (.bool neg) (fun a ha=>aa6 (ha.ev rfl) rfl) ?_
 refine Lv (.string ⟨t.toArray⟩) (fun a ha=>run_assign (ha.ev rfl)) ?_
 refine Lv (.bool neg) (fun a ha=>run_assign (ha.ev rfl)) ?_
 refine jn ?_
 refine JC.seq ?_
 refine JC.region ?_
 refine Lv (.string ⟨t.toArray⟩) (fun a ha=>run_move (ha.ev rfl)) ?_
 refine JL.call rfl rfl bsB (azq HX HS hcut (by omega)) (fun v3 w3 HR3 => ?_)
 obtain ⟨rfl,HS⟩:=HR3
 refine Lv (.tuple #[.string ⟨f.toArray⟩,.string ⟨b.toArray⟩,.bool fd]) (fun a ha=>run_move (ha.ev rfl)) ?_
 refine Lv (.string ⟨f.toArray⟩) (fun a ha=>aa6 (ha.ev rfl) rfl) ?_
 refine Lv (.string ⟨b.toArray⟩) (fun a ha=>aa6 (ha.ev rfl) rfl) ?_
 refine Lv (.bool fd) (fun a ha=>aa6 (ha.ev rfl) rfl) ?_
 refine Lv (.string ⟨f.toArray⟩) (fun a ha=>run_assign (ha.ev rfl)) ?_
 refine Lv (.string ⟨b.toArray⟩) (fun a ha=>run_assign (ha.ev rfl)) ?_
 refine Lv (.bool fd) (fun a ha=>run_assign (ha.ev rfl)) ?_
 refine jn ?_
 refine JC.seq ?_
 refine JC.seq ?_
 refine JC.region ?_
 refine Lv (.string ⟨l.toArray⟩) (fun a ha=>run_move (ha.ev rfl)) ?_
 refine Lv (.int .i64 (l.length:Int)) (fun a ha=>ae9 (ha.ev rfl) bsn rfl) ?_
 refine Lv (.bool true) (fun a ha=>afd (ha.ev rfl) (ha.ev rfl) (decide_eq_true (by omega))) ?_
 refine Lv (.bool true) (fun a ha=>run_move (ha.ev rfl)) ?_
 refine Lp ?_
 refine Lp ?_
 refine Lp ?_
 refine Lv (.bool true) (fun a ha=>ae7 (ha.ev rfl) (ha.ev rfl)) ?_
 refine Lv (.bool true) (fun a ha=>run_move (ha.ev rfl)) ?_
 refine Lp ?_
 refine Lp ?_
 refine Lp ?_
 refine Lv (.bool true) (fun a ha=>ae7 (ha.ev rfl) (ha.ev rfl)) ?_
 refine Lv (.bool true) (fun a ha=>run_move (ha.ev rfl)) ?_
 refine Lp ?_
 refine Lp ?_
 refine Lp ?_
 refine Lp ?_
 refine LpU ?_
 refine LpU ?_
 refine Lp ?_
 refine Lv (.bool true) (fun a ha=>ae7 (ha.ev rfl) (ha.ev rfl)) ?_
 refine jn ?_
 refine JC.acZ rfl ?_
 refine JC.seq ?_
 refine JC.region ?_
 refine Lv abe (fun a ha=>acY.run_build (vs:=[]) (by simp only [List.map_cons,List.map_nil]) bsu bsp ahx rfl) ?_
 refine Lv (.iface 74 (.int .i64 2)) (fun a ha=>a1v (ha.ev rfl) (by kernel_rfl)) ?_
 refine JL.store HS rfl rfl (i:=0) rfl bsm rfl rfl rfl (vs':=abd) rfl rfl (fun w4 HS => ?_)
 refine Lv (.iface 74 (.int .i64 2)) (fun a ha=>run_assign (ha.ev rfl)) ?_
 refine jn ?_
 refine JC.ret (fun a ha => ?_)
 repeat (first | refine aev ?_ | refine aeu ?_)
 refine aff (v:=abe) (v' := .iface 74 (.int .i64 2)) ha Tryz.results108 (.agg rfl bsq bsm (HS.box _ (.head _)) rfl rfl) (.tmp rfl) ⟨_,rfl,?_⟩
 exact ⟨rfl,HS.anp 1 0 rfl rfl⟩
set_option maxHeartbeats 1000000 in
theorem blI (HT:Tz W0) (HB:Tab W0) {l t f b:List UInt8} {neg fd:Bool}  (HS:St W0 U Ps w)  (HX:Mx W0) (ht:Lib.trimPrefix l [45]=t) (hn:Lib.hasPrefix l [45]=neg) (hcut:Lib.cut t [46]=(f,b,fd)) (hl:l.length≤300) (htl:t.length≤300) (hfl:f.length≤300) (hbl:b.length≤300) (h64:l.length≤64) (hf:¬ (0 < f.length∧acz f)):aba Tryz.prog 108 [.string ⟨l.toArray⟩] w (AnP W0 U Ps (.tuple #[abe,.iface 74 (.int .i64 2)])):=by
 refine ake bte rfl btf rfl ?_
 refine JC.seq ?_
 refine JC.region ?_
 refine JL.alloc (vs:=abd) HS rfl bsp rfl rfl (fun g1 w1 HS => ?_)
 refine Lv (.nilIface) (fun a ha=>run_assign (ha.ev rfl)) ?_
 refine jn ?_
 refine JC.seq ?_
 refine JC.region ?_
 refine Lv (.string ⟨l.toArray⟩) (fun a ha=>run_move (ha.ev rfl)) ?_
 refine JL.call rfl rfl bts (a5g HS ht hn) (fun v2 w2 HR2 => ?_)
 obtain ⟨rfl,HS⟩:=HR2
 refine Lv (.tuple #[.string ⟨t.toArray⟩,.bool neg]) (fun a ha=>run_move (ha.ev rfl)) ?_
 refine Lv (.string ⟨t.toArray⟩) (fun a ha=>aa6 (ha.ev rfl) rfl) ?_
 refine Lv (.bool neg) (fun a ha=>aa6 (ha.ev rfl) rfl) ?_
 refine Lv (.string ⟨t.toArray⟩) (fun a ha=>run_assign (ha.ev rfl)) ?_
 refine Lv (.bool neg) (fun a ha=>run_assign (ha.ev rfl)) ?_
 refine jn ?_
 refine JC.seq ?_
 refine JC.region ?_
 refine Lv (.string ⟨t.toArray⟩) (fun a ha=>run_move (ha.ev rfl)) ?_
 refine JL.call rfl rfl bsB (azq HX HS hcut (by omega)) (fun v3 w3 HR3 => ?_)
 obtain ⟨rfl,HS⟩:=HR3
 refine Lv (.tuple #[.string ⟨f.toArray⟩,.string ⟨b.toArray⟩,.bool fd]) (fun a ha=>run_move (ha.ev rfl)) ?_
 refine Lv (.string ⟨f.toArray⟩) (fun a ha=>aa6 (ha.ev rfl) rfl) ?_
 refine Lv (.string ⟨b.toArray⟩) (fun a ha=>aa6 (ha.ev rfl) rfl) ?_
 refine Lv (.bool fd) (fun a ha=>aa6 (ha.ev rfl) rfl) ?_
 refine Lv (.string ⟨f.toArray⟩) (fun a ha=>run_assign (ha.ev rfl)) ?_
 refine Lv (.string ⟨b.toArray⟩) (fun a ha=>run_assign (ha.ev rfl)) ?_
 refine Lv (.bool fd) (fun a ha=>run_assign (ha.ev rfl)) ?_
 refine jn ?_
 refine JC.seq ?_
 refine JC.seq ?_
 refine JC.region ?_
 refine Lv (.string ⟨l.toArray⟩) (fun a ha=>run_move (ha.ev rfl)) ?_
 refine Lv (.int .i64 (l.length:Int)) (fun a ha=>ae9 (ha.ev rfl) bsn rfl) ?_
 refine Lv (.bool false) (fun a ha=>afd (ha.ev rfl) (ha.ev rfl) (decide_eq_false (by omega))) ?_
 refine Lv (.bool false) (fun a ha=>run_move (ha.ev rfl)) ?_
 refine Lg (.string ⟨f.toArray⟩) (fun a ha=>run_move (ha.ev rfl)) ?_
 refine JL.ajo rfl rfl rfl rfl rfl rfl bsX (a1P HS (b:=false) ⟨fun h=>(by cases h),fun h=>absurd h hf⟩ (by omega)) (fun v4 w4 HR4 => ?_)
 obtain ⟨rfl,HS⟩:=HR4
 refine Lg (.bool true) (fun a ha=>amj (b:=false) (ha.ev rfl)) ?_
 refine Lv (.bool true) (fun a ha=>abE (ha.ev rfl) (ha.ev rfl)) ?_
 refine Lv (.bool true) (fun a ha=>run_move (ha.ev rfl)) ?_
 refine Lp ?_
 refine Lp ?_
 refine Lp ?_
 refine Lv (.bool true) (fun a ha=>ae7 (ha.ev rfl) (ha.ev rfl)) ?_
 refine Lv (.bool true) (fun a ha=>run_move (ha.ev rfl)) ?_
 refine Lp ?_
 refine Lp ?_
 refine Lp ?_
 refine Lp ?_
 refine LpU ?_
 refine LpU ?_
 refine Lp ?_
 refine Lv (.bool true) (fun a ha=>ae7 (ha.ev rfl) (ha.ev rfl)) ?_
 refine jn ?_
 refine JC.acZ rfl ?_
 refine JC.seq ?_
 refine JC.region ?_
 refine Lv abe (fun a ha=>acY.run_build (vs:=[]) (by simp only [List.map_cons,List.map_nil]) bsu bsp ahx rfl) ?_
 refine Lv (.iface 74 (.int .i64 2)) (fun a ha=>a1v (ha.ev rfl) (by kernel_rfl)) ?_
 refine JL.store HS rfl rfl (i:=0) rfl bsm rfl rfl rfl (vs':=abd) rfl rfl (fun w5 HS => ?_)
 refine Lv (.iface 74 (.int .i64 2)) (fun a ha=>run_assign (ha.ev rfl)) ?_
 refine jn ?_
 refine JC.ret (fun a ha => ?_)
 repeat (first | refine aev ?_ | refine aeu ?_)
 refine aff (v:=abe) (v' := .iface 74 (.int .i64 2)) ha Tryz.results108 (.agg rfl bsq bsm (HS.box _ (.head _)) rfl rfl) (.tmp rfl) ⟨_,rfl,?_⟩
 exact ⟨rfl,HS.anp 1 0 rfl rfl⟩
set_option maxHeartbeats 1000000 in
theorem blH (HT:Tz W0) (HB:Tab W0) {l t f b:List UInt8} {neg fd:Bool}  (HS:St W0 U Ps w)  (HX:Mx W0) (ht:Lib.trimPrefix l [45]=t) (hn:Lib.hasPrefix l [45]=neg) (hcut:Lib.cut t [46]=(f,b,fd)) (hl:l.length≤300) (htl:t.length≤300) (hfl:f.length≤300) (hbl:b.length≤300) (h64:l.length≤64) (hf:0 < f.length∧acz f) (hb:¬ (0 < b.length∧acz b)):aba Tryz.prog 108 [.string ⟨l.toArray⟩] w (AnP W0 U Ps (.tuple #[abe,.iface 74 (.int .i64 2)])):=by
 refine ake bte rfl btf rfl ?_
 refine JC.seq ?_
 refine JC.region ?_
 refine JL.alloc (vs:=abd) HS rfl bsp rfl rfl (fun g1 w1 HS => ?_)
 refine Lv (.nilIface) (fun a ha=>run_assign (ha.ev rfl)) ?_
 refine jn ?_
 refine JC.seq ?_
 refine JC.region ?_
 refine Lv (.string ⟨l.toArray⟩) (fun a ha=>run_move (ha.ev rfl)) ?_
 refine JL.call rfl rfl bts (a5g HS ht hn) (fun v2 w2 HR2 => ?_)
 obtain ⟨rfl,HS⟩:=HR2
 refine Lv (.tuple #[.string ⟨t.toArray⟩,.bool neg]) (fun a ha=>run_move (ha.ev rfl)) ?_
 refine Lv (.string ⟨t.toArray⟩) (fun a ha=>aa6 (ha.ev rfl) rfl) ?_
 refine Lv (.bool neg) (fun a ha=>aa6 (ha.ev rfl) rfl) ?_
 refine Lv (.string ⟨t.toArray⟩) (fun a ha=>run_assign (ha.ev rfl)) ?_
 refine Lv (.bool neg) (fun a ha=>run_assign (ha.ev rfl)) ?_
 refine jn ?_
 refine JC.seq ?_
 refine JC.region ?_
 refine Lv (.string ⟨t.toArray⟩) (fun a ha=>run_move (ha.ev rfl)) ?_
 refine JL.call rfl rfl bsB (azq HX HS hcut (by omega)) (fun v3 w3 HR3 => ?_)
 obtain ⟨rfl,HS⟩:=HR3
 refine Lv (.tuple #[.string ⟨f.toArray⟩,.string ⟨b.toArray⟩,.bool fd]) (fun a ha=>run_move (ha.ev rfl)) ?_
 refine Lv (.string ⟨f.toArray⟩) (fun a ha=>aa6 (ha.ev rfl) rfl) ?_
 refine Lv (.string ⟨b.toArray⟩) (fun a ha=>aa6 (ha.ev rfl) rfl) ?_
 refine Lv (.bool fd) (fun a ha=>aa6 (ha.ev rfl) rfl) ?_
 refine Lv (.string ⟨f.toArray⟩) (fun a ha=>run_assign (ha.ev rfl)) ?_
 refine Lv (.string ⟨b.toArray⟩) (fun a ha=>run_assign (ha.ev rfl)) ?_
 refine Lv (.bool fd) (fun a ha=>run_assign (ha.ev rfl)) ?_
 refine jn ?_
 refine JC.seq ?_
 refine JC.seq ?_
 refine JC.region ?_
 refine Lv (.string ⟨l.toArray⟩) (fun a ha=>run_move (ha.ev rfl)) ?_
 refine Lv (.int .i64 (l.length:Int)) (fun a ha=>ae9 (ha.ev rfl) bsn rfl) ?_
 refine Lv (.bool false) (fun a ha=>afd (ha.ev rfl) (ha.ev rfl) (decide_eq_false (by omega))) ?_
 refine Lv (.bool false) (fun a ha=>run_move (ha.ev rfl)) ?_
 refine Lg (.string ⟨f.toArray⟩) (fun a ha=>run_move (ha.ev rfl)) ?_
 refine JL.ajo rfl rfl rfl rfl rfl rfl bsX (a1P HS (b:=true) ⟨fun _=>hf,fun _=>rfl⟩ (by omega)) (fun v4 w4 HR4 => ?_)
 obtain ⟨rfl,HS⟩:=HR4
 refine Lg (.bool false) (fun a ha=>amj (b:=true) (ha.ev rfl)) ?_
 refine Lv (.bool false) (fun a ha=>abE (ha.ev rfl) (ha.ev rfl)) ?_
 refine Lv (.bool false) (fun a ha=>run_move (ha.ev rfl)) ?_
 refine Lg (.string ⟨b.toArray⟩) (fun a ha=>run_move (ha.ev rfl)) ?_
 refine JL.ajo rfl rfl rfl rfl rfl rfl bsX (a1P HS (b:=false) ⟨fun h=>(by cases h),fun h=>absurd h hb⟩ (by omega)) (fun v5 w5 HR5 => ?_)
 obtain ⟨rfl,HS⟩:=HR5
 refine Lg (.bool true) (fun a ha=>amj (b:=false) (ha.ev rfl)) ?_
 refine Lv (.bool true) (fun a ha=>abE (ha.ev rfl) (ha.ev rfl)) ?_
 refine Lv (.bool true) (fun a ha=>run_move (ha.ev rfl)) ?_
 refine Lp ?_
 refine Lp ?_
 refine Lp ?_
 refine Lp ?_
 refine LpU ?_
 refine LpU ?_
 refine Lp ?_
 refine Lv (.bool true) (fun a ha=>ae7 (ha.ev rfl) (ha.ev rfl)) ?_
 refine jn ?_
 refine JC.acZ rfl ?_
 refine JC.seq ?_
 refine JC.region ?_
 refine Lv abe (fun a ha=>acY.run_build (vs:=[]) (by simp only [List.map_cons,List.map_nil]) bsu bsp ahx rfl) ?_
 refine Lv (.iface 74 (.int .i64 2)) (fun a ha=>a1v (ha.ev rfl) (by kernel_rfl)) ?_
 refine JL.store HS rfl rfl (i:=0) rfl bsm rfl rfl rfl (vs':=abd) rfl rfl (fun w6 HS => ?_)
 refine Lv (.iface 74 (.int .i64 2)) (fun a ha=>run_assign (ha.ev rfl)) ?_
 refine jn ?_
 refine JC.ret (fun a ha => ?_)
 repeat (first | refine aev ?_ | refine aeu ?_)
 refine aff (v:=abe) (v' := .iface 74 (.int .i64 2)) ha Tryz.results108 (.agg rfl bsq bsm (HS.box _ (.head _)) rfl rfl) (.tmp rfl) ⟨_,rfl,?_⟩
 exact ⟨rfl,HS.anp 1 0 rfl rfl⟩
set_option maxHeartbeats 1000000 in
theorem blG (HT:Tz W0) (HB:Tab W0) {l t f b:List UInt8} {neg fd:Bool}  (HS:St W0 U Ps w)  (HX:Mx W0) (ht:Lib.trimPrefix l [45]=t) (hn:Lib.hasPrefix l [45]=neg) (hcut:Lib.cut t [46]=(f,b,fd)) (hl:l.length≤300) (htl:t.length≤300) (hfl:f.length≤300) (hbl:b.length≤300) (h64:l.length≤64) (hf:0 < f.length∧acz f) (hb:0 < b.length∧acz b) (h48:f[0]? = some 48) (hne:f≠[48]):aba Tryz.prog 108 [.string ⟨l.toArray⟩] w (AnP W0 U Ps (.tuple #[abe,.iface 74 (.int .i64 2)])):=by
 refine ake bte rfl btf rfl ?_
 refine JC.seq ?_
 refine JC.region ?_
 refine JL.alloc (vs:=abd) HS rfl bsp rfl rfl (fun g1 w1 HS => ?_)
 refine Lv (.nilIface) (fun a ha=>run_assign (ha.ev rfl)) ?_
 refine jn ?_
 refine JC.seq ?_
 refine JC.region ?_
 refine Lv (.string ⟨l.toArray⟩) (fun a ha=>run_move (ha.ev rfl)) ?_
 refine JL.call rfl rfl bts (a5g HS ht hn) (fun v2 w2 HR2 => ?_)
 obtain ⟨rfl,HS⟩:=HR2
 refine Lv (.tuple #[.string ⟨t.toArray⟩,.bool neg]) (fun a ha=>run_move (ha.ev rfl)) ?_
 refine Lv (.string ⟨t.toArray⟩) (fun a ha=>aa6 (ha.ev rfl) rfl) ?_
 refine Lv (.bool neg) (fun a ha=>aa6 (ha.ev rfl) rfl) ?_
 refine Lv (.string ⟨t.toArray⟩) (fun a ha=>run_assign (ha.ev rfl)) ?_
 refine Lv (.bool neg) (fun a ha=>run_assign (ha.ev rfl)) ?_
 refine jn ?_
 refine JC.seq ?_
 refine JC.region ?_
 refine Lv (.string ⟨t.toArray⟩) (fun a ha=>run_move (ha.ev rfl)) ?_
 refine JL.call rfl rfl bsB (azq HX HS hcut (by omega)) (fun v3 w3 HR3 => ?_)
 obtain ⟨rfl,HS⟩:=HR3
 refine Lv (.tuple #[.string ⟨f.toArray⟩,.string ⟨b.toArray⟩,.bool fd]) (fun a ha=>run_move (ha.ev rfl)) ?_
 refine Lv (.string ⟨f.toArray⟩) (fun a ha=>aa6 (ha.ev rfl) rfl) ?_
 refine Lv (.string ⟨b.toArray⟩) (fun a ha=>aa6 (ha.ev rfl) rfl) ?_
 refine Lv (.bool fd) (fun a ha=>aa6 (ha.ev rfl) rfl) ?_
 refine Lv (.string ⟨f.toArray⟩) (fun a ha=>run_assign (ha.ev rfl)) ?_
 refine Lv (.string ⟨b.toArray⟩) (fun a ha=>run_assign (ha.ev rfl)) ?_
 refine Lv (.bool fd) (fun a ha=>run_assign (ha.ev rfl)) ?_
 refine jn ?_
 refine JC.seq ?_
 refine JC.seq ?_
 refine JC.region ?_
 refine Lv (.string ⟨l.toArray⟩) (fun a ha=>run_move (ha.ev rfl)) ?_
 refine Lv (.int .i64 (l.length:Int)) (fun a ha=>ae9 (ha.ev rfl) bsn rfl) ?_
 refine Lv (.bool false) (fun a ha=>afd (ha.ev rfl) (ha.ev rfl) (decide_eq_false (by omega))) ?_
 refine Lv (.bool false) (fun a ha=>run_move (ha.ev rfl)) ?_
 refine Lg (.string ⟨f.toArray⟩) (fun a ha=>run_move (ha.ev rfl)) ?_
 refine JL.ajo rfl rfl rfl rfl rfl rfl bsX (a1P HS (b:=true) ⟨fun _=>hf,fun _=>rfl⟩ (by omega)) (fun v4 w4 HR4 => ?_)
 obtain ⟨rfl,HS⟩:=HR4
 refine Lg (.bool false) (fun a ha=>amj (b:=true) (ha.ev rfl)) ?_
 refine Lv (.bool false) (fun a ha=>abE (ha.ev rfl) (ha.ev rfl)) ?_
 refine Lv (.bool false) (fun a ha=>run_move (ha.ev rfl)) ?_
 refine Lg (.string ⟨b.toArray⟩) (fun a ha=>run_move (ha.ev rfl)) ?_
 refine JL.ajo rfl rfl rfl rfl rfl rfl bsX (a1P HS (b:=true) ⟨fun _=>hb,fun _=>rfl⟩ (by omega)) (fun v5 w5 HR5 => ?_)
 obtain ⟨rfl,HS⟩:=HR5
 refine Lg (.bool false) (fun a ha=>amj (b:=true) (ha.ev rfl)) ?_
 refine Lv (.bool false) (fun a ha=>abE (ha.ev rfl) (ha.ev rfl)) ?_
 refine Lv (.bool false) (fun a ha=>run_move (ha.ev rfl)) ?_
 refine Lg (.string ⟨f.toArray⟩) (fun a ha=>run_move (ha.ev rfl)) ?_
 refine Lg (.int .u8 48) (fun a ha=>afD (ha.ev rfl) (ha.ev rfl) bsn rfl h48 rfl) ?_
 refine Lg (.bool true) (fun a ha=>aj6 (ha.ev rfl) (ha.ev rfl) (by decide)) ?_
 refine Lg (.bool true) (fun a ha=>run_move (ha.ev rfl)) ?_
 refine Lg (.string ⟨f.toArray⟩) (fun a ha=>run_move (ha.ev rfl)) ?_
 refine Lg (.bool true) (fun a ha=>a8o (ha.ev rfl) (ha.ev rfl) (by simpa using hne)) ?_
 refine Lg (.bool true) (fun a ha=>ae7 (ha.ev rfl) (ha.ev rfl)) ?_
 refine Lv (.bool true) (fun a ha=>abE (ha.ev rfl) (ha.ev rfl)) ?_
 refine jn ?_
 refine JC.acZ rfl ?_
 refine JC.seq ?_
 refine JC.region ?_
 refine Lv abe (fun a ha=>acY.run_build (vs:=[]) (by simp only [List.map_cons,List.map_nil]) bsu bsp ahx rfl) ?_
 refine Lv (.iface 74 (.int .i64 2)) (fun a ha=>a1v (ha.ev rfl) (by kernel_rfl)) ?_
 refine JL.store HS rfl rfl (i:=0) rfl bsm rfl rfl rfl (vs':=abd) rfl rfl (fun w6 HS => ?_)
 refine Lv (.iface 74 (.int .i64 2)) (fun a ha=>run_assign (ha.ev rfl)) ?_
 refine jn ?_
 refine JC.ret (fun a ha => ?_)
 repeat (first | refine aev ?_ | refine aeu ?_)
 refine aff (v:=abe) (v' := .iface 74 (.int .i64 2)) ha Tryz.results108 (.agg rfl bsq bsm (HS.box _ (.head _)) rfl rfl) (.tmp rfl) ⟨_,rfl,?_⟩
 exact ⟨rfl,HS.anp 1 0 rfl rfl⟩
set_option maxHeartbeats 1000000 in
theorem blM (HT:Tz W0) (HB:Tab W0) {l t f b:List UInt8} {neg fd:Bool}  (HS:St W0 U Ps w)  (HX:Mx W0) (ht:Lib.trimPrefix l [45]=t) (hn:Lib.hasPrefix l [45]=neg) (hcut:Lib.cut t [46]=(f,b,fd)) (hl:l.length≤300) (htl:t.length≤300) (hfl:f.length≤300) (hbl:b.length≤300) (h64:l.length≤64) (hf:0 < f.length∧acz f) (hb:0 < b.length∧acz b) (hfb:f.length+b.length≤64) (hfe:f=[48]):aba Tryz.prog 108 [.string ⟨l.toArray⟩] w (aj8 W0 U Ps (if neg=true then -(Rat.divInt (aan (f++b):Int) ((10:Int) ^ b.length)) else Rat.divInt (aan (f++b):Int) ((10:Int) ^ b.length)) 900 (.nilIface)):=by
 have hfd:acz (f++b):=fun x hx=>(List.mem_append.1 hx).elim (hf.2 x) (hb.2 x)
 have bjQ:(f++b).length≤64:=by rw [List.length_append]; omega
 refine ake bte rfl btf rfl ?_
 refine JC.seq ?_
 refine JC.region ?_
 refine JL.alloc (vs:=abd) HS rfl bsp rfl rfl (fun g1 w1 HS => ?_)
 refine Lv (.nilIface) (fun a ha=>run_assign (ha.ev rfl)) ?_
 refine jn ?_
 refine JC.seq ?_
 refine JC.region ?_
 refine Lv (.string ⟨l.toArray⟩) (fun a ha=>run_move (ha.ev rfl)) ?_
 refine JL.call rfl rfl bts (a5g HS ht hn) (fun v2 w2 HR2 => ?_)
 obtain ⟨rfl,HS⟩:=HR2
 refine Lv (.tuple #[.string ⟨t.toArray⟩,.bool neg]) (fun a ha=>run_move (ha.ev rfl)) ?_
 refine Lv (.string ⟨t.toArray⟩) (fun a ha=>aa6 (ha.ev rfl) rfl) ?_
 refine Lv (.bool neg) (fun a ha=>aa6 (ha.ev rfl) rfl) ?_
 refine Lv (.string ⟨t.toArray⟩) (fun a ha=>run_assign (ha.ev rfl)) ?_
 refine Lv (.bool neg) (fun a ha=>run_assign (ha.ev rfl)) ?_
 refine jn ?_
 refine JC.seq ?_
 refine JC.region ?_
 refine Lv (.string ⟨t.toArray⟩) (fun a ha=>run_move (ha.ev rfl)) ?_
 refine JL.call rfl rfl bsB (azq HX HS hcut (by omega)) (fun v3 w3 HR3 => ?_)
 obtain ⟨rfl,HS⟩:=HR3
 refine Lv (.tuple #[.string ⟨f.toArray⟩,.string ⟨b.toArray⟩,.bool fd]) (fun a ha=>run_move (ha.ev rfl)) ?_
 refine Lv (.string ⟨f.toArray⟩) (fun a ha=>aa6 (ha.ev rfl) rfl) ?_
 refine Lv (.string ⟨b.toArray⟩) (fun a ha=>aa6 (ha.ev rfl) rfl) ?_
 refine Lv (.bool fd) (fun a ha=>aa6 (ha.ev rfl) rfl) ?_
 refine Lv (.string ⟨f.toArray⟩) (fun a ha=>run_assign (ha.ev rfl)) ?_
 refine Lv (.string ⟨b.toArray⟩) (fun a ha=>run_assign (ha.ev rfl)) ?_
 refine Lv (.bool fd) (fun a ha=>run_assign (ha.ev rfl)) ?_
 refine jn ?_
 refine JC.seq ?_
 refine JC.seq ?_
 refine JC.region ?_
 refine Lv (.string ⟨l.toArray⟩) (fun a ha=>run_move (ha.ev rfl)) ?_
 refine Lv (.int .i64 (l.length:Int)) (fun a ha=>ae9 (ha.ev rfl) bsn rfl) ?_
 refine Lv (.bool false) (fun a ha=>afd (ha.ev rfl) (ha.ev rfl) (decide_eq_false (by omega))) ?_
 refine Lv (.bool false) (fun a ha=>run_move (ha.ev rfl)) ?_
 refine Lg (.string ⟨f.toArray⟩) (fun a ha=>run_move (ha.ev rfl)) ?_
 refine JL.ajo rfl rfl rfl rfl rfl rfl bsX (a1P HS (b:=true) ⟨fun _=>hf,fun _=>rfl⟩ (by omega)) (fun v4 w4 HR4 => ?_)
 obtain ⟨rfl,HS⟩:=HR4
 refine Lg (.bool false) (fun a ha=>amj (b:=true) (ha.ev rfl)) ?_
 refine Lv (.bool false) (fun a ha=>abE (ha.ev rfl) (ha.ev rfl)) ?_
 refine Lv (.bool false) (fun a ha=>run_move (ha.ev rfl)) ?_
 refine Lg (.string ⟨b.toArray⟩) (fun a ha=>run_move (ha.ev rfl)) ?_
 refine JL.ajo rfl rfl rfl rfl rfl rfl bsX (a1P HS (b:=true) ⟨fun _=>hb,fun _=>rfl⟩ (by omega)) (fun v5 w5 HR5 => ?_)
 obtain ⟨rfl,HS⟩:=HR5
 refine Lg (.bool false) (fun a ha=>amj (b:=true) (ha.ev rfl)) ?_
 refine Lv (.bool false) (fun a ha=>abE (ha.ev rfl) (ha.ev rfl)) ?_
 refine Lv (.bool false) (fun a ha=>run_move (ha.ev rfl)) ?_
 refine Lg (.string ⟨f.toArray⟩) (fun a ha=>run_move (ha.ev rfl)) ?_
 refine Lg (.int .u8 48) (fun a ha=>afD (ha.ev rfl) (ha.ev rfl) bsn rfl (by rw [hfe]; rfl) rfl) ?_
 refine Lg (.bool true) (fun a ha=>aj6 (ha.ev rfl) (ha.ev rfl) (by decide)) ?_
 refine Lg (.bool true) (fun a ha=>run_move (ha.ev rfl)) ?_
 refine Lg (.string ⟨f.toArray⟩) (fun a ha=>run_move (ha.ev rfl)) ?_
 refine Lg (.bool false) (fun a ha=>a8o (ha.ev rfl) (ha.ev rfl) (bhl hfe)) ?_
 refine Lg (.bool false) (fun a ha=>ae7 (ha.ev rfl) (ha.ev rfl)) ?_
 refine Lv (.bool false) (fun a ha=>abE (ha.ev rfl) (ha.ev rfl)) ?_
 refine jn ?_
 refine JC.abl rfl ?_
 refine JC.abu (fun _ _ h=>h) ?_
 refine JC.seq ?_
 refine JC.region ?_
 refine Lv (.string ⟨f.toArray⟩) (fun a ha=>run_move (ha.ev rfl)) ?_
 refine Lv (.string ⟨b.toArray⟩) (fun a ha=>run_move (ha.ev rfl)) ?_
 refine Lv (.string ⟨(f++b).toArray⟩) (fun a ha=>a8n (ha.ev rfl) (ha.ev rfl) (by omega) rfl) ?_
 refine JL.call rfl rfl Tryz.call175 (bd' HT HB HS hfd (by omega)) (fun v6 w6 HR6 => ?_)
 obtain ⟨s6,A6,n6,c6,rfl,HS⟩:=HR6
 refine JL.call rfl rfl btp (a4I HT HB HS  (by decide) (by decide)) (fun v7 w7 HR7 => ?_)
 obtain ⟨s7,A7,n7,c7,rfl,HS⟩:=HR7
 refine Lv (.string ⟨b.toArray⟩) (fun a ha=>run_move (ha.ev rfl)) ?_
 refine Lv (.int .i64 (b.length:Int)) (fun a ha=>ae9 (ha.ev rfl) bsn rfl) ?_
 refine JL.call rfl rfl Tryz.call87 (bew HT HB HS (m2:=b.length) (HS.at_ 0 rfl) (by omega) (by omega)) (fun v8 w8 HR8 => ?_)
 obtain ⟨s8,A8,n8,c8,rfl,HS⟩:=HR8
 refine JL.call rfl rfl Tryz.call89 (beD HT HB HS (HS.at_ 2 rfl) (HS.at_ 0 rfl) (by omega) (Int.pow_pos (by decide))) (fun v9 w9 HR9 => ?_)
 obtain ⟨s9,A9,n9,c9,B9,m9,d9,rfl,HS⟩:=HR9
 refine JL.alloc (vs:=abd) HS rfl bsp rfl rfl (fun g10 w10 HS => ?_)
 refine JL.store HS rfl rfl (i:=0) rfl bsm rfl rfl rfl (vs':=(btU s9 A9 n9 c9 B9 m9 d9)) rfl rfl (fun w11 HS => ?_)
 refine jn ?_
 refine JC.seq ?_
 refine JC.seq ?_
 refine JC.region ?_
 refine Lv (.bool neg) (fun a ha=>run_move (ha.ev rfl)) ?_
 refine jn ?_
 cases neg
 ·skip
  refine JC.abl rfl ?_
  refine JC.abu (fun _ _ h=>h) ?_
  refine JC.seq ?_
  refine JC.region ?_
  refine JL.load (btT s9 A9 n9 c9 B9 m9 d9) HS 0 rfl rfl rfl bsq bsm rfl rfl ?_
  refine JL.store HS rfl rfl (i:=1) rfl bsm rfl rfl rfl (vs':=(btU s9 A9 n9 c9 B9 m9 d9)) rfl rfl (fun w13 HS => ?_)
  refine Lv (.nilIface) (fun a ha=>run_assign (ha.ev rfl)) ?_
  refine jn ?_
  refine JC.ret (fun a ha => ?_)
  repeat (first | refine aev ?_ | refine aeu ?_)
  refine aff (v:=(btT s9 A9 n9 c9 B9 m9 d9)) (v' := .nilIface) ha Tryz.results108 (.agg rfl bsq bsm (HS.box _ (.tail _ (.head _))) rfl rfl) (.tmp rfl) ⟨_,rfl,?_⟩
  exact ⟨_,_,_,_,_,_,_,rfl,HS.out 2 4 0 rfl rfl rfl (fun _ h=>h.as ((if_neg (by decide)).symm) (by omega))⟩
 ·skip
  refine JC.acZ rfl ?_
  refine JC.region ?_
  refine JL.load (btT s9 A9 n9 c9 B9 m9 d9) HS 0 rfl rfl rfl bsq bsm rfl rfl ?_
  refine JL.call rfl rfl Tryz.call145 (bd5 HT HB HS (HS.at_ 0 rfl) (by omega)) (fun v14 w14 a5L => ?_)
  obtain ⟨s14,A14,n14,c14,B14,m14,d14,rfl,HS⟩:=a5L
  refine JL.store HS rfl rfl (i:=0) rfl bsm rfl rfl rfl (vs':=(btU s14 A14 n14 c14 B14 m14 d14)) rfl rfl (fun w15 HS => ?_)
  refine jn ?_
  refine JC.seq ?_
  refine JC.region ?_
  refine JL.load (btT s14 A14 n14 c14 B14 m14 d14) HS 0 rfl rfl rfl bsq bsm rfl rfl ?_
  refine JL.store HS rfl rfl (i:=1) rfl bsm rfl rfl rfl (vs':=(btU s14 A14 n14 c14 B14 m14 d14)) rfl rfl (fun w16 HS => ?_)
  refine Lv (.nilIface) (fun a ha=>run_assign (ha.ev rfl)) ?_
  refine jn ?_
  refine JC.ret (fun a ha => ?_)
  repeat (first | refine aev ?_ | refine aeu ?_)
  refine aff (v:=(btT s14 A14 n14 c14 B14 m14 d14)) (v' := .nilIface) ha Tryz.results108 (.agg rfl bsq bsm (HS.box _ (.tail _ (.head _))) rfl rfl) (.tmp rfl) ⟨_,rfl,?_⟩
  exact ⟨_,_,_,_,_,_,_,rfl,HS.out 2 5 0 rfl rfl rfl (fun _ h=>h.as ((if_pos rfl).symm) (by omega))⟩
set_option maxHeartbeats 1000000 in
theorem blL (HT:Tz W0) (HB:Tab W0) {l t f b:List UInt8} {neg fd:Bool} {x0:UInt8}  (HS:St W0 U Ps w)  (HX:Mx W0) (ht:Lib.trimPrefix l [45]=t) (hn:Lib.hasPrefix l [45]=neg) (hcut:Lib.cut t [46]=(f,b,fd)) (hl:l.length≤300) (htl:t.length≤300) (hfl:f.length≤300) (hbl:b.length≤300) (h64:l.length≤64) (hf:0 < f.length∧acz f) (hb:0 < b.length∧acz b) (hfb:f.length+b.length≤64) (hx0:f[0]? = some x0) (bkd:x0.toNat≠48):aba Tryz.prog 108 [.string ⟨l.toArray⟩] w (aj8 W0 U Ps (if neg=true then -(Rat.divInt (aan (f++b):Int) ((10:Int) ^ b.length)) else Rat.divInt (aan (f++b):Int) ((10:Int) ^ b.length)) 900 (.nilIface)):=by
 have hfd:acz (f++b):=fun x hx=>(List.mem_append.1 hx).elim (hf.2 x) (hb.2 x)
 have bjQ:(f++b).length≤64:=by rw [List.length_append]; omega
 refine ake bte rfl btf rfl ?_
 refine JC.seq ?_
 refine JC.region ?_
 refine JL.alloc (vs:=abd) HS rfl bsp rfl rfl (fun g1 w1 HS => ?_)
 refine Lv (.nilIface) (fun a ha=>run_assign (ha.ev rfl)) ?_
 refine jn ?_
 refine JC.seq ?_
 refine JC.region ?_
 refine Lv (.string ⟨l.toArray⟩) (fun a ha=>run_move (ha.ev rfl)) ?_
 refine JL.call rfl rfl bts (a5g HS ht hn) (fun v2 w2 HR2 => ?_)
 obtain ⟨rfl,HS⟩:=HR2
 refine Lv (.tuple #[.string ⟨t.toArray⟩,.bool neg]) (fun a ha=>run_move (ha.ev rfl)) ?_
 refine Lv (.string ⟨t.toArray⟩) (fun a ha=>aa6 (ha.ev rfl) rfl) ?_
 refine Lv (.bool neg) (fun a ha=>aa6 (ha.ev rfl) rfl) ?_
 refine Lv (.string ⟨t.toArray⟩) (fun a ha=>run_assign (ha.ev rfl)) ?_
 refine Lv (.bool neg) (fun a ha=>run_assign (ha.ev rfl)) ?_
 refine jn ?_
 refine JC.seq ?_
 refine JC.region ?_
 refine Lv (.string ⟨t.toArray⟩) (fun a ha=>run_move (ha.ev rfl)) ?_
 refine JL.call rfl rfl bsB (azq HX HS hcut (by omega)) (fun v3 w3 HR3 => ?_)
 obtain ⟨rfl,HS⟩:=HR3
 refine Lv (.tuple #[.string ⟨f.toArray⟩,.string ⟨b.toArray⟩,.bool fd]) (fun a ha=>run_move (ha.ev rfl)) ?_
 refine Lv (.string ⟨f.toArray⟩) (fun a ha=>aa6 (ha.ev rfl) rfl) ?_
 refine Lv (.string ⟨b.toArray⟩) (fun a ha=>aa6 (ha.ev rfl) rfl) ?_
 refine Lv (.bool fd) (fun a ha=>aa6 (ha.ev rfl) rfl) ?_
 refine Lv (.string ⟨f.toArray⟩) (fun a ha=>run_assign (ha.ev rfl)) ?_
 refine Lv (.string ⟨b.toArray⟩) (fun a ha=>run_assign (ha.ev rfl)) ?_
 refine Lv (.bool fd) (fun a ha=>run_assign (ha.ev rfl)) ?_
 refine jn ?_
 refine JC.seq ?_
 refine JC.seq ?_
 refine JC.region ?_
 refine Lv (.string ⟨l.toArray⟩) (fun a ha=>run_move (ha.ev rfl)) ?_
 refine Lv (.int .i64 (l.length:Int)) (fun a ha=>ae9 (ha.ev rfl) bsn rfl) ?_
 refine Lv (.bool false) (fun a ha=>afd (ha.ev rfl) (ha.ev rfl) (decide_eq_false (by omega))) ?_
 refine Lv (.bool false) (fun a ha=>run_move (ha.ev rfl)) ?_
 refine Lg (.string ⟨f.toArray⟩) (fun a ha=>run_move (ha.ev rfl)) ?_
 refine JL.ajo rfl rfl rfl rfl rfl rfl bsX (a1P HS (b:=true) ⟨fun _=>hf,fun _=>rfl⟩ (by omega)) (fun v4 w4 HR4 => ?_)
 obtain ⟨rfl,HS⟩:=HR4
 refine Lg (.bool false) (fun a ha=>amj (b:=true) (ha.ev rfl)) ?_
 refine Lv (.bool false) (fun a ha=>abE (ha.ev rfl) (ha.ev rfl)) ?_
 refine Lv (.bool false) (fun a ha=>run_move (ha.ev rfl)) ?_
 refine Lg (.string ⟨b.toArray⟩) (fun a ha=>run_move (ha.ev rfl)) ?_
 refine JL.ajo rfl rfl rfl rfl rfl rfl bsX (a1P HS (b:=true) ⟨fun _=>hb,fun _=>rfl⟩ (by omega)) (fun v5 w5 HR5 => ?_)
 obtain ⟨rfl,HS⟩:=HR5
 refine Lg (.bool false) (fun a ha=>amj (b:=true) (ha.ev rfl)) ?_
 refine Lv (.bool false) (fun a ha=>abE (ha.ev rfl) (ha.ev rfl)) ?_
 refine Lv (.bool false) (fun a ha=>run_move (ha.ev rfl)) ?_
 refine Lg (.string ⟨f.toArray⟩) (fun a ha=>run_move (ha.ev rfl)) ?_
 refine Lg (.int .u8 (x0.toNat:Int)) (fun a ha=>afD (ha.ev rfl) (ha.ev rfl) bsn rfl hx0 rfl) ?_
 refine Lg (.bool false) (fun a ha=>aj6 (ha.ev rfl) (ha.ev rfl) (bk5 bkd)) ?_
 refine Lg (.bool false) (fun a ha=>run_move (ha.ev rfl)) ?_
 refine Lp ?_
 refine Lp ?_
 refine Lg (.bool false) (fun a ha=>abE (ha.ev rfl) (ha.ev rfl)) ?_
 refine Lv (.bool false) (fun a ha=>abE (ha.ev rfl) (ha.ev rfl)) ?_
 refine jn ?_
 refine JC.abl rfl ?_
 refine JC.abu (fun _ _ h=>h) ?_
 refine JC.seq ?_
 refine JC.region ?_
 refine Lv (.string ⟨f.toArray⟩) (fun a ha=>run_move (ha.ev rfl)) ?_
 refine Lv (.string ⟨b.toArray⟩) (fun a ha=>run_move (ha.ev rfl)) ?_
 refine Lv (.string ⟨(f++b).toArray⟩) (fun a ha=>a8n (ha.ev rfl) (ha.ev rfl) (by omega) rfl) ?_
 refine JL.call rfl rfl Tryz.call175 (bd' HT HB HS hfd (by omega)) (fun v6 w6 HR6 => ?_)
 obtain ⟨s6,A6,n6,c6,rfl,HS⟩:=HR6
 refine JL.call rfl rfl btp (a4I HT HB HS  (by decide) (by decide)) (fun v7 w7 HR7 => ?_)
 obtain ⟨s7,A7,n7,c7,rfl,HS⟩:=HR7
 refine Lv (.string ⟨b.toArray⟩) (fun a ha=>run_move (ha.ev rfl)) ?_
 refine Lv (.int .i64 (b.length:Int)) (fun a ha=>ae9 (ha.ev rfl) bsn rfl) ?_
 refine JL.call rfl rfl Tryz.call87 (bew HT HB HS (m2:=b.length) (HS.at_ 0 rfl) (by omega) (by omega)) (fun v8 w8 HR8 => ?_)
 obtain ⟨s8,A8,n8,c8,rfl,HS⟩:=HR8
 refine JL.call rfl rfl Tryz.call89 (beD HT HB HS (HS.at_ 2 rfl) (HS.at_ 0 rfl) (by omega) (Int.pow_pos (by decide))) (fun v9 w9 HR9 => ?_)
 obtain ⟨s9,A9,n9,c9,B9,m9,d9,rfl,HS⟩:=HR9
 refine JL.alloc (vs:=abd) HS rfl bsp rfl rfl (fun g10 w10 HS => ?_)
 refine JL.store HS rfl rfl (i:=0) rfl bsm rfl rfl rfl (vs':=(btU s9 A9 n9 c9 B9 m9 d9)) rfl rfl (fun w11 HS => ?_)
 refine jn ?_
 refine JC.seq ?_
 refine JC.seq ?_
 refine JC.region ?_
 refine Lv (.bool neg) (fun a ha=>run_move (ha.ev rfl)) ?_
 refine jn ?_
 cases neg
 ·skip
  refine JC.abl rfl ?_
  refine JC.abu (fun _ _ h=>h) ?_
  refine JC.seq ?_
  refine JC.region ?_
  refine JL.load (btT s9 A9 n9 c9 B9 m9 d9) HS 0 rfl rfl rfl bsq bsm rfl rfl ?_
  refine JL.store HS rfl rfl (i:=1) rfl bsm rfl rfl rfl (vs':=(btU s9 A9 n9 c9 B9 m9 d9)) rfl rfl (fun w13 HS => ?_)
  refine Lv (.nilIface) (fun a ha=>run_assign (ha.ev rfl)) ?_
  refine jn ?_
  refine JC.ret (fun a ha => ?_)
  repeat (first | refine aev ?_ | refine aeu ?_)
  refine aff (v:=(btT s9 A9 n9 c9 B9 m9 d9)) (v' := .nilIface) ha Tryz.results108 (.agg rfl bsq bsm (HS.box _ (.tail _ (.head _))) rfl rfl) (.tmp rfl) ⟨_,rfl,?_⟩
  exact ⟨_,_,_,_,_,_,_,rfl,HS.out 2 4 0 rfl rfl rfl (fun _ h=>h.as ((if_neg (by decide)).symm) (by omega))⟩
 ·skip
  refine JC.acZ rfl ?_
  refine JC.region ?_
  refine JL.load (btT s9 A9 n9 c9 B9 m9 d9) HS 0 rfl rfl rfl bsq bsm rfl rfl ?_
  refine JL.call rfl rfl Tryz.call145 (bd5 HT HB HS (HS.at_ 0 rfl) (by omega)) (fun v14 w14 a5L => ?_)
  obtain ⟨s14,A14,n14,c14,B14,m14,d14,rfl,HS⟩:=a5L
  refine JL.store HS rfl rfl (i:=0) rfl bsm rfl rfl rfl (vs':=(btU s14 A14 n14 c14 B14 m14 d14)) rfl rfl (fun w15 HS => ?_)
  refine jn ?_
  refine JC.seq ?_
  refine JC.region ?_
  refine JL.load (btT s14 A14 n14 c14 B14 m14 d14) HS 0 rfl rfl rfl bsq bsm rfl rfl ?_
  refine JL.store HS rfl rfl (i:=1) rfl bsm rfl rfl rfl (vs':=(btU s14 A14 n14 c14 B14 m14 d14)) rfl rfl (fun w16 HS => ?_)
  refine Lv (.nilIface) (fun a ha=>run_assign (ha.ev rfl)) ?_
  refine jn ?_
  refine JC.ret (fun a ha => ?_)
  repeat (first | refine aev ?_ | refine aeu ?_)
  refine aff (v:=(btT s14 A14 n14 c14 B14 m14 d14)) (v' := .nilIface) ha Tryz.results108 (.agg rfl bsq bsm (HS.box _ (.tail _ (.head _))) rfl rfl) (.tmp rfl) ⟨_,rfl,?_⟩
  exact ⟨_,_,_,_,_,_,_,rfl,HS.out 2 5 0 rfl rfl rfl (fun _ h=>h.as ((if_pos rfl).symm) (by omega))⟩
end
end Go.Proofs.YtbihljnjaondcaaGreatDoor
