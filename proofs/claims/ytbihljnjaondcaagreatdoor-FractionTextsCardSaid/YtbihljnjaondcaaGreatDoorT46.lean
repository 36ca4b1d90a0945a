/- Part of a proof, said shortly. -/
import Derived.Test.YtbihljnjaondcaaGreatDoorAlt
import Derived.Test.YtbihljnjaondcaaGreatDoorT45
import Derived.Test.YtbihljnjaondcaaGreatDoorT33
import Derived.Test.YtbihljnjaondcaaGreatDoorT32
import Derived.Test.YtbihljnjaondcaaGreatDoorT31
import Derived.Test.YtbihljnjaondcaaGreatDoorT43
import Derived.Test.YtbihljnjaondcaaGreatDoorT41
import Derived.Test.YtbihljnjaondcaaGreatDoorT40
import Derived.Test.YtbihljnjaondcaaGreatDoorT34
import Derived.Test.YtbihljnjaondcaaGreatDoorT29
import Derived.Test.YtbihljnjaondcaaGreatDoorT28
import Derived.Test.YtbihljnjaondcaaGreatDoorT26
import Derived.Test.YtbihljnjaondcaaGreatDoorT25
import Derived.Test.YtbihljnjaondcaaGreatDoorT24
import Derived.Test.YtbihljnjaondcaaGreatDoorT23
import Derived.Test.YtbihljnjaondcaaGreatDoorT22
import Derived.Test.YtbihljnjaondcaaGreatDoorT21
import Derived.Test.YtbihljnjaondcaaGreatDoorT20
import Derived.Test.YtbihljnjaondcaaGreatDoorT14
import Derived.Test.YtbihljnjaondcaaGreatDoorT4
import Derived.Test.YtbihljnjaondcaaGreatDoorT3
import Derived.Test.YtbihljnjaondcaaGreatDoorT2
import Derived.Test.YtbihljnjaondcaaGreatDoorT1
import Derived.Test.YtbihljnjaondcaaGreatDoorT13
import Derived.Test.YtbihljnjaondcaaGreatDoorT9
import Derived.Test.YtbihljnjaondcaaGreatDoorT8
import Derived.Test.YtbihljnjaondcaaGreatDoorT6
import Derived.Test.YtbihljnjaondcaaGreatDoorT5
import Derived.Test.YtbihljnjaondcaaGreatDoorT7
import Derived.Test.YtbihljnjaondcaaGreatDoorT19
import Derived.Test.YtbihljnjaondcaaGreatDoorT18
import Derived.Test.YtbihljnjaondcaaGreatDoorT16
import Derived.Test.YtbihljnjaondcaaGreatDoorT15
import Derived.Test.YtbihljnjaondcaaGreatDoorT17
import Derived.Test.YtbihljnjaondcaaGreatDoorT10
import Derived.Test.YtbihljnjaondcaaGreatDoorT11
import Derived.Test.YtbihljnjaondcaaGreatDoorT12
import Derived.Test.YtbihljnjaondcaaGreatDoorT27
import Derived.Test.YtbihljnjaondcaaGreatDoorT39
import Derived.Test.YtbihljnjaondcaaGreatDoorT38
import Derived.Test.YtbihljnjaondcaaGreatDoorT35
import Derived.Test.YtbihljnjaondcaaGreatDoorT37
import Derived.Test.YtbihljnjaondcaaGreatDoorT36
import Derived.Test.YtbihljnjaondcaaGreatDoorT42
import Derived.Test.YtbihljnjaondcaaGreatDoorT44
set_option maxRecDepth 100000
open Go.Proofs.YtbihljnjaondcaaGreatDoor (btT btU btV btW abe abd bq6 bq5 iy0)
set_option linter.unusedVariables false
set_option linter.unusedSimpArgs false
namespace Go.Proofs.YtbihljnjaondcaaGreatDoor
open Go Go.RowKit Lw acY
section
variable {W0 w:World} {U:List Box} {Ps:List (World→Prop)}
set_option maxHeartbeats 1000000 in
theorem bi4 (HT:Tz W0) (HB:Tab W0) {l:List UInt8} {z:Int}  (HS:St W0 U Ps w)  (HX:Mx W0) (hno : ∀ x∈l,x≠46) (hl:l.length≤300) (hcut:Lib.cut l [47]=(l,[],false)) (h:l=Lib.itoa z):aba Tryz.prog 27 [.string ⟨l.toArray⟩] w (aj8 W0 U Ps ((z:Int):Rat) 100 (.nilIface)):=by
 refine ake bsL rfl bsM rfl ?_
 refine JC.seq ?_
 refine JC.region ?_
 refine JL.alloc (vs:=abd) HS rfl bsp rfl rfl (fun g1 w1 HS => ?_)
 refine Lv (.nilIface) (fun a ha=>run_assign (ha.ev rfl)) ?_
 refine jn ?_
 refine JC.seq ?_
 refine JC.seq ?_
 refine JC.region ?_
 refine Lv (.string ⟨l.toArray⟩) (fun a ha=>run_move (ha.ev rfl)) ?_
 refine Lv (.int .i64 (l.length:Int)) (fun a ha=>ae9 (ha.ev rfl) bsn rfl) ?_
 refine Lv (.bool false) (fun a ha=>afd (ha.ev rfl) (ha.ev rfl) (decide_eq_false (by omega))) ?_
 refine jn ?_
 refine JC.abl rfl ?_
 refine JC.abu (fun _ _ h=>h) ?_
 refine JC.seq ?_
 refine JC.seq ?_
 refine JC.region ?_
 refine Lv (.string ⟨l.toArray⟩) (fun a ha=>run_move (ha.ev rfl)) ?_
 refine JL.call rfl rfl btb (a3Z HS hno) (fun v2 w2 HR2 => ?_)
 obtain ⟨rfl,HS⟩:=HR2
 refine jn ?_
 refine JC.abl rfl ?_
 refine JC.abu (fun _ _ h=>h) ?_
 refine JC.seq ?_
 refine JC.region ?_
 refine Lv (.string ⟨l.toArray⟩) (fun a ha=>run_move (ha.ev rfl)) ?_
 refine JL.call rfl rfl bsB (azq HX HS hcut (by omega)) (fun v3 w3 HR3 => ?_)
 obtain ⟨rfl,HS⟩:=HR3
 refine Lv (.tuple #[.string ⟨l.toArray⟩,.string ⟨([]).toArray⟩,.bool false]) (fun a ha=>run_move (ha.ev rfl)) ?_
 refine Lv (.string ⟨l.toArray⟩) (fun a ha=>aa6 (ha.ev rfl) rfl) ?_
 refine Lv (.string ⟨([]).toArray⟩) (fun a ha=>aa6 (ha.ev rfl) rfl) ?_
 refine Lv (.bool false) (fun a ha=>aa6 (ha.ev rfl) rfl) ?_
 refine Lv (.string ⟨l.toArray⟩) (fun a ha=>run_assign (ha.ev rfl)) ?_
 refine Lv (.string ⟨([]).toArray⟩) (fun a ha=>run_assign (ha.ev rfl)) ?_
 refine Lv (.bool false) (fun a ha=>run_assign (ha.ev rfl)) ?_
 refine jn ?_
 refine JC.seq ?_
 refine JC.region ?_
 refine Lv (.string ⟨l.toArray⟩) (fun a ha=>run_move (ha.ev rfl)) ?_
 refine JL.call rfl rfl bsG (a2p HS h (by omega)) (fun v4 w4 HR4 => ?_)
 obtain ⟨s4,A4,n4,c4,rfl,HS⟩:=HR4
 refine Lv (.tuple #[.agg #[.bool s4,.slice A4 n4 c4],.nilIface]) (fun a ha=>run_move (ha.ev rfl)) ?_
 refine Lv (.agg #[.bool s4,.slice A4 n4 c4]) (fun a ha=>aa6 (ha.ev rfl) rfl) ?_
 refine Lv (.nilIface) (fun a ha=>aa6 (ha.ev rfl) rfl) ?_
 refine JL.alloc (vs:=[.bool false,.slice none 0 0]) HS rfl bsv rfl rfl (fun g5 w5 HS => ?_)
 refine JL.store HS rfl rfl (i:=0) rfl bso rfl rfl rfl (vs':=[.bool s4,.slice A4 n4 c4]) rfl rfl (fun w6 HS => ?_)
 refine Lv (.nilIface) (fun a ha=>run_assign (ha.ev rfl)) ?_
 refine jn ?_
 refine JC.seq ?_
 refine JC.seq ?_
 refine JC.region ?_
 refine Lv (.nilIface) (fun a ha=>run_move (ha.ev rfl)) ?_
 refine Lv (.bool false) (fun a ha=>a2z (ha.ev rfl) rfl bsH) ?_
 refine jn ?_
 refine JC.abl rfl ?_
 refine JC.abu (fun _ _ h=>h) ?_
 refine JC.seq ?_
 refine JC.seq ?_
 refine JC.region ?_
 refine Lv (.bool false) (fun a ha=>run_move (ha.ev rfl)) ?_
 refine Lv (.bool true) (fun a ha=>amj (b:=false) (ha.ev rfl)) ?_
 refine jn ?_
 refine JC.acZ rfl ?_
 refine JC.seq ?_
 refine JC.draw HS [3] (by kernel_rfl) (fun w7 HS => ?_)
 refine Da (.agg #[.bool s4,.slice A4 n4 c4]) 0 0 rfl HS.b0 rfl rfl bsr bso ?_
 refine D1c 1 rfl rfl rfl btp (a4I HT HB HS  (by decide) (by decide)) (fun boU bo' a88 => ?_)
 obtain ⟨bnF,bf3,bkZ,bhx,rfl,HS⟩:=a88
 refine ⟨HS.b0,?_⟩
 refine D1c 2 rfl rfl rfl Tryz.call86 (bkz HT HB HS (HS.at_ 1 rfl) (HS.at_ 0 rfl) rfl) (fun boV bpa a9a => ?_)
 obtain ⟨bfi,bbu,bd4,bb6,bby,bdP,bcd,rfl,HS⟩:=a9a
 refine ⟨HS.b0,?_⟩
 refine D1s 3 (btU bfi bbu bd4 bb6 bby bdP bcd) HS 1 rfl rfl rfl rfl bsm (fun _ HS=>⟨(aoq (s:=3) rfl rfl),?_⟩)
 refine Dv (.nilIface) 4 rfl (aoq (s:=3) rfl rfl) (fun a ha w=>run_assign (ha.ev rfl)) ?_
 refine JR.next (by kernel_rfl) (fun _ _ h=>h) ?_
 refine JC.ret (fun a ha => ?_)
 repeat (first | refine aev ?_ | refine aeu ?_)
 refine aff (v:=(btT bfi bbu bd4 bb6 bby bdP bcd)) (v' := .nilIface) ha Tryz.results27 (.agg rfl bsq bsm (HS.box _ (.tail _ (.head _))) rfl rfl) (.tmp rfl) ⟨_,rfl,?_⟩
 exact ⟨_,_,_,_,_,_,_,rfl,HS.out 2 3 0 rfl rfl rfl (fun _ h=>h.as rfl (by omega))⟩
set_option maxHeartbeats 1000000 in
theorem bi5 (HT:Tz W0) (HB:Tab W0) {l:List UInt8}  (HS:St W0 U Ps w)  (HX:Mx W0) (hno : ∀ x∈l,x≠46) (hl:l.length≤300) (hcut:Lib.cut l [47]=(l,[],false)) (h : ∀ z,l≠Lib.itoa z):aba Tryz.prog 27 [.string ⟨l.toArray⟩] w (AnP W0 U Ps (.tuple #[abe,.iface 74 (.int .i64 2)])):=by
 refine ake bsL rfl bsM rfl ?_
 refine JC.seq ?_
 refine JC.region ?_
 refine JL.alloc (vs:=abd) HS rfl bsp rfl rfl (fun g1 w1 HS => ?_)
 refine Lv (.nilIface) (fun a ha=>run_assign (ha.ev rfl)) ?_
 refine jn ?_
 refine JC.seq ?_
 refine JC.seq ?_
 refine JC.region ?_
 refine Lv (.string ⟨l.toArray⟩) (fun a ha=>run_move (ha.ev rfl)) ?_
 refine Lv (.int .i64 (l.length:Int)) (fun a ha=>ae9 (ha.ev rfl) bsn rfl) ?_
 refine Lv (.bool false) (fun a ha=>afd (ha.ev rfl) (ha.ev rfl) (decide_eq_false (by omega))) ?_
 refine jn ?_
 refine JC.abl rfl ?_
 refine JC.abu (fun _ _ h=>h) ?_
 refine JC.seq ?_
 refine JC.seq ?_
 refine JC.region ?_
 refine Lv (.string ⟨l.toArray⟩) (fun a ha=>run_move (ha.ev rfl)) ?_
 refine JL.call rfl rfl btb (a3Z HS hno) (fun v2 w2 HR2 => ?_)
 obtain ⟨rfl,HS⟩:=HR2
 refine jn ?_
 refine JC.abl rfl ?_
 refine JC.abu (fun _ _ h=>h) ?_
 refine JC.seq ?_
 refine JC.region ?_
 refine Lv (.string ⟨l.toArray⟩) (fun a ha=>run_move (ha.ev rfl)) ?_
 refine JL.call rfl rfl bsB (azq HX HS hcut (by omega)) (fun v3 w3 HR3 => ?_)
 obtain ⟨rfl,HS⟩:=HR3
 refine Lv (.tuple #[.string ⟨l.toArray⟩,.string ⟨([]).toArray⟩,.bool false]) (fun a ha=>run_move (ha.ev rfl)) ?_
 refine Lv (.string ⟨l.toArray⟩) (fun a ha=>aa6 (ha.ev rfl) rfl) ?_
 refine Lv (.string ⟨([]).toArray⟩) (fun a ha=>aa6 (ha.ev rfl) rfl) ?_
 refine Lv (.bool false) (fun a ha=>aa6 (ha.ev rfl) rfl) ?_
 refine Lv (.string ⟨l.toArray⟩) (fun a ha=>run_assign (ha.ev rfl)) ?_
 refine Lv (.string ⟨([]).toArray⟩) (fun a ha=>run_assign (ha.ev rfl)) ?_
 refine Lv (.bool false) (fun a ha=>run_assign (ha.ev rfl)) ?_
 refine jn ?_
 refine JC.seq ?_
 refine JC.region ?_
 refine Lv (.string ⟨l.toArray⟩) (fun a ha=>run_move (ha.ev rfl)) ?_
 refine JL.call rfl rfl bsG (bae HS h (by omega)) (fun v4 w4 HR4 => ?_)
 obtain ⟨rfl,HS⟩:=HR4
 refine Lv (.tuple #[.agg #[.bool false,.slice none 0 0],.iface 74 (.int .i64 2)]) (fun a ha=>run_move (ha.ev rfl)) ?_
 refine Lv (.agg #[.bool false,.slice none 0 0]) (fun a ha=>aa6 (ha.ev rfl) rfl) ?_
 refine Lv (.iface 74 (.int .i64 2)) (fun a ha=>aa6 (ha.ev rfl) rfl) ?_
 refine JL.alloc (vs:=[.bool false,.slice none 0 0]) HS rfl bsv rfl rfl (fun g5 w5 HS => ?_)
 refine JL.store HS rfl rfl (i:=0) rfl bso rfl rfl rfl (vs':=[.bool false,.slice none 0 0]) rfl rfl (fun w6 HS => ?_)
 refine Lv (.iface 74 (.int .i64 2)) (fun a ha=>run_assign (ha.ev rfl)) ?_
 refine jn ?_
 refine JC.seq ?_
 refine JC.seq ?_
 refine JC.region ?_
 refine Lv (.iface 74 (.int .i64 2)) (fun a ha=>run_move (ha.ev rfl)) ?_
 refine Lv (.bool true) (fun a ha=>baZ (ha.ev rfl) rfl bsH) ?_
 refine jn ?_
 refine JC.acZ rfl ?_
 refine JC.seq ?_
 refine JC.region ?_
 refine Lv abe (fun a ha=>acY.run_build (vs:=[]) (by simp only [List.map_cons,List.map_nil]) bsu bsp ahx rfl) ?_
 refine Lv (.iface 74 (.int .i64 2)) (fun a ha=>a1v (ha.ev rfl) (by kernel_rfl)) ?_
 refine JL.store HS rfl rfl (i:=1) rfl bsm rfl rfl rfl (vs':=abd) rfl rfl (fun w7 HS => ?_)
 refine Lv (.iface 74 (.int .i64 2)) (fun a ha=>run_assign (ha.ev rfl)) ?_
 refine jn ?_
 refine JC.ret (fun a ha => ?_)
 repeat (first | refine aev ?_ | refine aeu ?_)
 refine aff (v:=abe) (v' := .iface 74 (.int .i64 2)) ha Tryz.results27 (.agg rfl bsq bsm (HS.box _ (.tail _ (.head _))) rfl rfl) (.tmp rfl) ⟨_,rfl,?_⟩
 exact ⟨rfl,HS.anp 2 0 rfl rfl⟩
set_option maxHeartbeats 1000000 in
theorem bi8 (HT:Tz W0) (HB:Tab W0) {l a r:List UInt8}  (HS:St W0 U Ps w)  (HX:Mx W0) (hno : ∀ x∈l,x≠46) (hl:l.length≤300) (hcut:Lib.cut l [47]=(a,r,true)) (hla:a.length≤300) (hlr:r.length≤300) (h : ∀ z,a≠Lib.itoa z):aba Tryz.prog 27 [.string ⟨l.toArray⟩] w (AnP W0 U Ps (.tuple #[abe,.iface 74 (.int .i64 2)])):=by
 refine ake bsL rfl bsM rfl ?_
 refine JC.seq ?_
 refine JC.region ?_
 refine JL.alloc (vs:=abd) HS rfl bsp rfl rfl (fun g1 w1 HS => ?_)
 refine Lv (.nilIface) (fun a ha=>run_assign (ha.ev rfl)) ?_
 refine jn ?_
 refine JC.seq ?_
 refine JC.seq ?_
 refine JC.region ?_
 refine Lv (.string ⟨l.toArray⟩) (fun a ha=>run_move (ha.ev rfl)) ?_
 refine Lv (.int .i64 (l.length:Int)) (fun a ha=>ae9 (ha.ev rfl) bsn rfl) ?_
 refine Lv (.bool false) (fun a ha=>afd (ha.ev rfl) (ha.ev rfl) (decide_eq_false (by omega))) ?_
 refine jn ?_
 refine JC.abl rfl ?_
 refine JC.abu (fun _ _ h=>h) ?_
 refine JC.seq ?_
 refine JC.seq ?_
 refine JC.region ?_
 refine Lv (.string ⟨l.toArray⟩) (fun a ha=>run_move (ha.ev rfl)) ?_
 refine JL.call rfl rfl btb (a3Z HS hno) (fun v2 w2 HR2 => ?_)
 obtain ⟨rfl,HS⟩:=HR2
 refine jn ?_
 refine JC.abl rfl ?_
 refine JC.abu (fun _ _ h=>h) ?_
 refine JC.seq ?_
 refine JC.region ?_
 refine Lv (.string ⟨l.toArray⟩) (fun a ha=>run_move (ha.ev rfl)) ?_
 refine JL.call rfl rfl bsB (azq HX HS hcut (by omega)) (fun v3 w3 HR3 => ?_)
 obtain ⟨rfl,HS⟩:=HR3
 refine Lv (.tuple #[.string ⟨a.toArray⟩,.string ⟨r.toArray⟩,.bool true]) (fun a ha=>run_move (ha.ev rfl)) ?_
 refine Lv (.string ⟨a.toArray⟩) (fun a ha=>aa6 (ha.ev rfl) rfl) ?_
 refine Lv (.string ⟨r.toArray⟩) (fun a ha=>aa6 (ha.ev rfl) rfl) ?_
 refine Lv (.bool true) (fun a ha=>aa6 (ha.ev rfl) rfl) ?_
 refine Lv (.string ⟨a.toArray⟩) (fun a ha=>run_assign (ha.ev rfl)) ?_
 refine Lv (.string ⟨r.toArray⟩) (fun a ha=>run_assign (ha.ev rfl)) ?_
 refine Lv (.bool true) (fun a ha=>run_assign (ha.ev rfl)) ?_
 refine jn ?_
 refine JC.seq ?_
 refine JC.region ?_
 refine Lv (.string ⟨a.toArray⟩) (fun a ha=>run_move (ha.ev rfl)) ?_
 refine JL.call rfl rfl bsG (bae HS h (by omega)) (fun v4 w4 HR4 => ?_)
 obtain ⟨rfl,HS⟩:=HR4
 refine Lv (.tuple #[.agg #[.bool false,.slice none 0 0],.iface 74 (.int .i64 2)]) (fun a ha=>run_move (ha.ev rfl)) ?_
 refine Lv (.agg #[.bool false,.slice none 0 0]) (fun a ha=>aa6 (ha.ev rfl) rfl) ?_
 refine Lv (.iface 74 (.int .i64 2)) (fun a ha=>aa6 (ha.ev rfl) rfl) ?_
 refine JL.alloc (vs:=[.bool false,.slice none 0 0]) HS rfl bsv rfl rfl (fun g5 w5 HS => ?_)
 refine JL.store HS rfl rfl (i:=0) rfl bso rfl rfl rfl (vs':=[.bool false,.slice none 0 0]) rfl rfl (fun w6 HS => ?_)
 refine Lv (.iface 74 (.int .i64 2)) (fun a ha=>run_assign (ha.ev rfl)) ?_
 refine jn ?_
 refine JC.seq ?_
 refine JC.seq ?_
 refine JC.region ?_
 refine Lv (.iface 74 (.int .i64 2)) (fun a ha=>run_move (ha.ev rfl)) ?_
 refine Lv (.bool true) (fun a ha=>baZ (ha.ev rfl) rfl bsH) ?_
 refine jn ?_
 refine JC.acZ rfl ?_
 refine JC.seq ?_
 refine JC.region ?_
 refine Lv abe (fun a ha=>acY.run_build (vs:=[]) (by simp only [List.map_cons,List.map_nil]) bsu bsp ahx rfl) ?_
 refine Lv (.iface 74 (.int .i64 2)) (fun a ha=>a1v (ha.ev rfl) (by kernel_rfl)) ?_
 refine JL.store HS rfl rfl (i:=1) rfl bsm rfl rfl rfl (vs':=abd) rfl rfl (fun w7 HS => ?_)
 refine Lv (.iface 74 (.int .i64 2)) (fun a ha=>run_assign (ha.ev rfl)) ?_
 refine jn ?_
 refine JC.ret (fun a ha => ?_)
 repeat (first | refine aev ?_ | refine aeu ?_)
 refine aff (v:=abe) (v' := .iface 74 (.int .i64 2)) ha Tryz.results27 (.agg rfl bsq bsm (HS.box _ (.tail _ (.head _))) rfl rfl) (.tmp rfl) ⟨_,rfl,?_⟩
 exact ⟨rfl,HS.anp 2 0 rfl rfl⟩
set_option maxHeartbeats 1000000 in
theorem bi2 (HT:Tz W0) (HB:Tab W0) {l a r:List UInt8} {za:Int}  (HS:St W0 U Ps w)  (HX:Mx W0) (hno : ∀ x∈l,x≠46) (hl:l.length≤300) (hcut:Lib.cut l [47]=(a,r,true)) (hla:a.length≤300) (hlr:r.length≤300) (ha:a=Lib.itoa za) (h : ∀ z,r≠Lib.itoa z):aba Tryz.prog 27 [.string ⟨l.toArray⟩] w (AnP W0 U Ps (.tuple #[abe,.iface 74 (.int .i64 2)])):=by
 refine ake bsL rfl bsM rfl ?_
 refine JC.seq ?_
 refine JC.region ?_
 refine JL.alloc (vs:=abd) HS rfl bsp rfl rfl (fun g1 w1 HS => ?_)
 refine Lv (.nilIface) (fun a ha=>run_assign (ha.ev rfl)) ?_
 refine jn ?_
 refine JC.seq ?_
 refine JC.seq ?_
 refine JC.region ?_
 refine Lv (.string ⟨l.toArray⟩) (fun a ha=>run_move (ha.ev rfl)) ?_
 refine Lv (.int .i64 (l.length:Int)) (fun a ha=>ae9 (ha.ev rfl) bsn rfl) ?_
 refine Lv (.bool false) (fun a ha=>afd (ha.ev rfl) (ha.ev rfl) (decide_eq_false (by omega))) ?_
 refine jn ?_
 refine JC.abl rfl ?_
 refine JC.abu (fun _ _ h=>h) ?_
 refine JC.seq ?_
 refine JC.seq ?_
 refine JC.region ?_
 refine Lv (.string ⟨l.toArray⟩) (fun a ha=>run_move (ha.ev rfl)) ?_
 refine JL.call rfl rfl btb (a3Z HS hno) (fun v2 w2 HR2 => ?_)
 obtain ⟨rfl,HS⟩:=HR2
 refine jn ?_
 refine JC.abl rfl ?_
 refine JC.abu (fun _ _ h=>h) ?_
 refine JC.seq ?_
 refine JC.region ?_
 refine Lv (.string ⟨l.toArray⟩) (fun a ha=>run_move (ha.ev rfl)) ?_
 refine JL.call rfl rfl bsB (azq HX HS hcut (by omega)) (fun v3 w3 HR3 => ?_)
 obtain ⟨rfl,HS⟩:=HR3
 refine Lv (.tuple #[.string ⟨a.toArray⟩,.string ⟨r.toArray⟩,.bool true]) (fun a ha=>run_move (ha.ev rfl)) ?_
 refine Lv (.string ⟨a.toArray⟩) (fun a ha=>aa6 (ha.ev rfl) rfl) ?_
 refine Lv (.string ⟨r.toArray⟩) (fun a ha=>aa6 (ha.ev rfl) rfl) ?_
 refine Lv (.bool true) (fun a ha=>aa6 (ha.ev rfl) rfl) ?_
 refine Lv (.string ⟨a.toArray⟩) (fun a ha=>run_assign (ha.ev rfl)) ?_
 refine Lv (.string ⟨r.toArray⟩) (fun a ha=>run_assign (ha.ev rfl)) ?_
 refine Lv (.bool true) (fun a ha=>run_assign (ha.ev rfl)) ?_
 refine jn ?_
 refine JC.seq ?_
 refine JC.region ?_
 refine Lv (.string ⟨a.toArray⟩) (fun a ha=>run_move (ha.ev rfl)) ?_
 refine JL.call rfl rfl bsG (a2p HS ha (by omega)) (fun v4 w4 HR4 => ?_)
 obtain ⟨s4,A4,n4,c4,rfl,HS⟩:=HR4
 refine Lv (.tuple #[.agg #[.bool s4,.slice A4 n4 c4],.nilIface]) (fun a ha=>run_move (ha.ev rfl)) ?_
 refine Lv (.agg #[.bool s4,.slice A4 n4 c4]) (fun a ha=>aa6 (ha.ev rfl) rfl) ?_
 refine Lv (.nilIface) (fun a ha=>aa6 (ha.ev rfl) rfl) ?_
 refine JL.alloc (vs:=[.bool false,.slice none 0 0]) HS rfl bsv rfl rfl (fun g5 w5 HS => ?_)
 refine JL.store HS rfl rfl (i:=0) rfl bso rfl rfl rfl (vs':=[.bool s4,.slice A4 n4 c4]) rfl rfl (fun w6 HS => ?_)
 refine Lv (.nilIface) (fun a ha=>run_assign (ha.ev rfl)) ?_
 refine jn ?_
 refine JC.seq ?_
 refine JC.seq ?_
 refine JC.region ?_
 refine Lv (.nilIface) (fun a ha=>run_move (ha.ev rfl)) ?_
 refine Lv (.bool false) (fun a ha=>a2z (ha.ev rfl) rfl bsH) ?_
 refine jn ?_
 refine JC.abl rfl ?_
 refine JC.abu (fun _ _ h=>h) ?_
 refine JC.seq ?_
 refine JC.seq ?_
 refine JC.region ?_
 refine Lv (.bool true) (fun a ha=>run_move (ha.ev rfl)) ?_
 refine Lv (.bool false) (fun a ha=>amj (b:=true) (ha.ev rfl)) ?_
 refine jn ?_
 refine JC.abl rfl ?_
 refine JC.abu (fun _ _ h=>h) ?_
 refine JC.seq ?_
 refine JC.region ?_
 refine Lv (.string ⟨r.toArray⟩) (fun a ha=>run_move (ha.ev rfl)) ?_
 refine JL.call rfl rfl bsG (bae HS h (by omega)) (fun v7 w7 HR7 => ?_)
 obtain ⟨rfl,HS⟩:=HR7
 refine Lv (.tuple #[.agg #[.bool false,.slice none 0 0],.iface 74 (.int .i64 2)]) (fun a ha=>run_move (ha.ev rfl)) ?_
 refine Lv (.agg #[.bool false,.slice none 0 0]) (fun a ha=>aa6 (ha.ev rfl) rfl) ?_
 refine Lv (.iface 74 (.int .i64 2)) (fun a ha=>aa6 (ha.ev rfl) rfl) ?_
 refine JL.alloc (vs:=[.bool false,.slice none 0 0]) HS rfl bsv rfl rfl (fun g8 w8 HS => ?_)
 refine JL.store HS rfl rfl (i:=0) rfl bso rfl rfl rfl (vs':=[.bool false,.slice none 0 0]) rfl rfl (fun w9 HS => ?_)
 refine Lv (.iface 74 (.int .i64 2)) (fun a ha=>run_assign (ha.ev rfl)) ?_
 refine jn ?_
 refine JC.seq ?_
 refine JC.seq ?_
 refine JC.region ?_
 refine Lv (.iface 74 (.int .i64 2)) (fun a ha=>run_move (ha.ev rfl)) ?_
 refine Lv (.bool true) (fun a ha=>baZ (ha.ev rfl) rfl bsH) ?_
 refine jn ?_
 refine JC.acZ rfl ?_
 refine JC.seq ?_
 refine JC.region ?_
 refine Lv abe (fun a ha=>acY.run_build (vs:=[]) (by simp only [List.map_cons,List.map_nil]) bsu bsp ahx rfl) ?_
 refine Lv (.iface 74 (.int .i64 2)) (fun a ha=>a1v (ha.ev rfl) (by kernel_rfl)) ?_
 refine JL.store HS rfl rfl (i:=2) rfl bsm rfl rfl rfl (vs':=abd) rfl rfl (fun w10 HS => ?_)
 refine Lv (.iface 74 (.int .i64 2)) (fun a ha=>run_assign (ha.ev rfl)) ?_
 refine jn ?_
 refine JC.ret (fun a ha => ?_)
 repeat (first | refine aev ?_ | refine aeu ?_)
 refine aff (v:=abe) (v' := .iface 74 (.int .i64 2)) ha Tryz.results27 (.agg rfl bsq bsm (HS.box _ (.tail _ (.tail _ (.head _)))) rfl rfl) (.tmp rfl) ⟨_,rfl,?_⟩
 exact ⟨rfl,HS.anp 3 1 rfl rfl⟩
set_option maxHeartbeats 1000000 in
theorem bi6 (HT:Tz W0) (HB:Tab W0) {l a r:List UInt8} {za zr:Int}  (HS:St W0 U Ps w)  (HX:Mx W0) (hno : ∀ x∈l,x≠46) (hl:l.length≤300) (hcut:Lib.cut l [47]=(a,r,true)) (hla:a.length≤300) (hlr:r.length≤300) (ha:a=Lib.itoa za) (hr:r=Lib.itoa zr) (h:zr≤1):aba Tryz.prog 27 [.string ⟨l.toArray⟩] w (AnP W0 U Ps (.tuple #[abe,.iface 74 (.int .i64 2)])):=by
 refine ake bsL rfl bsM rfl ?_
 refine JC.seq ?_
 refine JC.region ?_
 refine JL.alloc (vs:=abd) HS rfl bsp rfl rfl (fun g1 w1 HS => ?_)
 refine Lv (.nilIface) (fun a ha=>run_assign (ha.ev rfl)) ?_
 refine jn ?_
 refine JC.seq ?_
 refine JC.seq ?_
 refine JC.region ?_
 refine Lv (.string ⟨l.toArray⟩) (fun a ha=>run_move (ha.ev rfl)) ?_
 refine Lv (.int .i64 (l.length:Int)) (fun a ha=>ae9 (ha.ev rfl) bsn rfl) ?_
 refine Lv (.bool false) (fun a ha=>afd (ha.ev rfl) (ha.ev rfl) (decide_eq_false (by omega))) ?_
 refine jn ?_
 refine JC.abl rfl ?_
 refine JC.abu (fun _ _ h=>h) ?_
 refine JC.seq ?_
 refine JC.seq ?_
 refine JC.region ?_
 refine Lv (.string ⟨l.toArray⟩) (fun a ha=>run_move (ha.ev rfl)) ?_
 refine JL.call rfl rfl btb (a3Z HS hno) (fun v2 w2 HR2 => ?_)
 obtain ⟨rfl,HS⟩:=HR2
 refine jn ?_
 refine JC.abl rfl ?_
 refine JC.abu (fun _ _ h=>h) ?_
 refine JC.seq ?_
 refine JC.region ?_
 refine Lv (.string ⟨l.toArray⟩) (fun a ha=>run_move (ha.ev rfl)) ?_
 refine JL.call rfl rfl bsB (azq HX HS hcut (by omega)) (fun v3 w3 HR3 => ?_)
 obtain ⟨rfl,HS⟩:=HR3
 refine Lv (.tuple #[.string ⟨a.toArray⟩,.string ⟨r.toArray⟩,.bool true]) (fun a ha=>run_move (ha.ev rfl)) ?_
 refine Lv (.string ⟨a.toArray⟩) (fun a ha=>aa6 (ha.ev rfl) rfl) ?_
 refine Lv (.string ⟨r.toArray⟩) (fun a ha=>aa6 (ha.ev rfl) rfl) ?_
 refine Lv (.bool true) (fun a ha=>aa6 (ha.ev rfl) rfl) ?_
 refine Lv (.string ⟨a.toArray⟩) (fun a ha=>run_assign (ha.ev rfl)) ?_
 refine Lv (.string ⟨r.toArray⟩) (fun a ha=>run_assign (ha.ev rfl)) ?_
 refine Lv (.bool true) (fun a ha=>run_assign (ha.ev rfl)) ?_
 refine jn ?_
 refine JC.seq ?_
 refine JC.region ?_
 refine Lv (.string ⟨a.toArray⟩) (fun a ha=>run_move (ha.ev rfl)) ?_
 refine JL.call rfl rfl bsG (a2p HS ha (by omega)) (fun v4 w4 HR4 => ?_)
 obtain ⟨s4,A4,n4,c4,rfl,HS⟩:=HR4
 refine Lv (.tuple #[.agg #[.bool s4,.slice A4 n4 c4],.nilIface]) (fun a ha=>run_move (ha.ev rfl)) ?_
 refine Lv (.agg #[.bool s4,.slice A4 n4 c4]) (fun a ha=>aa6 (ha.ev rfl) rfl) ?_
 refine Lv (.nilIface) (fun a ha=>aa6 (ha.ev rfl) rfl) ?_
 refine JL.alloc (vs:=[.bool false,.slice none 0 0]) HS rfl bsv rfl rfl (fun g5 w5 HS => ?_)
 refine JL.store HS rfl rfl (i:=0) rfl bso rfl rfl rfl (vs':=[.bool s4,.slice A4 n4 c4]) rfl rfl (fun w6 HS => ?_)
 refine Lv (.nilIface) (fun a ha=>run_assign (ha.ev rfl)) ?_
 refine jn ?_
 refine JC.seq ?_
 refine JC.seq ?_
 refine JC.region ?_
 refine Lv (.nilIface) (fun a ha=>run_move (ha.ev rfl)) ?_
 refine Lv (.bool false) (fun a ha=>a2z (ha.ev rfl) rfl bsH) ?_
 refine jn ?_
 refine JC.abl rfl ?_
 refine JC.abu (fun _ _ h=>h) ?_
 refine JC.seq ?_
 refine JC.seq ?_
 refine JC.region ?_
 refine Lv (.bool true) (fun a ha=>run_move (ha.ev rfl)) ?_
 refine Lv (.bool false) (fun a ha=>amj (b:=true) (ha.ev rfl)) ?_
 refine jn ?_
 refine JC.abl rfl ?_
 refine JC.abu (fun _ _ h=>h) ?_
 refine JC.seq ?_
 refine JC.region ?_
 refine Lv (.string ⟨r.toArray⟩) (fun a ha=>run_move (ha.ev rfl)) ?_
 refine JL.call rfl rfl bsG (a2p HS hr (by omega)) (fun v7 w7 HR7 => ?_)
 obtain ⟨s7,A7,n7,c7,rfl,HS⟩:=HR7
 refine Lv (.tuple #[.agg #[.bool s7,.slice A7 n7 c7],.nilIface]) (fun a ha=>run_move (ha.ev rfl)) ?_
 refine Lv (.agg #[.bool s7,.slice A7 n7 c7]) (fun a ha=>aa6 (ha.ev rfl) rfl) ?_
 refine Lv (.nilIface) (fun a ha=>aa6 (ha.ev rfl) rfl) ?_
 refine JL.alloc (vs:=[.bool false,.slice none 0 0]) HS rfl bsv rfl rfl (fun g8 w8 HS => ?_)
 refine JL.store HS rfl rfl (i:=0) rfl bso rfl rfl rfl (vs':=[.bool s7,.slice A7 n7 c7]) rfl rfl (fun w9 HS => ?_)
 refine Lv (.nilIface) (fun a ha=>run_assign (ha.ev rfl)) ?_
 refine jn ?_
 refine JC.seq ?_
 refine JC.seq ?_
 refine JC.region ?_
 refine Lv (.nilIface) (fun a ha=>run_move (ha.ev rfl)) ?_
 refine Lv (.bool false) (fun a ha=>a2z (ha.ev rfl) rfl bsH) ?_
 refine jn ?_
 refine JC.abl rfl ?_
 refine JC.abu (fun _ _ h=>h) ?_
 refine JC.seq ?_
 refine JC.region ?_
 refine Lv (.pointer (some ⟨g5,0,none⟩)) (fun a ha=>a15 (ha.ev rfl) bsW rfl bsD rfl rfl) ?_
 refine JL.a00 (.bool s4) HS 1 rfl rfl rfl bsC rfl ?_
 refine Lv (.pointer (some ⟨g5,1,none⟩)) (fun a ha=>a15 (ha.ev rfl) bsW rfl btq rfl rfl) ?_
 refine JL.a00 (.slice A4 n4 c4) HS 1 rfl rfl rfl btr rfl ?_
 refine Lv (.pointer (some ⟨g8,1,none⟩)) (fun a ha=>a15 (ha.ev rfl) bsW rfl btq rfl rfl) ?_
 refine JL.a00 (.slice A7 n7 c7) HS 0 rfl rfl rfl btr rfl ?_
 refine Lv (btT s4 A4 n4 c4 A7 n7 c7) (fun a ha=>acY.run_build (vs:=[(0,.bool s4),(1,.slice A4 n4 c4),(2,.slice A7 n7 c7)]) (by simp only [List.map_cons,List.map_nil,ha.ev (x := .tmp 52) (v := .bool s4) rfl,ha.ev (x := .tmp 54) (v := .slice A4 n4 c4) rfl,ha.ev (x := .tmp 56) (v := .slice A7 n7 c7) rfl]) bsu bsp ahx rfl) ?_
 refine JL.alloc (vs:=abd) HS rfl bsp rfl rfl (fun g10 w10 HS => ?_)
 refine JL.store HS rfl rfl (i:=0) rfl bsm rfl rfl rfl (vs':=(btU s4 A4 n4 c4 A7 n7 c7)) rfl rfl (fun w11 HS => ?_)
 refine jn ?_
 refine JC.seq ?_
 refine JC.seq ?_
 refine JC.draw HS [] (by kernel_rfl) (fun w12 HS => ?_)
 refine Da (.agg #[.bool s7,.slice A7 n7 c7]) 0 1 rfl HS.b0 rfl rfl bsr bso ?_
 refine D1c 1 rfl rfl rfl btp (a4I HT HB HS  (by decide) (by decide)) (fun bfE bfK a5J => ?_)
 obtain ⟨be9,bbk,bdV,bbT,rfl,HS⟩:=a5J
 refine ⟨HS.b0,?_⟩
 refine D1c 2 rfl rfl rfl Tryz.call112 (bab HT HB HS (HS.at_ 1 rfl) (HS.at_ 0 rfl) (by omega)) (fun bfF bfL a5K => ?_)
 obtain ⟨rfl,HS⟩:=a5K
 refine ⟨HS.b0,?_⟩
 refine Dv (.bool true) 3 rfl HS.b0 (fun a ha w=>a5c (ha.ev rfl) (ha.ev rfl) ((a9s _ _).trans (decide_eq_true h))) ?_
 refine Dv (.bool true) 4 rfl HS.b0 (fun a ha w=>run_move (ha.ev rfl)) ?_
 refine Jp 5 (by kernel_rfl) rfl rfl (fun _ _ _ h=>h) rfl rfl rfl rfl rfl HS.b0 ?_
 refine J1 6 (by kernel_rfl) ?_
 refine afb.pass rfl rfl rfl rfl rfl rfl rfl rfl rfl rfl ?_ afb.nil
 refine ⟨HS.b0,?_⟩
 refine Jp 7 (by kernel_rfl) rfl rfl (fun _ _ _ h=>h) rfl rfl rfl rfl rfl HS.b0 ?_
 refine Dv (.bool true) 8 rfl HS.b0 (fun a ha w=>ae7 (ha.ev rfl) (ha.ev rfl)) ?_
 refine JR.next (by kernel_rfl) (fun _ _ h=>h) ?_
 refine JC.acZ rfl ?_
 refine JC.seq ?_
 refine JC.region ?_
 refine Lv abe (fun a ha=>acY.run_build (vs:=[]) (by simp only [List.map_cons,List.map_nil]) bsu bsp ahx rfl) ?_
 refine Lv (.iface 74 (.int .i64 2)) (fun a ha=>a1v (ha.ev rfl) (by kernel_rfl)) ?_
 refine JL.store HS rfl rfl (i:=3) rfl bsm rfl rfl rfl (vs':=abd) rfl rfl (fun w14 HS => ?_)
 refine Lv (.iface 74 (.int .i64 2)) (fun a ha=>run_assign (ha.ev rfl)) ?_
 refine jn ?_
 refine JC.ret (fun a ha => ?_)
 repeat (first | refine aev ?_ | refine aeu ?_)
 refine aff (v:=abe) (v' := .iface 74 (.int .i64 2)) ha Tryz.results27 (.agg rfl bsq bsm (HS.box _ (.tail _ (.tail _ (.tail _ (.head _))))) rfl rfl) (.tmp rfl) ⟨_,rfl,?_⟩
 exact ⟨rfl,HS.anp 4 3 rfl rfl⟩
set_option maxHeartbeats 1000000 in
theorem bi1 (HT:Tz W0) (HB:Tab W0) {l a r:List UInt8} {za zr:Int}  (HS:St W0 U Ps w)  (HX:Mx W0) (hno : ∀ x∈l,x≠46) (hl:l.length≤300) (hcut:Lib.cut l [47]=(a,r,true)) (hla:a.length≤300) (hlr:r.length≤300) (ha:a=Lib.itoa za) (hr:r=Lib.itoa zr) (h:1 < zr) (hok:¬ (za≠0∧Nat.gcd za.natAbs zr.natAbs=1)):aba Tryz.prog 27 [.string ⟨l.toArray⟩] w (AnP W0 U Ps (.tuple #[abe,.iface 74 (.int .i64 2)])):=by
 refine ake bsL rfl bsM rfl ?_
 refine JC.seq ?_
 refine JC.region ?_
 refine JL.alloc (vs:=abd) HS rfl bsp rfl rfl (fun g1 w1 HS => ?_)
 refine Lv (.nilIface) (fun a ha=>run_assign (ha.ev rfl)) ?_
 refine jn ?_
 refine JC.seq ?_
 refine JC.seq ?_
 refine JC.region ?_
 refine Lv (.string ⟨l.toArray⟩) (fun a ha=>run_move (ha.ev rfl)) ?_
 refine Lv (.int .i64 (l.length:Int)) (fun a ha=>ae9 (ha.ev rfl) bsn rfl) ?_
 refine Lv (.bool false) (fun a ha=>afd (ha.ev rfl) (ha.ev rfl) (decide_eq_false (by omega))) ?_
 refine jn ?_
 refine JC.abl rfl ?_
 refine JC.abu (fun _ _ h=>h) ?_
 refine JC.seq ?_
 refine JC.seq ?_
 refine JC.region ?_
 refine Lv (.string ⟨l.toArray⟩) (fun a ha=>run_move (ha.ev rfl)) ?_
 refine JL.call rfl rfl btb (a3Z HS hno) (fun v2 w2 HR2 => ?_)
 obtain ⟨rfl,HS⟩:=HR2
 refine jn ?_
 refine JC.abl rfl ?_
 refine JC.abu (fun _ _ h=>h) ?_
 refine JC.seq ?_
 refine JC.region ?_
 refine Lv (.string ⟨l.toArray⟩) (fun a ha=>run_move (ha.ev rfl)) ?_
 refine JL.call rfl rfl bsB (azq HX HS hcut (by omega)) (fun v3 w3 HR3 => ?_)
 obtain ⟨rfl,HS⟩:=HR3
 refine Lv (.tuple #[.string ⟨a.toArray⟩,.string ⟨r.toArray⟩,.bool true]) (fun a ha=>run_move (ha.ev rfl)) ?_
 refine Lv (.string ⟨a.toArray⟩) (fun a ha=>aa6 (ha.ev rfl) rfl) ?_
 refine Lv (.string ⟨r.toArray⟩) (fun a ha=>aa6 (ha.ev rfl) rfl) ?_
 refine Lv (.bool true) (fun a ha=>aa6 (ha.ev rfl) rfl) ?_
 refine Lv (.string ⟨a.toArray⟩) (fun a ha=>run_assign (ha.ev rfl)) ?_
 refine Lv (.string ⟨r.toArray⟩) (fun a ha=>run_assign (ha.ev rfl)) ?_
 refine Lv (.bool true) (fun a ha=>run_assign (ha.ev rfl)) ?_
 refine jn ?_
 refine JC.seq ?_
 refine JC.region ?_
 refine Lv (.string ⟨a.toArray⟩) (fun a ha=>run_move (ha.ev rfl)) ?_
 refine JL.call rfl rfl bsG (a2p HS ha (by omega)) (fun v4 w4 HR4 => ?_)
 obtain ⟨s4,A4,n4,c4,rfl,HS⟩:=HR4
 refine Lv (.tuple #[.agg #[.bool s4,.slice A4 n4 c4],.nilIface]) (fun a ha=>run_move (ha.ev rfl)) ?_
 refine Lv (.agg #[.bool s4,.slice A4 n4 c4]) (fun a ha=>aa6 (ha.ev rfl) rfl) ?_
 refine Lv (.nilIface) (fun a ha=>aa6 (ha.ev rfl) rfl) ?_
 refine JL.alloc (vs:=[.bool false,.slice none 0 0]) HS rfl bsv rfl rfl (fun g5 w5 HS => ?_)
 refine JL.store HS rfl rfl (i:=0) rfl bso rfl rfl rfl (vs':=[.bool s4,.slice A4 n4 c4]) rfl rfl (fun w6 HS => ?_)
 refine Lv (.nilIface) (fun a ha=>run_assign (ha.ev rfl)) ?_
 refine jn ?_
 refine JC.seq ?_
 refine JC.seq ?_
 refine JC.region ?_
 refine Lv (.nilIface) (fun a ha=>run_move (ha.ev rfl)) ?_
 refine Lv (.bool false) (fun a ha=>a2z (ha.ev rfl) rfl bsH) ?_
 refine jn ?_
 refine JC.abl rfl ?_
 refine JC.abu (fun _ _ h=>h) ?_
 refine JC.seq ?_
 refine JC.seq ?_
 refine JC.region ?_
 refine Lv (.bool true) (fun a ha=>run_move (ha.ev rfl)) ?_
 refine Lv (.bool false) (fun a ha=>amj (b:=true) (ha.ev rfl)) ?_
 refine jn ?_
 refine JC.abl rfl ?_
 refine JC.abu (fun _ _ h=>h) ?_
 refine JC.seq ?_
 refine JC.region ?_
 refine Lv (.string ⟨r.toArray⟩) (fun a ha=>run_move (ha.ev rfl)) ?_
 refine JL.call rfl rfl bsG (a2p HS hr (by omega)) (fun v7 w7 HR7 => ?_)
 obtain ⟨s7,A7,n7,c7,rfl,HS⟩:=HR7
 refine Lv (.tuple #[.agg #[.bool s7,.slice A7 n7 c7],.nilIface]) (fun a ha=>run_move (ha.ev rfl)) ?_
 refine Lv (.agg #[.bool s7,.slice A7 n7 c7]) (fun a ha=>aa6 (ha.ev rfl) rfl) ?_
 refine Lv (.nilIface) (fun a ha=>aa6 (ha.ev rfl) rfl) ?_
 refine JL.alloc (vs:=[.bool false,.slice none 0 0]) HS rfl bsv rfl rfl (fun g8 w8 HS => ?_)
 refine JL.store HS rfl rfl (i:=0) rfl bso rfl rfl rfl (vs':=[.bool s7,.slice A7 n7 c7]) rfl rfl (fun w9 HS => ?_)
 refine Lv (.nilIface) (fun a ha=>run_assign (ha.ev rfl)) ?_
 refine jn ?_
 refine JC.seq ?_
 refine JC.seq ?_
 refine JC.region ?_
 refine Lv (.nilIface) (fun a ha=>run_move (ha.ev rfl)) ?_
 refine Lv (.bool false) (fun a ha=>a2z (ha.ev rfl) rfl bsH) ?_
 refine jn ?_
 refine JC.abl rfl ?_
 refine JC.abu (fun _ _ h=>h) ?_
 refine JC.seq ?_
 refine JC.region ?_
 refine Lv (.pointer (some ⟨g5,0,none⟩)) (fun a ha=>a15 (ha.ev rfl) bsW rfl bsD rfl rfl) ?_
 refine JL.a00 (.bool s4) HS 1 rfl rfl rfl bsC rfl ?_
 refine Lv (.pointer (some ⟨g5,1,none⟩)) (fun a ha=>a15 (ha.ev rfl) bsW rfl btq rfl rfl) ?_
 refine JL.a00 (.slice A4 n4 c4) HS 1 rfl rfl rfl btr rfl ?_
 refine Lv (.pointer (some ⟨g8,1,none⟩)) (fun a ha=>a15 (ha.ev rfl) bsW rfl btq rfl rfl) ?_
 refine JL.a00 (.slice A7 n7 c7) HS 0 rfl rfl rfl btr rfl ?_
 refine Lv (btT s4 A4 n4 c4 A7 n7 c7) (fun a ha=>acY.run_build (vs:=[(0,.bool s4),(1,.slice A4 n4 c4),(2,.slice A7 n7 c7)]) (by simp only [List.map_cons,List.map_nil,ha.ev (x := .tmp 52) (v := .bool s4) rfl,ha.ev (x := .tmp 54) (v := .slice A4 n4 c4) rfl,ha.ev (x := .tmp 56) (v := .slice A7 n7 c7) rfl]) bsu bsp ahx rfl) ?_
 refine JL.alloc (vs:=abd) HS rfl bsp rfl rfl (fun g10 w10 HS => ?_)
 refine JL.store HS rfl rfl (i:=0) rfl bsm rfl rfl rfl (vs':=(btU s4 A4 n4 c4 A7 n7 c7)) rfl rfl (fun w11 HS => ?_)
 refine jn ?_
 refine JC.seq ?_
 refine JC.seq ?_
 obtain ⟨qq,bb,fq,hb1,hb2⟩:=FV.pair (HS.at_ 1 rfl) (HS.at_ 0 rfl) (show 0 < zr by omega)
 have hbb:bb=false:=(by cases hq:bb; rfl; exact absurd (hb1.1 hq) hok)
 subst hbb
 have HS:=HS.add (FV.stable _ _ _ _) fq
 refine JC.draw HS [] (by kernel_rfl) (fun w12 HS => ?_)
 refine Da (.agg #[.bool s7,.slice A7 n7 c7]) 0 1 rfl HS.b0 rfl rfl bsr bso ?_
 refine D1c 1 rfl rfl rfl btp (a4I HT HB HS  (by decide) (by decide)) (fun bfE bfK a5J => ?_)
 obtain ⟨be9,bbk,bdV,bbT,rfl,HS⟩:=a5J
 refine ⟨HS.b0,?_⟩
 refine D1c 2 rfl rfl rfl Tryz.call112 (bab HT HB HS (HS.at_ 2 rfl) (HS.at_ 0 rfl) (by omega)) (fun bfF bfL a5K => ?_)
 obtain ⟨rfl,HS⟩:=a5K
 refine ⟨HS.b0,?_⟩
 refine Dv (.bool false) 3 rfl HS.b0 (fun a ha w=>a5c (ha.ev rfl) (ha.ev rfl) ((a9s _ _).trans (decide_eq_false (show ¬ zr≤1 by omega)))) ?_
 refine Dv (.bool false) 4 rfl HS.b0 (fun a ha w=>run_move (ha.ev rfl)) ?_
 refine Jlg (btT s4 A4 n4 c4 A7 n7 c7) 5 0 (by kernel_rfl) rfl (fun _ _ _ h=>h) rfl rfl rfl rfl rfl HS.b0 rfl rfl bsq bsm rfl rfl ?_
 refine J1 6 (by kernel_rfl) ?_
 refine afb.ajo rfl rfl rfl rfl rfl rfl rfl Tryz.call113 (bcM HT HB HS (HS.at_ 1 rfl) (by omega)) rfl (fun boJ bo0 a8O => ?_) afb.nil
 obtain ⟨rfl,HS⟩:=a8O
 refine ⟨HS.b0,?_⟩
 refine Dg (.bool true) 7 rfl HS.b0 (fun a ha w=>amj (b:=false) (ha.ev rfl)) ?_
 refine Dv (.bool true) 8 rfl HS.b0 (fun a ha w=>abE (ha.ev rfl) (ha.ev rfl)) ?_
 refine JR.next (by kernel_rfl) (fun _ _ h=>h) ?_
 refine JC.acZ rfl ?_
 refine JC.seq ?_
 refine JC.region ?_
 refine Lv abe (fun a ha=>acY.run_build (vs:=[]) (by simp only [List.map_cons,List.map_nil]) bsu bsp ahx rfl) ?_
 refine Lv (.iface 74 (.int .i64 2)) (fun a ha=>a1v (ha.ev rfl) (by kernel_rfl)) ?_
 refine JL.store HS rfl rfl (i:=3) rfl bsm rfl rfl rfl (vs':=abd) rfl rfl (fun w14 HS => ?_)
 refine Lv (.iface 74 (.int .i64 2)) (fun a ha=>run_assign (ha.ev rfl)) ?_
 refine jn ?_
 refine JC.ret (fun a ha => ?_)
 repeat (first | refine aev ?_ | refine aeu ?_)
 refine aff (v:=abe) (v' := .iface 74 (.int .i64 2)) ha Tryz.results27 (.agg rfl bsq bsm (HS.box _ (.tail _ (.tail _ (.tail _ (.head _))))) rfl rfl) (.tmp rfl) ⟨_,rfl,?_⟩
 exact ⟨rfl,HS.anp 4 4 rfl rfl⟩
set_option maxHeartbeats 1000000 in
theorem bi7 (HT:Tz W0) (HB:Tab W0) {l a r:List UInt8} {za zr:Int}  (HS:St W0 U Ps w)  (HX:Mx W0) (hno : ∀ x∈l,x≠46) (hl:l.length≤300) (hcut:Lib.cut l [47]=(a,r,true)) (hla:a.length≤300) (hlr:r.length≤300) (ha:a=Lib.itoa za) (hr:r=Lib.itoa zr) (h:1 < zr) (hok:za≠0∧Nat.gcd za.natAbs zr.natAbs=1):aba Tryz.prog 27 [.string ⟨l.toArray⟩] w (aj8 W0 U Ps (Rat.divInt za zr) 100 (.nilIface)):=by
 refine ake bsL rfl bsM rfl ?_
 refine JC.seq ?_
 refine JC.region ?_
 refine JL.alloc (vs:=abd) HS rfl bsp rfl rfl (fun g1 w1 HS => ?_)
 refine Lv (.nilIface) (fun a ha=>run_assign (ha.ev rfl)) ?_
 refine jn ?_
 refine JC.seq ?_
 refine JC.seq ?_
 refine JC.region ?_
 refine Lv (.string ⟨l.toArray⟩) (fun a ha=>run_move (ha.ev rfl)) ?_
 refine Lv (.int .i64 (l.length:Int)) (fun a ha=>ae9 (ha.ev rfl) bsn rfl) ?_
 refine Lv (.bool false) (fun a ha=>afd (ha.ev rfl) (ha.ev rfl) (decide_eq_false (by omega))) ?_
 refine jn ?_
 refine JC.abl rfl ?_
 refine JC.abu (fun _ _ h=>h) ?_
 refine JC.seq ?_
 refine JC.seq ?_
 refine JC.region ?_
 refine Lv (.string ⟨l.toArray⟩) (fun a ha=>run_move (ha.ev rfl)) ?_
 refine JL.call rfl rfl btb (a3Z HS hno) (fun v2 w2 HR2 => ?_)
 obtain ⟨rfl,HS⟩:=HR2
 refine jn ?_
 refine JC.abl rfl ?_
 refine JC.abu (fun _ _ h=>h) ?_
 refine JC.seq ?_
 refine JC.region ?_
 refine Lv (.string ⟨l.toArray⟩) (fun a ha=>run_move (ha.ev rfl)) ?_
 refine JL.call rfl rfl bsB (azq HX HS hcut (by omega)) (fun v3 w3 HR3 => ?_)
 obtain ⟨rfl,HS⟩:=HR3
 refine Lv (.tuple #[.string ⟨a.toArray⟩,.string ⟨r.toArray⟩,.bool true]) (fun a ha=>run_move (ha.ev rfl)) ?_
 refine Lv (.string ⟨a.toArray⟩) (fun a ha=>aa6 (ha.ev rfl) rfl) ?_
 refine Lv (.string ⟨r.toArray⟩) (fun a ha=>aa6 (ha.ev rfl) rfl) ?_
 refine Lv (.bool true) (fun a ha=>aa6 (ha.ev rfl) rfl) ?_
 refine Lv (.string ⟨a.toArray⟩) (fun a ha=>run_assign (ha.ev rfl)) ?_
 refine Lv (.string ⟨r.toArray⟩) (fun a ha=>run_assign (ha.ev rfl)) ?_
 refine Lv (.bool true) (fun a ha=>run_assign (ha.ev rfl)) ?_
 refine jn ?_
 refine JC.seq ?_
 refine JC.region ?_
 refine Lv (.string ⟨a.toArray⟩) (fun a ha=>run_move (ha.ev rfl)) ?_
 refine JL.call rfl rfl bsG (a2p HS ha (by omega)) (fun v4 w4 HR4 => ?_)
 obtain ⟨s4,A4,n4,c4,rfl,HS⟩:=HR4
 refine Lv (.tuple #[.agg #[.bool s4,.slice A4 n4 c4],.nilIface]) (fun a ha=>run_move (ha.ev rfl)) ?_
 refine Lv (.agg #[.bool s4,.slice A4 n4 c4]) (fun a ha=>aa6 (ha.ev rfl) rfl) ?_
 refine Lv (.nilIface) (fun a ha=>aa6 (ha.ev rfl) rfl) ?_
 refine JL.alloc (vs:=[.bool false,.slice none 0 0]) HS rfl bsv rfl rfl (fun g5 w5 HS => ?_)
 refine JL.store HS rfl rfl (i:=0) rfl bso rfl rfl rfl (vs':=[.bool s4,.slice A4 n4 c4]) rfl rfl (fun w6 HS => ?_)
 refine Lv (.nilIface) (fun a ha=>run_assign (ha.ev rfl)) ?_
 refine jn ?_
 refine JC.seq ?_
 refine JC.seq ?_
 refine JC.region ?_
 refine Lv (.nilIface) (fun a ha=>run_move (ha.ev rfl)) ?_
 refine Lv (.bool false) (fun a ha=>a2z (ha.ev rfl) rfl bsH) ?_
 refine jn ?_
 refine JC.abl rfl ?_
 refine JC.abu (fun _ _ h=>h) ?_
 refine JC.seq ?_
 refine JC.seq ?_
 refine JC.region ?_
 refine Lv (.bool true) (fun a ha=>run_move (ha.ev rfl)) ?_
 refine Lv (.bool false) (fun a ha=>amj (b:=true) (ha.ev rfl)) ?_
 refine jn ?_
 refine JC.abl rfl ?_
 refine JC.abu (fun _ _ h=>h) ?_
 refine JC.seq ?_
 refine JC.region ?_
 refine Lv (.string ⟨r.toArray⟩) (fun a ha=>run_move (ha.ev rfl)) ?_
 refine JL.call rfl rfl bsG (a2p HS hr (by omega)) (fun v7 w7 HR7 => ?_)
 obtain ⟨s7,A7,n7,c7,rfl,HS⟩:=HR7
 refine Lv (.tuple #[.agg #[.bool s7,.slice A7 n7 c7],.nilIface]) (fun a ha=>run_move (ha.ev rfl)) ?_
 refine Lv (.agg #[.bool s7,.slice A7 n7 c7]) (fun a ha=>aa6 (ha.ev rfl) rfl) ?_
 refine Lv (.nilIface) (fun a ha=>aa6 (ha.ev rfl) rfl) ?_
 refine JL.alloc (vs:=[.bool false,.slice none 0 0]) HS rfl bsv rfl rfl (fun g8 w8 HS => ?_)
 refine JL.store HS rfl rfl (i:=0) rfl bso rfl rfl rfl (vs':=[.bool s7,.slice A7 n7 c7]) rfl rfl (fun w9 HS => ?_)
 refine Lv (.nilIface) (fun a ha=>run_assign (ha.ev rfl)) ?_
 refine jn ?_
 refine JC.seq ?_
 refine JC.seq ?_
 refine JC.region ?_
 refine Lv (.nilIface) (fun a ha=>run_move (ha.ev rfl)) ?_
 refine Lv (.bool false) (fun a ha=>a2z (ha.ev rfl) rfl bsH) ?_
 refine jn ?_
 refine JC.abl rfl ?_
 refine JC.abu (fun _ _ h=>h) ?_
 refine JC.seq ?_
 refine JC.region ?_
 refine Lv (.pointer (some ⟨g5,0,none⟩)) (fun a ha=>a15 (ha.ev rfl) bsW rfl bsD rfl rfl) ?_
 refine JL.a00 (.bool s4) HS 1 rfl rfl rfl bsC rfl ?_
 refine Lv (.pointer (some ⟨g5,1,none⟩)) (fun a ha=>a15 (ha.ev rfl) bsW rfl btq rfl rfl) ?_
 refine JL.a00 (.slice A4 n4 c4) HS 1 rfl rfl rfl btr rfl ?_
 refine Lv (.pointer (some ⟨g8,1,none⟩)) (fun a ha=>a15 (ha.ev rfl) bsW rfl btq rfl rfl) ?_
 refine JL.a00 (.slice A7 n7 c7) HS 0 rfl rfl rfl btr rfl ?_
 refine Lv (btT s4 A4 n4 c4 A7 n7 c7) (fun a ha=>acY.run_build (vs:=[(0,.bool s4),(1,.slice A4 n4 c4),(2,.slice A7 n7 c7)]) (by simp only [List.map_cons,List.map_nil,ha.ev (x := .tmp 52) (v := .bool s4) rfl,ha.ev (x := .tmp 54) (v := .slice A4 n4 c4) rfl,ha.ev (x := .tmp 56) (v := .slice A7 n7 c7) rfl]) bsu bsp ahx rfl) ?_
 refine JL.alloc (vs:=abd) HS rfl bsp rfl rfl (fun g10 w10 HS => ?_)
 refine JL.store HS rfl rfl (i:=0) rfl bsm rfl rfl rfl (vs':=(btU s4 A4 n4 c4 A7 n7 c7)) rfl rfl (fun w11 HS => ?_)
 refine jn ?_
 refine JC.seq ?_
 refine JC.seq ?_
 obtain ⟨qq,bb,fq,hb1,hb2⟩:=FV.pair (HS.at_ 1 rfl) (HS.at_ 0 rfl) (show 0 < zr by omega)
 have hbb:bb=true:=hb1.2 hok
 subst hbb
 have HS:=HS.add (FV.stable _ _ _ _) fq
 refine JC.draw HS [] (by kernel_rfl) (fun w12 HS => ?_)
 refine Da (.agg #[.bool s7,.slice A7 n7 c7]) 0 1 rfl HS.b0 rfl rfl bsr bso ?_
 refine D1c 1 rfl rfl rfl btp (a4I HT HB HS  (by decide) (by decide)) (fun bfE bfK a5J => ?_)
 obtain ⟨be9,bbk,bdV,bbT,rfl,HS⟩:=a5J
 refine ⟨HS.b0,?_⟩
 refine D1c 2 rfl rfl rfl Tryz.call112 (bab HT HB HS (HS.at_ 2 rfl) (HS.at_ 0 rfl) (by omega)) (fun bfF bfL a5K => ?_)
 obtain ⟨rfl,HS⟩:=a5K
 refine ⟨HS.b0,?_⟩
 refine Dv (.bool false) 3 rfl HS.b0 (fun a ha w=>a5c (ha.ev rfl) (ha.ev rfl) ((a9s _ _).trans (decide_eq_false (show ¬ zr≤1 by omega)))) ?_
 refine Dv (.bool false) 4 rfl HS.b0 (fun a ha w=>run_move (ha.ev rfl)) ?_
 refine Jlg (btT s4 A4 n4 c4 A7 n7 c7) 5 0 (by kernel_rfl) rfl (fun _ _ _ h=>h) rfl rfl rfl rfl rfl HS.b0 rfl rfl bsq bsm rfl rfl ?_
 refine J1 6 (by kernel_rfl) ?_
 refine afb.ajo rfl rfl rfl rfl rfl rfl rfl Tryz.call113 (bcM HT HB HS (HS.at_ 1 rfl) (by omega)) rfl (fun boJ bo0 a8O => ?_) afb.nil
 obtain ⟨rfl,HS⟩:=a8O
 refine ⟨HS.b0,?_⟩
 refine Dg (.bool false) 7 rfl HS.b0 (fun a ha w=>amj (b:=true) (ha.ev rfl)) ?_
 refine Dv (.bool false) 8 rfl HS.b0 (fun a ha w=>abE (ha.ev rfl) (ha.ev rfl)) ?_
 refine JR.next (by kernel_rfl) (fun _ _ h=>h) ?_
 refine JC.abl rfl ?_
 refine JC.abu (fun _ _ h=>h) ?_
 refine JC.seq ?_
 refine JC.region ?_
 refine JL.load (btT s4 A4 n4 c4 A7 n7 c7) HS 0 rfl rfl rfl bsq bsm rfl rfl ?_
 refine JL.store HS rfl rfl (i:=3) rfl bsm rfl rfl rfl (vs':=(btU s4 A4 n4 c4 A7 n7 c7)) rfl rfl (fun w14 HS => ?_)
 refine Lv (.nilIface) (fun a ha=>run_assign (ha.ev rfl)) ?_
 refine jn ?_
 refine JC.ret (fun a ha => ?_)
 repeat (first | refine aev ?_ | refine aeu ?_)
 refine aff (v:=(btT s4 A4 n4 c4 A7 n7 c7)) (v' := .nilIface) ha Tryz.results27 (.agg rfl bsq bsm (HS.box _ (.tail _ (.tail _ (.tail _ (.head _))))) rfl rfl) (.tmp rfl) ⟨_,rfl,?_⟩
 exact ⟨_,_,_,_,_,_,_,rfl,HS.out 4 4 1 rfl rfl rfl (fun _ h=>h.as (hb2 rfl) (by omega))⟩
def PDc (l:List UInt8) (q:Rat) (er:Value):Prop := ∀ {W0 w:World} {U:List Box} {Ps:List (World→Prop)},Tz W0→Tab W0→Mx W0→St W0 U Ps w→aba Tryz.prog 108 [.string ⟨l.toArray⟩] w (aj8 W0 U Ps q 900 er)
set_option maxHeartbeats 1000000 in
theorem bcF (HT:Tz W0) (HB:Tab W0) {l:List UInt8} {q:Rat} {er:Value}  (HS:St W0 U Ps w)  (HX:Mx W0) (a1s:46∈l) (hl:l.length≤300) (hd:PDc l q er):aba Tryz.prog 27 [.string ⟨l.toArray⟩] w (aj8 W0 U Ps q 900 er):=by
 refine ake bsL rfl bsM rfl ?_
 refine JC.seq ?_
 refine JC.region ?_
 refine JL.alloc (vs:=abd) HS rfl bsp rfl rfl (fun g1 w1 HS => ?_)
 refine Lv (.nilIface) (fun a ha=>run_assign (ha.ev rfl)) ?_
 refine jn ?_
 refine JC.seq ?_
 refine JC.seq ?_
 refine JC.region ?_
 refine Lv (.string ⟨l.toArray⟩) (fun a ha=>run_move (ha.ev rfl)) ?_
 refine Lv (.int .i64 (l.length:Int)) (fun a ha=>ae9 (ha.ev rfl) bsn rfl) ?_
 refine Lv (.bool false) (fun a ha=>afd (ha.ev rfl) (ha.ev rfl) (decide_eq_false (by omega))) ?_
 refine jn ?_
 refine JC.abl rfl ?_
 refine JC.abu (fun _ _ h=>h) ?_
 refine JC.seq ?_
 refine JC.seq ?_
 refine JC.region ?_
 refine Lv (.string ⟨l.toArray⟩) (fun a ha=>run_move (ha.ev rfl)) ?_
 refine JL.call rfl rfl btb (bnJ HS a1s) (fun v2 w2 HR2 => ?_)
 obtain ⟨rfl,HS⟩:=HR2
 refine jn ?_
 refine JC.acZ rfl ?_
 refine JC.seq ?_
 refine JC.region ?_
 refine Lv (.string ⟨l.toArray⟩) (fun a ha=>run_move (ha.ev rfl)) ?_
 refine JL.call rfl rfl Tryz.call108 (hd HT HB HX HS) (fun v3 w3 HR3 => ?_)
 obtain ⟨s3,A3,n3,c3,B3,m3,d3,rfl,HS⟩:=HR3
 refine Lv (btT s3 A3 n3 c3 B3 m3 d3) (fun a ha=>aa6 (ha.ev rfl) rfl) ?_
 refine Lv (er) (fun a ha=>aa6 (ha.ev rfl) rfl) ?_
 refine JL.store HS rfl rfl (i:=0) rfl bsm rfl rfl rfl (vs':=(btU s3 A3 n3 c3 B3 m3 d3)) rfl rfl (fun w4 HS => ?_)
 refine Lv (er) (fun a ha=>run_assign (ha.ev rfl)) ?_
 refine jn ?_
 refine JC.ret (fun a ha => ?_)
 repeat (first | refine aev ?_ | refine aeu ?_)
 refine aff (v:=(btT s3 A3 n3 c3 B3 m3 d3)) (v':=er) ha Tryz.results27 (.agg rfl bsq bsm (HS.box _ (.head _)) rfl rfl) (.tmp rfl) ⟨_,rfl,?_⟩
 exact ⟨_,_,_,_,_,_,_,rfl,HS.out 1 1 0 rfl rfl rfl (fun _ h=>h.as rfl (by omega))⟩
set_option maxHeartbeats 400000 in
theorem bi3 (HT:Tz W0) (HB:Tab W0) {l:List UInt8}  (HS:St W0 U Ps w)  (hl:65536 < l.length):aba Tryz.prog 27 [.string ⟨l.toArray⟩] w (AnP W0 U Ps (.tuple #[abe,.iface 74 (.int .i64 4)])):=by
 refine ake bsL rfl bsM rfl ?_
 refine JC.seq ?_
 refine JC.region ?_
 refine JL.alloc (vs:=abd) HS rfl bsp rfl rfl (fun g1 w1 HS => ?_)
 refine Lv (.nilIface) (fun a ha=>run_assign (ha.ev rfl)) ?_
 refine jn ?_
 refine JC.seq ?_
 refine JC.seq ?_
 refine JC.region ?_
 refine Lv (.string ⟨l.toArray⟩) (fun a ha=>run_move (ha.ev rfl)) ?_
 refine Lv (.int .i64 (l.length:Int)) (fun a ha=>ae9 (ha.ev rfl) bsn rfl) ?_
 refine Lv (.bool true) (fun a ha=>afd (ha.ev rfl) (ha.ev rfl) (decide_eq_true (by omega))) ?_
 refine jn ?_
 refine JC.acZ rfl ?_
 refine JC.seq ?_
 refine JC.region ?_
 refine Lv abe (fun a ha=>acY.run_build (vs:=[]) (by simp only [List.map_cons,List.map_nil]) bsu bsp ahx rfl) ?_
 refine Lv (.iface 74 (.int .i64 4)) (fun a ha=>a1v (ha.ev rfl) (by kernel_rfl)) ?_
 refine JL.store HS rfl rfl (i:=0) rfl bsm rfl rfl rfl (vs':=abd) rfl rfl (fun w2 HS => ?_)
 refine Lv (.iface 74 (.int .i64 4)) (fun a ha=>run_assign (ha.ev rfl)) ?_
 refine jn ?_
 refine JC.ret (fun a ha => ?_)
 repeat (first | refine aev ?_ | refine aeu ?_)
 refine aff (v:=abe) (v' := .iface 74 (.int .i64 4)) ha Tryz.results27 (.agg rfl bsq bsm (HS.box _ (.head _)) rfl rfl) (.tmp rfl) ⟨_,rfl,?_⟩
 exact ⟨rfl,HS.anp 1 0 rfl rfl⟩
end
end Go.Proofs.YtbihljnjaondcaaGreatDoor
