/- Part of a proof, said shortly. -/
import Derived.Test.YtbihljnjaondcaaGreatDoorAlt
import Derived.Test.YtbihljnjaondcaaGreatDoorT45
import Derived.Test.YtbihljnjaondcaaGreatDoorT33
import Derived.Test.YtbihljnjaondcaaGreatDoorT32
import Derived.Test.YtbihljnjaondcaaGreatDoorT31
import Derived.Test.YtbihljnjaondcaaGreatDoorT43
import Derived.Test.YtbihljnjaondcaaGreatDoorT41
import Derived.Test.YtbihljnjaondcaaGreatDoorT40
import Derived.Test.YtbihljnjaondcaaGreatDoorT34
import Derived.Test.YtbihljnjaondcaaGreatDoorT29
import Derived.Test.YtbihljnjaondcaaGreatDoorT28
import Derived.Test.YtbihljnjaondcaaGreatDoorT26
import Derived.Test.YtbihljnjaondcaaGreatDoorT25
import Derived.Test.YtbihljnjaondcaaGreatDoorT24
import Derived.Test.YtbihljnjaondcaaGreatDoorT23
import Derived.Test.YtbihljnjaondcaaGreatDoorT22
import Derived.Test.YtbihljnjaondcaaGreatDoorT21
import Derived.Test.YtbihljnjaondcaaGreatDoorT20
import Derived.Test.YtbihljnjaondcaaGreatDoorT14
import Derived.Test.YtbihljnjaondcaaGreatDoorT4
import Derived.Test.YtbihljnjaondcaaGreatDoorT3
import Derived.Test.YtbihljnjaondcaaGreatDoorT2
import Derived.Test.YtbihljnjaondcaaGreatDoorT1
import Derived.Test.YtbihljnjaondcaaGreatDoorT13
import Derived.Test.YtbihljnjaondcaaGreatDoorT9
import Derived.Test.YtbihljnjaondcaaGreatDoorT8
import Derived.Test.YtbihljnjaondcaaGreatDoorT6
import Derived.Test.YtbihljnjaondcaaGreatDoorT5
import Derived.Test.YtbihljnjaondcaaGreatDoorT7
import Derived.Test.YtbihljnjaondcaaGreatDoorT19
import Derived.Test.YtbihljnjaondcaaGreatDoorT18
import Derived.Test.YtbihljnjaondcaaGreatDoorT16
import Derived.Test.YtbihljnjaondcaaGreatDoorT15
import Derived.Test.YtbihljnjaondcaaGreatDoorT17
import Derived.Test.YtbihljnjaondcaaGreatDoorT10
import Derived.Test.YtbihljnjaondcaaGreatDoorT11
import Derived.Test.YtbihljnjaondcaaGreatDoorT12
import Derived.Test.YtbihljnjaondcaaGreatDoorT27
import Derived.Test.YtbihljnjaondcaaGreatDoorT39
import Derived.Test.YtbihljnjaondcaaGreatDoorT38
import Derived.Test.YtbihljnjaondcaaGreatDoorT35
import Derived.Test.YtbihljnjaondcaaGreatDoorT37
import Derived.Test.YtbihljnjaondcaaGreatDoorT36
import Derived.Test.YtbihljnjaondcaaGreatDoorT42
import Derived.Test.YtbihljnjaondcaaGreatDoorT44
set_option maxRecDepth 100000
open Go.Proofs.YtbihljnjaondcaaGreatDoor (btT btU btV btW abe abd bq6 bq5 iy0)
set_option linter.unusedVariables false
set_option linter.unusedSimpArgs false
namespace Go.Proofs.YtbihljnjaondcaaGreatDoor
open Go Go.RowKit Lw acY
section
variable {W0 w:World} {U:List Box} {Ps:List (World→Prop)}
def RP (l:List UInt8) (z c:Int):Prop := ∀ {W0 w:World} {U:List Box} {Ps:List (World→Prop)},St W0 U Ps w→aba Tryz.prog 114 [.string ⟨l.toArray⟩] w (a8J W0 U Ps z 32 (.int .i64 c))
theorem RP.yes {l:List UInt8} {z:Int} (h:l=Lib.itoa z) (hl:l.length≤300):RP l z 0:=fun HS=>bnl HS h hl
theorem RP.no {l:List UInt8} (h : ∀ z,l≠Lib.itoa z) (hl:l.length≤300):RP l 0 2:=fun HS=>Calls.mono (bnk HS h hl) fun e w' hh=>by
 obtain ⟨v,rfl,rfl,hs⟩:=hh
 exact ⟨_,rfl,_,_,_,_,rfl,hs.add (FI.stable _ _ _) ((FI.zero w').weak (by omega))⟩
def RD (a r:List UInt8) (n:Int) (q:Rat) (c:Int):Prop := ∀ {W0 w:World} {U:List Box} {Ps:List (World→Prop)},Tz W0→Tab W0→St W0 U Ps w→aba Tryz.prog 116 [.string ⟨a.toArray⟩,.string ⟨r.toArray⟩,.int .i64 n] w (aj8 W0 U Ps q 200 (.int .i64 c))
theorem bh9 (x:Int):Rat.divInt x 1=(x:Rat):=Rat.ext (by rw [Rat.num_divInt]; simp) (by rw [Rat.den_divInt]; simp)
theorem a7S {b:UInt8} (h:b.toNat≠47):(((b.toNat:Nat):Int)==47)=false:=by simp; omega
theorem a7R {b:UInt8} (h:b.toNat≠46):(((b.toNat:Nat):Int)==46)=false:=by simp; omega
theorem baw {b:UInt8} (h:b.toNat≠45):(((b.toNat:Nat):Int)==45)=false:=by simp; omega
theorem bfp (x:Int):decide (afm x≤0)=decide (x≤0):=by
 rw [decide_eq_decide]; unfold afm; split
 ·omega
 ·split <;> omega
theorem a2a (x:Int):decide (afm x < 0)=decide (x < 0):=by
 rw [decide_eq_decide]; unfold afm; split
 ·omega
 ·split <;> omega
theorem bhk {a b:List UInt8} (h:a=b):(a != b)=false:=by subst h; simp
set_option maxHeartbeats 1000000 in
theorem beP (HT:Tz W0) (HB:Tab W0) {l:List UInt8} {z c:Int}  (HS:St W0 U Ps w)  (hcl : ∀ (j:Nat) (b:UInt8),l[j]? = some b→b.toNat≠47∧b.toNat≠46) (hl:l.length≤300) (hp:RP l z c):aba Tryz.prog 28 [.string ⟨l.toArray⟩] w (aj8 W0 U Ps ((z:Int):Rat) 100 (.int .i64 c)):=by
 refine ake btG rfl btH rfl ?_
 refine JC.seq ?_
 refine JC.region ?_
 refine JL.alloc (vs:=abd) HS rfl bsp rfl rfl (fun g1 w1 HS => ?_)
 refine Lv (.int .i64 0) (fun a ha=>run_assign (ha.ev rfl)) ?_
 refine jn ?_
 refine JC.seq ?_
 refine JC.seq ?_
 refine JC.region ?_
 refine Lv (.string ⟨l.toArray⟩) (fun a ha=>run_move (ha.ev rfl)) ?_
 refine Lv (.int .i64 (l.length:Int)) (fun a ha=>ae9 (ha.ev rfl) bsn rfl) ?_
 refine Lv (.bool false) (fun a ha=>afd (ha.ev rfl) (ha.ev rfl) (decide_eq_false (by omega))) ?_
 refine jn ?_
 refine JC.abl rfl ?_
 refine JC.abu (fun _ _ h=>h) ?_
 refine JC.seq ?_
 refine JC.seq ?_
 refine JC.region ?_
 refine Lv (.string ⟨l.toArray⟩) (fun a ha=>run_move (ha.ev rfl)) ?_
 refine Lv (.int .i64 (l.length:Int)) (fun a ha=>ae9 (ha.ev rfl) bsn rfl) ?_
 refine Lv (.int .i64 0) (fun a ha=>run_move (ha.ev rfl)) ?_
 refine jn ?_
 refine JC.block ?_
 refine JC.sub (T':=[(0,.string ⟨l.toArray⟩),(2,.pointer (some ⟨g1,0,none⟩)),(11,.string ⟨l.toArray⟩),(12,.int .i64 (l.length:Int)),(13,.bool false),(15,.string ⟨l.toArray⟩),(16,.int .i64 (l.length:Int)),(17,.int .i64 0)]) (akz.out ⟨rfl,rfl,rfl,rfl,rfl,rfl,rfl,rfl,trivial⟩) ?_
 refine JC.loop (ι:=Nat) (fun j=>l.length - j) (fun j=>[(0,.string ⟨l.toArray⟩),(2,.pointer (some ⟨g1,0,none⟩)),(11,.string ⟨l.toArray⟩),(12,.int .i64 (l.length:Int)),(13,.bool false),(15,.string ⟨l.toArray⟩),(16,.int .i64 (l.length:Int)),(17,.int .i64 (j:Int))]) (fun j w=>(j≤l.length)∧St W0 (⟨g1,24,abd⟩ :: U) (Ps) w) ?_ 0 _ ⟨Nat.zero_le _,HS⟩
 skip
 rintro j wl1 ⟨a3h,HS⟩
 refine JC.sub (T':=[(0,.string ⟨l.toArray⟩),(2,.pointer (some ⟨g1,0,none⟩)),(11,.string ⟨l.toArray⟩),(12,.int .i64 (l.length:Int)),(13,.bool false),(15,.string ⟨l.toArray⟩),(16,.int .i64 (l.length:Int)),(17,.int .i64 (j:Int))]) (fun _ _ h=>h) ?_
 have HS:St W0 (⟨g1,24,abd⟩ :: U) (Ps) wl1:=HS
 refine JC.seq ?_
 refine JC.region ?_
 refine Lv (.bool (decide ((j:Int) < (l.length:Int)))) (fun a ha=>akj (ha.ev rfl) (ha.ev rfl) rfl) ?_
 refine jn ?_
 refine JC.seq ?_
 cases hsp2:(decide ((j:Int) < (l.length:Int)))
 ·skip
  have hd2:=of_decide_eq_false hsp2
  refine JC.abl rfl ?_
  refine JC.exit (fun _ _ h=>h) (fun _ _ h=>h) ?_
  refine JC.seq ?_
  refine JC.region ?_
  refine Lv (.string ⟨l.toArray⟩) (fun a ha=>run_move (ha.ev rfl)) ?_
  refine JL.call rfl rfl bsA (hp HS) (fun v3 w3 HR3 => ?_)
  obtain ⟨s3,A3,n3,c3,rfl,HS⟩:=HR3
  refine Lv (.tuple #[.agg #[.bool s3,.slice A3 n3 c3],.int .i64 c]) (fun a ha=>run_move (ha.ev rfl)) ?_
  refine Lv (.agg #[.bool s3,.slice A3 n3 c3]) (fun a ha=>aa6 (ha.ev rfl) rfl) ?_
  refine Lv (.int .i64 c) (fun a ha=>aa6 (ha.ev rfl) rfl) ?_
  refine JL.alloc (vs:=[.bool false,.slice none 0 0]) HS rfl bsv rfl rfl (fun g4 w4 HS => ?_)
  refine JL.store HS rfl rfl (i:=0) rfl bso rfl rfl rfl (vs':=[.bool s3,.slice A3 n3 c3]) rfl rfl (fun w5 HS => ?_)
  refine Lv (.int .i64 c) (fun a ha=>run_assign (ha.ev rfl)) ?_
  refine jn ?_
  refine JC.seq ?_
  refine JC.draw HS [4] (by kernel_rfl) (fun w6 HS => ?_)
  refine Da (.agg #[.bool s3,.slice A3 n3 c3]) 0 0 rfl HS.b0 rfl rfl bsr bso ?_
  refine Dv (.int .i64 c) 3 rfl HS.b0 (fun a ha w=>run_move (ha.ev rfl)) ?_
  refine D1c 1 rfl rfl rfl bs8 (a2x HT HB HS  ) (fun brP bsi bgO => ?_)
  obtain ⟨brl,bpt,bqk,bpJ,rfl,HS⟩:=bgO
  refine ⟨HS.b0,?_⟩
  refine D1c 2 rfl rfl rfl btg (a3X HT HB HS (HS.at_ 1 rfl) (HS.at_ 0 rfl) (by omega) (by decide)) (fun brQ bsj bgP => ?_)
  obtain ⟨bfh,bbt,bd3,bb5,bbx,bdO,bcc,rfl,HS⟩:=bgP
  refine ⟨HS.b0,?_⟩
  refine D1s 4 (btU bfh bbt bd3 bb5 bbx bdO bcc) HS 1 rfl rfl rfl rfl bsm (fun _ HS=>⟨(aoq (s:=4) rfl rfl),?_⟩)
  refine Dv (.int .i64 c) 5 rfl (aoq (s:=4) rfl rfl) (fun a ha w=>run_assign (ha.ev rfl)) ?_
  refine JR.next (by kernel_rfl) (fun _ _ h=>h) ?_
  refine JC.ret (fun a ha => ?_)
  repeat (first | refine aev ?_ | refine aeu ?_)
  refine aff (v:=(btT bfh bbt bd3 bb5 bbx bdO bcc)) (v' := .int .i64 c) ha Tryz.results28 (.agg rfl bsq bsm (HS.box _ (.tail _ (.head _))) rfl rfl) (.tmp rfl) ⟨_,rfl,?_⟩
  exact ⟨_,_,_,_,_,_,_,rfl,HS.out 2 3 0 rfl rfl rfl (fun _ h=>h.as (bh9 _) (by omega))⟩
 ·skip
  have hd2:=of_decide_eq_true hsp2
  refine JC.acZ rfl ?_
  refine JC.abu (fun _ _ h=>h) ?_
  refine JC.seq ?_
  refine JC.block ?_
  refine JC.seq ?_
  refine JC.region ?_
  refine Lv (.int .i64 (j:Int)) (fun a ha=>run_move (ha.ev rfl)) ?_
  refine Lv (.int .i64 (j:Int)) (fun a ha=>run_assign (ha.ev rfl)) ?_
  refine jn ?_
  refine JC.seq ?_
  obtain ⟨b,hb⟩ : ∃ b,l[j]? = some b:=⟨_,List.getElem?_eq_getElem (show j < l.length by omega)⟩
  obtain ⟨a3c,a3b⟩:=hcl j b hb
  refine JC.region ?_
  refine Lv (.string ⟨l.toArray⟩) (fun a ha=>run_move (ha.ev rfl)) ?_
  refine Lv (.int .i64 (j:Int)) (fun a ha=>run_move (ha.ev rfl)) ?_
  refine Lv (.int .u8 (b.toNat:Int)) (fun a ha=>afD (ha.ev rfl) (ha.ev rfl) bsn rfl hb rfl) ?_
  refine jn ?_
  refine JC.block ?_
  refine JC.seq ?_
  refine JC.region ?_
  refine Lv (.bool false) (fun a ha=>aj6 (ha.ev rfl) (ha.ev rfl) (a7S a3c)) ?_
  refine Lv (.bool false) (fun a ha=>run_assign (ha.ev rfl)) ?_
  refine jn ?_
  refine JC.abl rfl ?_
  refine JC.seq ?_
  refine JC.region ?_
  refine Lv (.bool false) (fun a ha=>aj6 (ha.ev rfl) (ha.ev rfl) (a7R a3b)) ?_
  refine Lv (.bool false) (fun a ha=>run_assign (ha.ev rfl)) ?_
  refine jn ?_
  refine JC.abl rfl ?_
  refine JC.a8s (fun _ _ h=>h) ?_
  refine JC.region ?_
  refine Lv (.int .i64 ((j+1:Nat):Int)) (fun a ha=>azn (ha.ev rfl) (ha.ev rfl) (by rw [IntKind.wrap_i64]; omega)) ?_
  refine Lv (.int .i64 ((j+1:Nat):Int)) (fun a ha=>run_move (ha.ev rfl)) ?_
  exact JL.round (j+1) (by omega) (akz.out ⟨rfl,rfl,rfl,rfl,rfl,rfl,rfl,rfl,trivial⟩) ⟨by omega,HS⟩
set_option maxHeartbeats 1000000 in
theorem bnm (HT:Tz W0) (HB:Tab W0) {l a r:List UInt8} {i0:Nat} {za ca zr cr:Int}  (HS:St W0 U Ps w)  (hcl : ∀ (j:Nat) (b:UInt8),j < i0→l[j]? = some b→b.toNat≠47∧b.toNat≠46) (hat:l[i0]? = some 47) (htk:l.take i0=a) (hdr:l.drop (i0+1)=r) (hl:l.length≤300) (ha:RP a za ca) (hr:RP r zr cr) (hbad:ca≠0∨cr≠0∨zr≤0∨aka (Rat.divInt za zr)≠l):aba Tryz.prog 28 [.string ⟨l.toArray⟩] w (aj8 W0 U Ps 0 100 (.int .i64 2)):=by
 have hi0:i0 < l.length:=(List.getElem?_eq_some_iff.1 hat).1
 refine ake btG rfl btH rfl ?_
 refine JC.seq ?_
 refine JC.region ?_
 refine JL.alloc (vs:=abd) HS rfl bsp rfl rfl (fun g1 w1 HS => ?_)
 refine Lv (.int .i64 0) (fun a ha=>run_assign (ha.ev rfl)) ?_
 refine jn ?_
 refine JC.seq ?_
 refine JC.seq ?_
 refine JC.region ?_
 refine Lv (.string ⟨l.toArray⟩) (fun a ha=>run_move (ha.ev rfl)) ?_
 refine Lv (.int .i64 (l.length:Int)) (fun a ha=>ae9 (ha.ev rfl) bsn rfl) ?_
 refine Lv (.bool false) (fun a ha=>afd (ha.ev rfl) (ha.ev rfl) (decide_eq_false (by omega))) ?_
 refine jn ?_
 refine JC.abl rfl ?_
 refine JC.abu (fun _ _ h=>h) ?_
 refine JC.seq ?_
 refine JC.seq ?_
 refine JC.region ?_
 refine Lv (.string ⟨l.toArray⟩) (fun a ha=>run_move (ha.ev rfl)) ?_
 refine Lv (.int .i64 (l.length:Int)) (fun a ha=>ae9 (ha.ev rfl) bsn rfl) ?_
 refine Lv (.int .i64 0) (fun a ha=>run_move (ha.ev rfl)) ?_
 refine jn ?_
 refine JC.block ?_
 refine JC.sub (T':=[(0,.string ⟨l.toArray⟩),(2,.pointer (some ⟨g1,0,none⟩)),(11,.string ⟨l.toArray⟩),(12,.int .i64 (l.length:Int)),(13,.bool false),(15,.string ⟨l.toArray⟩),(16,.int .i64 (l.length:Int)),(17,.int .i64 0)]) (akz.out ⟨rfl,rfl,rfl,rfl,rfl,rfl,rfl,rfl,trivial⟩) ?_
 refine JC.loop (ι:=Nat) (fun j=>l.length - j) (fun j=>[(0,.string ⟨l.toArray⟩),(2,.pointer (some ⟨g1,0,none⟩)),(11,.string ⟨l.toArray⟩),(12,.int .i64 (l.length:Int)),(13,.bool false),(15,.string ⟨l.toArray⟩),(16,.int .i64 (l.length:Int)),(17,.int .i64 (j:Int))]) (fun j w=>(j≤i0)∧St W0 (⟨g1,24,abd⟩ :: U) (Ps) w) ?_ 0 _ ⟨Nat.zero_le _,HS⟩
 skip
 rintro j wl1 ⟨a3h,HS⟩
 refine JC.sub (T':=[(0,.string ⟨l.toArray⟩),(2,.pointer (some ⟨g1,0,none⟩)),(11,.string ⟨l.toArray⟩),(12,.int .i64 (l.length:Int)),(13,.bool false),(15,.string ⟨l.toArray⟩),(16,.int .i64 (l.length:Int)),(17,.int .i64 (j:Int))]) (fun _ _ h=>h) ?_
 have HS:St W0 (⟨g1,24,abd⟩ :: U) (Ps) wl1:=HS
 refine JC.seq ?_
 refine JC.region ?_
 refine Lv (.bool true) (fun a ha=>akj (ha.ev rfl) (ha.ev rfl) (decide_eq_true (by omega))) ?_
 refine jn ?_
 refine JC.seq ?_
 refine JC.acZ rfl ?_
 refine JC.abu (fun _ _ h=>h) ?_
 refine JC.seq ?_
 refine JC.block ?_
 refine JC.seq ?_
 refine JC.region ?_
 refine Lv (.int .i64 (j:Int)) (fun a ha=>run_move (ha.ev rfl)) ?_
 refine Lv (.int .i64 (j:Int)) (fun a ha=>run_assign (ha.ev rfl)) ?_
 refine jn ?_
 by_cases hc2:j=i0
 ·skip
  refine JC.seq ?_
  refine JC.region ?_
  refine Lv (.string ⟨l.toArray⟩) (fun a ha=>run_move (ha.ev rfl)) ?_
  refine Lv (.int .i64 (j:Int)) (fun a ha=>run_move (ha.ev rfl)) ?_
  refine Lv (.int .u8 47) (fun a ha=>afD (ha.ev rfl) (ha.ev rfl) bsn (congrArg (fun x:Nat=>(x:Int)) hc2) hat rfl) ?_
  refine jn ?_
  refine JC.block ?_
  refine JC.seq ?_
  refine JC.region ?_
  refine Lv (.bool true) (fun a ha=>aj6 (ha.ev rfl) (ha.ev rfl) (by decide)) ?_
  refine Lv (.bool true) (fun a ha=>run_assign (ha.ev rfl)) ?_
  refine jn ?_
  refine JC.acZ rfl ?_
  refine JC.seq ?_
  refine JC.region ?_
  refine Lv (.string ⟨l.toArray⟩) (fun a ha=>run_move (ha.ev rfl)) ?_
  refine Lv (.int .i64 (j:Int)) (fun a ha=>run_move (ha.ev rfl)) ?_
  refine Lv (.string ⟨a.toArray⟩) (fun a ha=>ba0 (ha.ev rfl) (ha.ev rfl) bsn (congrArg (fun x:Nat=>(x:Int)) hc2) (by omega) htk) ?_
  refine JL.call rfl rfl bsA (ha HS) (fun v3 w3 HR3 => ?_)
  obtain ⟨s3,A3,n3,c3,rfl,HS⟩:=HR3
  refine Lv (.tuple #[.agg #[.bool s3,.slice A3 n3 c3],.int .i64 ca]) (fun a ha=>run_move (ha.ev rfl)) ?_
  refine Lv (.agg #[.bool s3,.slice A3 n3 c3]) (fun a ha=>aa6 (ha.ev rfl) rfl) ?_
  refine Lv (.int .i64 ca) (fun a ha=>aa6 (ha.ev rfl) rfl) ?_
  refine JL.alloc (vs:=[.bool false,.slice none 0 0]) HS rfl bsv rfl rfl (fun g4 w4 HS => ?_)
  refine JL.store HS rfl rfl (i:=0) rfl bso rfl rfl rfl (vs':=[.bool s3,.slice A3 n3 c3]) rfl rfl (fun w5 HS => ?_)
  refine Lv (.int .i64 ca) (fun a ha=>run_assign (ha.ev rfl)) ?_
  refine jn ?_
  refine JC.seq ?_
  refine JC.region ?_
  refine Lv (.string ⟨l.toArray⟩) (fun a ha=>run_move (ha.ev rfl)) ?_
  refine Lv (.int .i64 (j:Int)) (fun a ha=>run_move (ha.ev rfl)) ?_
  refine Lv (.int .i64 ((i0+1:Nat):Int)) (fun a ha=>azn (ha.ev rfl) (ha.ev rfl) (by rw [IntKind.wrap_i64]; omega)) ?_
  refine Lv (.string ⟨r.toArray⟩) (fun a ha=>a5e (ha.ev rfl) (ha.ev rfl) bsn rfl (by omega) hdr) ?_
  refine JL.call rfl rfl bsA (hr HS) (fun v6 w6 HR6 => ?_)
  obtain ⟨s6,A6,n6,c6,rfl,HS⟩:=HR6
  refine Lv (.tuple #[.agg #[.bool s6,.slice A6 n6 c6],.int .i64 cr]) (fun a ha=>run_move (ha.ev rfl)) ?_
  refine Lv (.agg #[.bool s6,.slice A6 n6 c6]) (fun a ha=>aa6 (ha.ev rfl) rfl) ?_
  refine Lv (.int .i64 cr) (fun a ha=>aa6 (ha.ev rfl) rfl) ?_
  refine JL.alloc (vs:=[.bool false,.slice none 0 0]) HS rfl bsv rfl rfl (fun g7 w7 HS => ?_)
  refine JL.store HS rfl rfl (i:=0) rfl bso rfl rfl rfl (vs':=[.bool s6,.slice A6 n6 c6]) rfl rfl (fun w8 HS => ?_)
  refine Lv (.int .i64 cr) (fun a ha=>run_assign (ha.ev rfl)) ?_
  refine jn ?_
  refine JC.seq ?_
  refine JC.seq ?_
  refine JC.region ?_
  refine Lv (.int .i64 ca) (fun a ha=>run_move (ha.ev rfl)) ?_
  refine Lv (.bool (ca != 0)) (fun a ha=>azp (ha.ev rfl) (ha.ev rfl) rfl) ?_
  cases a1O:(ca != 0)
  ·skip
   refine Lv (.bool false) (fun a ha=>run_move (ha.ev rfl)) ?_
   refine Lg (.int .i64 cr) (fun a ha=>run_move (ha.ev rfl)) ?_
   refine Lg (.bool (cr != 0)) (fun a ha=>azp (ha.ev rfl) (ha.ev rfl) rfl) ?_
   refine Lv (.bool (cr != 0)) (fun a ha=>abE (ha.ev rfl) (ha.ev rfl)) ?_
   cases a2m:(cr != 0)
   ·skip
    refine Lv (.bool false) (fun a ha=>run_move (ha.ev rfl)) ?_
    refine Lg (.agg #[.bool s6,.slice A6 n6 c6]) (fun a ha=>atD (ha.ev rfl) bsr bso (HS.box _ (.head _)) rfl rfl) ?_
    refine JL.ajo rfl rfl rfl rfl rfl rfl bsI (a1b HT HB HS (HS.at_ 0 rfl) (by omega)) (fun v11 w11 a5I => ?_)
    obtain ⟨rfl,HS⟩:=a5I
    refine Lg (.bool (decide (zr≤0))) (fun a ha=>a5c (ha.ev rfl) (ha.ev rfl) (bfp _)) ?_
    refine Lv (.bool (decide (zr≤0))) (fun a ha=>abE (ha.ev rfl) (ha.ev rfl)) ?_
    cases a94:((decide (zr≤0)))
    ·skip
     refine Lv (.bool false) (fun a ha=>run_move (ha.ev rfl)) ?_
     refine Lg (.agg #[.bool s3,.slice A3 n3 c3]) (fun a ha=>atD (ha.ev rfl) bsr bso (HS.box _ (.tail _ (.head _))) rfl rfl) ?_
     refine Lg (.agg #[.bool s6,.slice A6 n6 c6]) (fun a ha=>atD (ha.ev rfl) bsr bso (HS.box _ (.head _)) rfl rfl) ?_
     refine JL.ajo rfl rfl rfl rfl rfl rfl btg (a3X HT HB HS (HS.at_ 1 rfl) (HS.at_ 0 rfl) (by omega) (by have h9:=of_decide_eq_false (p:=zr≤0) (by assumption); omega)) (fun v13 w13 bgg => ?_)
     obtain ⟨s13,A13,n13,c13,B13,m13,d13,rfl,HS⟩:=bgg
     refine JL.ajo rfl rfl rfl rfl rfl rfl btR (a8j HT HB HS (HS.at_ 0 rfl) (by omega)) (fun v14 w14 a5L => ?_)
     obtain ⟨rfl,HS⟩:=a5L
     refine Lg (.string ⟨l.toArray⟩) (fun a ha=>run_move (ha.ev rfl)) ?_
     refine Lg (.bool (aka (Rat.divInt za zr) != l)) (fun a ha=>a8o (ha.ev rfl) (ha.ev rfl) rfl) ?_
     refine Lv (.bool (aka (Rat.divInt za zr) != l)) (fun a ha=>abE (ha.ev rfl) (ha.ev rfl)) ?_
     refine jn ?_
     cases bj1:((aka (Rat.divInt za zr) != l))
     ·skip
      exact absurd hbad (by rintro (h | h | h | h); exact h (by simpa using a1O); exact h (by simpa using a2m); exact of_decide_eq_false a94 h; exact h (by simpa using bj1))
     ·skip
      refine JC.acZ rfl ?_
      refine JC.seq ?_
      refine JC.region ?_
      refine Lv abe (fun a ha=>acY.run_build (vs:=[]) (by simp only [List.map_cons,List.map_nil]) bsu bsp ahx rfl) ?_
      refine JL.store HS rfl rfl (i:=2) rfl bsm rfl rfl rfl (vs':=abd) rfl rfl (fun w16 HS => ?_)
      refine Lv (.int .i64 2) (fun a ha=>run_assign (ha.ev rfl)) ?_
      refine jn ?_
      refine JC.ret (fun a ha => ?_)
      repeat (first | refine aev ?_ | refine aeu ?_)
      refine aff (v:=abe) (v' := .int .i64 2) ha Tryz.results28 (.agg rfl bsq bsm (HS.box _ (.tail _ (.tail _ (.head _)))) rfl rfl) (.tmp rfl) ⟨_,rfl,?_⟩
      exact ⟨_,_,_,_,_,_,_,rfl,(HS.add (FV.stable _ _ _ _) ((FV.zero 0 _).as rfl (by omega))).alm 3 3 rfl rfl⟩
    ·skip
     refine Lv (.bool true) (fun a ha=>run_move (ha.ev rfl)) ?_
     refine Lp ?_
     refine Lp ?_
     refine Lp ?_
     refine Lp ?_
     refine Lp ?_
     refine Lp ?_
     refine Lv (.bool true) (fun a ha=>ae7 (ha.ev rfl) (ha.ev rfl)) ?_
     refine jn ?_
     refine JC.acZ rfl ?_
     refine JC.seq ?_
     refine JC.region ?_
     refine Lv abe (fun a ha=>acY.run_build (vs:=[]) (by simp only [List.map_cons,List.map_nil]) bsu bsp ahx rfl) ?_
     refine JL.store HS rfl rfl (i:=2) rfl bsm rfl rfl rfl (vs':=abd) rfl rfl (fun w17 HS => ?_)
     refine Lv (.int .i64 2) (fun a ha=>run_assign (ha.ev rfl)) ?_
     refine jn ?_
     refine JC.ret (fun a ha => ?_)
     repeat (first | refine aev ?_ | refine aeu ?_)
     refine aff (v:=abe) (v' := .int .i64 2) ha Tryz.results28 (.agg rfl bsq bsm (HS.box _ (.tail _ (.tail _ (.head _)))) rfl rfl) (.tmp rfl) ⟨_,rfl,?_⟩
     exact ⟨_,_,_,_,_,_,_,rfl,(HS.add (FV.stable _ _ _ _) ((FV.zero 0 _).as rfl (by omega))).alm 3 2 rfl rfl⟩
   ·skip
    refine Lv (.bool true) (fun a ha=>run_move (ha.ev rfl)) ?_
    refine Lp ?_
    refine Lp ?_
    refine Lp ?_
    refine Lv (.bool true) (fun a ha=>ae7 (ha.ev rfl) (ha.ev rfl)) ?_
    refine Lv (.bool true) (fun a ha=>run_move (ha.ev rfl)) ?_
    refine Lp ?_
    refine Lp ?_
    refine Lp ?_
    refine Lp ?_
    refine Lp ?_
    refine Lp ?_
    refine Lv (.bool true) (fun a ha=>ae7 (ha.ev rfl) (ha.ev rfl)) ?_
    refine jn ?_
    refine JC.acZ rfl ?_
    refine JC.seq ?_
    refine JC.region ?_
    refine Lv abe (fun a ha=>acY.run_build (vs:=[]) (by simp only [List.map_cons,List.map_nil]) bsu bsp ahx rfl) ?_
    refine JL.store HS rfl rfl (i:=2) rfl bsm rfl rfl rfl (vs':=abd) rfl rfl (fun w18 HS => ?_)
    refine Lv (.int .i64 2) (fun a ha=>run_assign (ha.ev rfl)) ?_
    refine jn ?_
    refine JC.ret (fun a ha => ?_)
    repeat (first | refine aev ?_ | refine aeu ?_)
    refine aff (v:=abe) (v' := .int .i64 2) ha Tryz.results28 (.agg rfl bsq bsm (HS.box _ (.tail _ (.tail _ (.head _)))) rfl rfl) (.tmp rfl) ⟨_,rfl,?_⟩
    exact ⟨_,_,_,_,_,_,_,rfl,(HS.add (FV.stable _ _ _ _) ((FV.zero 0 _).as rfl (by omega))).alm 3 2 rfl rfl⟩
  ·skip
   refine Lv (.bool true) (fun a ha=>run_move (ha.ev rfl)) ?_
   refine Lp ?_
   refine Lp ?_
   refine Lv (.bool true) (fun a ha=>ae7 (ha.ev rfl) (ha.ev rfl)) ?_
   refine Lv (.bool true) (fun a ha=>run_move (ha.ev rfl)) ?_
   refine Lp ?_
   refine Lp ?_
   refine Lp ?_
   refine Lv (.bool true) (fun a ha=>ae7 (ha.ev rfl) (ha.ev rfl)) ?_
   refine Lv (.bool true) (fun a ha=>run_move (ha.ev rfl)) ?_
   refine Lp ?_
   refine Lp ?_
   refine Lp ?_
   refine Lp ?_
   refine Lp ?_
   refine Lp ?_
   refine Lv (.bool true) (fun a ha=>ae7 (ha.ev rfl) (ha.ev rfl)) ?_
   refine jn ?_
   refine JC.acZ rfl ?_
   refine JC.seq ?_
   refine JC.region ?_
   refine Lv abe (fun a ha=>acY.run_build (vs:=[]) (by simp only [List.map_cons,List.map_nil]) bsu bsp ahx rfl) ?_
   refine JL.store HS rfl rfl (i:=2) rfl bsm rfl rfl rfl (vs':=abd) rfl rfl (fun w19 HS => ?_)
   refine Lv (.int .i64 2) (fun a ha=>run_assign (ha.ev rfl)) ?_
   refine jn ?_
   refine JC.ret (fun a ha => ?_)
   repeat (first | refine aev ?_ | refine aeu ?_)
   refine aff (v:=abe) (v' := .int .i64 2) ha Tryz.results28 (.agg rfl bsq bsm (HS.box _ (.tail _ (.tail _ (.head _)))) rfl rfl) (.tmp rfl) ⟨_,rfl,?_⟩
   exact ⟨_,_,_,_,_,_,_,rfl,(HS.add (FV.stable _ _ _ _) ((FV.zero 0 _).as rfl (by omega))).alm 3 2 rfl rfl⟩
 ·skip
  refine JC.seq ?_
  obtain ⟨b,hb⟩ : ∃ b,l[j]? = some b:=⟨_,List.getElem?_eq_getElem (show j < l.length by omega)⟩
  obtain ⟨a3c,a3b⟩:=hcl j b (by omega) hb
  refine JC.region ?_
  refine Lv (.string ⟨l.toArray⟩) (fun a ha=>run_move (ha.ev rfl)) ?_
  refine Lv (.int .i64 (j:Int)) (fun a ha=>run_move (ha.ev rfl)) ?_
  refine Lv (.int .u8 (b.toNat:Int)) (fun a ha=>afD (ha.ev rfl) (ha.ev rfl) bsn rfl hb rfl) ?_
  refine jn ?_
  refine JC.block ?_
  refine JC.seq ?_
  refine JC.region ?_
  refine Lv (.bool false) (fun a ha=>aj6 (ha.ev rfl) (ha.ev rfl) (a7S a3c)) ?_
  refine Lv (.bool false) (fun a ha=>run_assign (ha.ev rfl)) ?_
  refine jn ?_
  refine JC.abl rfl ?_
  refine JC.seq ?_
  refine JC.region ?_
  refine Lv (.bool false) (fun a ha=>aj6 (ha.ev rfl) (ha.ev rfl) (a7R a3b)) ?_
  refine Lv (.bool false) (fun a ha=>run_assign (ha.ev rfl)) ?_
  refine jn ?_
  refine JC.abl rfl ?_
  refine JC.a8s (fun _ _ h=>h) ?_
  refine JC.region ?_
  refine Lv (.int .i64 ((j+1:Nat):Int)) (fun a ha=>azn (ha.ev rfl) (ha.ev rfl) (by rw [IntKind.wrap_i64]; omega)) ?_
  refine Lv (.int .i64 ((j+1:Nat):Int)) (fun a ha=>run_move (ha.ev rfl)) ?_
  exact JL.round (j+1) (by omega) (akz.out ⟨rfl,rfl,rfl,rfl,rfl,rfl,rfl,rfl,trivial⟩) ⟨by omega,HS⟩
set_option maxHeartbeats 1000000 in
theorem bnp (HT:Tz W0) (HB:Tab W0) {l a r:List UInt8} {i0:Nat} {za ca zr cr:Int}  (HS:St W0 U Ps w)  (hcl : ∀ (j:Nat) (b:UInt8),j < i0→l[j]? = some b→b.toNat≠47∧b.toNat≠46) (hat:l[i0]? = some 47) (htk:l.take i0=a) (hdr:l.drop (i0+1)=r) (hl:l.length≤300) (ha:RP a za ca) (hr:RP r zr cr) (hok:ca=0∧cr=0∧0 < zr∧aka (Rat.divInt za zr)=l):aba Tryz.prog 28 [.string ⟨l.toArray⟩] w (aj8 W0 U Ps (Rat.divInt za zr) 100 (.int .i64 0)):=by
 have hi0:i0 < l.length:=(List.getElem?_eq_some_iff.1 hat).1
 refine ake btG rfl btH rfl ?_
 refine JC.seq ?_
 refine JC.region ?_
 refine JL.alloc (vs:=abd) HS rfl bsp rfl rfl (fun g1 w1 HS => ?_)
 refine Lv (.int .i64 0) (fun a ha=>run_assign (ha.ev rfl)) ?_
 refine jn ?_
 refine JC.seq ?_
 refine JC.seq ?_
 refine JC.region ?_
 refine Lv (.string ⟨l.toArray⟩) (fun a ha=>run_move (ha.ev rfl)) ?_
 refine Lv (.int .i64 (l.length:Int)) (fun a ha=>ae9 (ha.ev rfl) bsn rfl) ?_
 refine Lv (.bool false) (fun a ha=>afd (ha.ev rfl) (ha.ev rfl) (decide_eq_false (by omega))) ?_
 refine jn ?_
 refine JC.abl rfl ?_
 refine JC.abu (fun _ _ h=>h) ?_
 refine JC.seq ?_
 refine JC.seq ?_
 refine JC.region ?_
 refine Lv (.string ⟨l.toArray⟩) (fun a ha=>run_move (ha.ev rfl)) ?_
 refine Lv (.int .i64 (l.length:Int)) (fun a ha=>ae9 (ha.ev rfl) bsn rfl) ?_
 refine Lv (.int .i64 0) (fun a ha=>run_move (ha.ev rfl)) ?_
 refine jn ?_
 refine JC.block ?_
 refine JC.sub (T':=[(0,.string ⟨l.toArray⟩),(2,.pointer (some ⟨g1,0,none⟩)),(11,.string ⟨l.toArray⟩),(12,.int .i64 (l.length:Int)),(13,.bool false),(15,.string ⟨l.toArray⟩),(16,.int .i64 (l.length:Int)),(17,.int .i64 0)]) (akz.out ⟨rfl,rfl,rfl,rfl,rfl,rfl,rfl,rfl,trivial⟩) ?_
 refine JC.loop (ι:=Nat) (fun j=>l.length - j) (fun j=>[(0,.string ⟨l.toArray⟩),(2,.pointer (some ⟨g1,0,none⟩)),(11,.string ⟨l.toArray⟩),(12,.int .i64 (l.length:Int)),(13,.bool false),(15,.string ⟨l.toArray⟩),(16,.int .i64 (l.length:Int)),(17,.int .i64 (j:Int))]) (fun j w=>(j≤i0)∧St W0 (⟨g1,24,abd⟩ :: U) (Ps) w) ?_ 0 _ ⟨Nat.zero_le _,HS⟩
 skip
 rintro j wl1 ⟨a3h,HS⟩
 refine JC.sub (T':=[(0,.string ⟨l.toArray⟩),(2,.pointer (some ⟨g1,0,none⟩)),(11,.string ⟨l.toArray⟩),(12,.int .i64 (l.length:Int)),(13,.bool false),(15,.string ⟨l.toArray⟩),(16,.int .i64 (l.length:Int)),(17,.int .i64 (j:Int))]) (fun _ _ h=>h) ?_
 have HS:St W0 (⟨g1,24,abd⟩ :: U) (Ps) wl1:=HS
 refine JC.seq ?_
 refine JC.region ?_
 refine Lv (.bool true) (fun a ha=>akj (ha.ev rfl) (ha.ev rfl) (decide_eq_true (by omega))) ?_
 refine jn ?_
 refine JC.seq ?_
 refine JC.acZ rfl ?_
 refine JC.abu (fun _ _ h=>h) ?_
 refine JC.seq ?_
 refine JC.block ?_
 refine JC.seq ?_
 refine JC.region ?_
 refine Lv (.int .i64 (j:Int)) (fun a ha=>run_move (ha.ev rfl)) ?_
 refine Lv (.int .i64 (j:Int)) (fun a ha=>run_assign (ha.ev rfl)) ?_
 refine jn ?_
 by_cases hc2:j=i0
 ·skip
  refine JC.seq ?_
  refine JC.region ?_
  refine Lv (.string ⟨l.toArray⟩) (fun a ha=>run_move (ha.ev rfl)) ?_
  refine Lv (.int .i64 (j:Int)) (fun a ha=>run_move (ha.ev rfl)) ?_
  refine Lv (.int .u8 47) (fun a ha=>afD (ha.ev rfl) (ha.ev rfl) bsn (congrArg (fun x:Nat=>(x:Int)) hc2) hat rfl) ?_
  refine jn ?_
  refine JC.block ?_
  refine JC.seq ?_
  refine JC.region ?_
  refine Lv (.bool true) (fun a ha=>aj6 (ha.ev rfl) (ha.ev rfl) (by decide)) ?_
  refine Lv (.bool true) (fun a ha=>run_assign (ha.ev rfl)) ?_
  refine jn ?_
  refine JC.acZ rfl ?_
  refine JC.seq ?_
  refine JC.region ?_
  refine Lv (.string ⟨l.toArray⟩) (fun a ha=>run_move (ha.ev rfl)) ?_
  refine Lv (.int .i64 (j:Int)) (fun a ha=>run_move (ha.ev rfl)) ?_
  refine Lv (.string ⟨a.toArray⟩) (fun a ha=>ba0 (ha.ev rfl) (ha.ev rfl) bsn (congrArg (fun x:Nat=>(x:Int)) hc2) (by omega) htk) ?_
  refine JL.call rfl rfl bsA (ha HS) (fun v3 w3 HR3 => ?_)
  obtain ⟨s3,A3,n3,c3,rfl,HS⟩:=HR3
  refine Lv (.tuple #[.agg #[.bool s3,.slice A3 n3 c3],.int .i64 ca]) (fun a ha=>run_move (ha.ev rfl)) ?_
  refine Lv (.agg #[.bool s3,.slice A3 n3 c3]) (fun a ha=>aa6 (ha.ev rfl) rfl) ?_
  refine Lv (.int .i64 ca) (fun a ha=>aa6 (ha.ev rfl) rfl) ?_
  refine JL.alloc (vs:=[.bool false,.slice none 0 0]) HS rfl bsv rfl rfl (fun g4 w4 HS => ?_)
  refine JL.store HS rfl rfl (i:=0) rfl bso rfl rfl rfl (vs':=[.bool s3,.slice A3 n3 c3]) rfl rfl (fun w5 HS => ?_)
  refine Lv (.int .i64 ca) (fun a ha=>run_assign (ha.ev rfl)) ?_
  refine jn ?_
  refine JC.seq ?_
  refine JC.region ?_
  refine Lv (.string ⟨l.toArray⟩) (fun a ha=>run_move (ha.ev rfl)) ?_
  refine Lv (.int .i64 (j:Int)) (fun a ha=>run_move (ha.ev rfl)) ?_
  refine Lv (.int .i64 ((i0+1:Nat):Int)) (fun a ha=>azn (ha.ev rfl) (ha.ev rfl) (by rw [IntKind.wrap_i64]; omega)) ?_
  refine Lv (.string ⟨r.toArray⟩) (fun a ha=>a5e (ha.ev rfl) (ha.ev rfl) bsn rfl (by omega) hdr) ?_
  refine JL.call rfl rfl bsA (hr HS) (fun v6 w6 HR6 => ?_)
  obtain ⟨s6,A6,n6,c6,rfl,HS⟩:=HR6
  refine Lv (.tuple #[.agg #[.bool s6,.slice A6 n6 c6],.int .i64 cr]) (fun a ha=>run_move (ha.ev rfl)) ?_
  refine Lv (.agg #[.bool s6,.slice A6 n6 c6]) (fun a ha=>aa6 (ha.ev rfl) rfl) ?_
  refine Lv (.int .i64 cr) (fun a ha=>aa6 (ha.ev rfl) rfl) ?_
  refine JL.alloc (vs:=[.bool false,.slice none 0 0]) HS rfl bsv rfl rfl (fun g7 w7 HS => ?_)
  refine JL.store HS rfl rfl (i:=0) rfl bso rfl rfl rfl (vs':=[.bool s6,.slice A6 n6 c6]) rfl rfl (fun w8 HS => ?_)
  refine Lv (.int .i64 cr) (fun a ha=>run_assign (ha.ev rfl)) ?_
  refine jn ?_
  refine JC.seq ?_
  refine JC.seq ?_
  refine JC.region ?_
  refine Lv (.int .i64 ca) (fun a ha=>run_move (ha.ev rfl)) ?_
  refine Lv (.bool false) (fun a ha=>azp (ha.ev rfl) (ha.ev rfl) (by rw [hok.1]; rfl)) ?_
  refine Lv (.bool false) (fun a ha=>run_move (ha.ev rfl)) ?_
  refine Lg (.int .i64 cr) (fun a ha=>run_move (ha.ev rfl)) ?_
  refine Lg (.bool false) (fun a ha=>azp (ha.ev rfl) (ha.ev rfl) (by rw [hok.2.1]; rfl)) ?_
  refine Lv (.bool false) (fun a ha=>abE (ha.ev rfl) (ha.ev rfl)) ?_
  refine Lv (.bool false) (fun a ha=>run_move (ha.ev rfl)) ?_
  refine Lg (.agg #[.bool s6,.slice A6 n6 c6]) (fun a ha=>atD (ha.ev rfl) bsr bso (HS.box _ (.head _)) rfl rfl) ?_
  refine JL.ajo rfl rfl rfl rfl rfl rfl bsI (a1b HT HB HS (HS.at_ 0 rfl) (by omega)) (fun v9 w9 HR9 => ?_)
  obtain ⟨rfl,HS⟩:=HR9
  refine Lg (.bool false) (fun a ha=>a5c (ha.ev rfl) (ha.ev rfl) ((bfp _).trans (decide_eq_false (show ¬ zr≤0 by omega)))) ?_
  refine Lv (.bool false) (fun a ha=>abE (ha.ev rfl) (ha.ev rfl)) ?_
  refine Lv (.bool false) (fun a ha=>run_move (ha.ev rfl)) ?_
  refine Lg (.agg #[.bool s3,.slice A3 n3 c3]) (fun a ha=>atD (ha.ev rfl) bsr bso (HS.box _ (.tail _ (.head _))) rfl rfl) ?_
  refine Lg (.agg #[.bool s6,.slice A6 n6 c6]) (fun a ha=>atD (ha.ev rfl) bsr bso (HS.box _ (.head _)) rfl rfl) ?_
  refine JL.ajo rfl rfl rfl rfl rfl rfl btg (a3X HT HB HS (HS.at_ 1 rfl) (HS.at_ 0 rfl) (by omega) (by omega)) (fun v10 w10 a8N => ?_)
  obtain ⟨s10,A10,n10,c10,B10,m10,d10,rfl,HS⟩:=a8N
  refine JL.ajo rfl rfl rfl rfl rfl rfl btR (a8j HT HB HS (HS.at_ 0 rfl) (by omega)) (fun v11 w11 a5I => ?_)
  obtain ⟨rfl,HS⟩:=a5I
  refine Lg (.string ⟨l.toArray⟩) (fun a ha=>run_move (ha.ev rfl)) ?_
  refine Lg (.bool false) (fun a ha=>a8o (ha.ev rfl) (ha.ev rfl) (bhk hok.2.2.2)) ?_
  refine Lv (.bool false) (fun a ha=>abE (ha.ev rfl) (ha.ev rfl)) ?_
  refine jn ?_
  refine JC.abl rfl ?_
  refine JC.abu (fun _ _ h=>h) ?_
  refine JC.seq ?_
  refine JC.region ?_
  refine JL.load (.agg #[.bool s3,.slice A3 n3 c3]) HS 1 rfl rfl rfl bsr bso rfl rfl ?_
  refine JL.load (.agg #[.bool s6,.slice A6 n6 c6]) HS 0 rfl rfl rfl bsr bso rfl rfl ?_
  refine JL.call rfl rfl btg (a3X HT HB HS (HS.at_ 2 rfl) (HS.at_ 1 rfl) (by omega) (by omega)) (fun v12 w12 a2L => ?_)
  obtain ⟨s12,A12,n12,c12,B12,m12,d12,rfl,HS⟩:=a2L
  refine JL.store HS rfl rfl (i:=2) rfl bsm rfl rfl rfl (vs':=(btU s12 A12 n12 c12 B12 m12 d12)) rfl rfl (fun w13 HS => ?_)
  refine Lv (.int .i64 0) (fun a ha=>run_assign (ha.ev rfl)) ?_
  refine jn ?_
  refine JC.ret (fun a ha => ?_)
  repeat (first | refine aev ?_ | refine aeu ?_)
  refine aff (v:=(btT s12 A12 n12 c12 B12 m12 d12)) (v' := .int .i64 0) ha Tryz.results28 (.agg rfl bsq bsm (HS.box _ (.tail _ (.tail _ (.head _)))) rfl rfl) (.tmp rfl) ⟨_,rfl,?_⟩
  exact ⟨_,_,_,_,_,_,_,rfl,HS.out 3 4 0 rfl rfl rfl (fun _ h=>h.as rfl (by omega))⟩
 ·skip
  refine JC.seq ?_
  obtain ⟨b,hb⟩ : ∃ b,l[j]? = some b:=⟨_,List.getElem?_eq_getElem (show j < l.length by omega)⟩
  obtain ⟨a3c,a3b⟩:=hcl j b (by omega) hb
  refine JC.region ?_
  refine Lv (.string ⟨l.toArray⟩) (fun a ha=>run_move (ha.ev rfl)) ?_
  refine Lv (.int .i64 (j:Int)) (fun a ha=>run_move (ha.ev rfl)) ?_
  refine Lv (.int .u8 (b.toNat:Int)) (fun a ha=>afD (ha.ev rfl) (ha.ev rfl) bsn rfl hb rfl) ?_
  refine jn ?_
  refine JC.block ?_
  refine JC.seq ?_
  refine JC.region ?_
  refine Lv (.bool false) (fun a ha=>aj6 (ha.ev rfl) (ha.ev rfl) (a7S a3c)) ?_
  refine Lv (.bool false) (fun a ha=>run_assign (ha.ev rfl)) ?_
  refine jn ?_
  refine JC.abl rfl ?_
  refine JC.seq ?_
  refine JC.region ?_
  refine Lv (.bool false) (fun a ha=>aj6 (ha.ev rfl) (ha.ev rfl) (a7R a3b)) ?_
  refine Lv (.bool false) (fun a ha=>run_assign (ha.ev rfl)) ?_
  refine jn ?_
  refine JC.abl rfl ?_
  refine JC.a8s (fun _ _ h=>h) ?_
  refine JC.region ?_
  refine Lv (.int .i64 ((j+1:Nat):Int)) (fun a ha=>azn (ha.ev rfl) (ha.ev rfl) (by rw [IntKind.wrap_i64]; omega)) ?_
  refine Lv (.int .i64 ((j+1:Nat):Int)) (fun a ha=>run_move (ha.ev rfl)) ?_
  exact JL.round (j+1) (by omega) (akz.out ⟨rfl,rfl,rfl,rfl,rfl,rfl,rfl,rfl,trivial⟩) ⟨by omega,HS⟩
set_option maxHeartbeats 1000000 in
theorem bnn (HT:Tz W0) (HB:Tab W0) {l a r:List UInt8} {i0:Nat} {q:Rat} {c:Int}  (HS:St W0 U Ps w)  (hcl : ∀ (j:Nat) (b:UInt8),j < i0→l[j]? = some b→b.toNat≠47∧b.toNat≠46) (hat:l[i0]? = some 46) (htk:l.take i0=a) (hdr:l.drop (i0+1)=r) (hl:l.length≤300) (hd:RD a r (l.length:Int) q c):aba Tryz.prog 28 [.string ⟨l.toArray⟩] w (aj8 W0 U Ps q 200 (.int .i64 c)):=by
 have hi0:i0 < l.length:=(List.getElem?_eq_some_iff.1 hat).1
 refine ake btG rfl btH rfl ?_
 refine JC.seq ?_
 refine JC.region ?_
 refine JL.alloc (vs:=abd) HS rfl bsp rfl rfl (fun g1 w1 HS => ?_)
 refine Lv (.int .i64 0) (fun a ha=>run_assign (ha.ev rfl)) ?_
 refine jn ?_
 refine JC.seq ?_
 refine JC.seq ?_
 refine JC.region ?_
 refine Lv (.string ⟨l.toArray⟩) (fun a ha=>run_move (ha.ev rfl)) ?_
 refine Lv (.int .i64 (l.length:Int)) (fun a ha=>ae9 (ha.ev rfl) bsn rfl) ?_
 refine Lv (.bool false) (fun a ha=>afd (ha.ev rfl) (ha.ev rfl) (decide_eq_false (by omega))) ?_
 refine jn ?_
 refine JC.abl rfl ?_
 refine JC.abu (fun _ _ h=>h) ?_
 refine JC.seq ?_
 refine JC.seq ?_
 refine JC.region ?_
 refine Lv (.string ⟨l.toArray⟩) (fun a ha=>run_move (ha.ev rfl)) ?_
 refine Lv (.int .i64 (l.length:Int)) (fun a ha=>ae9 (ha.ev rfl) bsn rfl) ?_
 refine Lv (.int .i64 0) (fun a ha=>run_move (ha.ev rfl)) ?_
 refine jn ?_
 refine JC.block ?_
 refine JC.sub (T':=[(0,.string ⟨l.toArray⟩),(2,.pointer (some ⟨g1,0,none⟩)),(11,.string ⟨l.toArray⟩),(12,.int .i64 (l.length:Int)),(13,.bool false),(15,.string ⟨l.toArray⟩),(16,.int .i64 (l.length:Int)),(17,.int .i64 0)]) (akz.out ⟨rfl,rfl,rfl,rfl,rfl,rfl,rfl,rfl,trivial⟩) ?_
 refine JC.loop (ι:=Nat) (fun j=>l.length - j) (fun j=>[(0,.string ⟨l.toArray⟩),(2,.pointer (some ⟨g1,0,none⟩)),(11,.string ⟨l.toArray⟩),(12,.int .i64 (l.length:Int)),(13,.bool false),(15,.string ⟨l.toArray⟩),(16,.int .i64 (l.length:Int)),(17,.int .i64 (j:Int))]) (fun j w=>(j≤i0)∧St W0 (⟨g1,24,abd⟩ :: U) (Ps) w) ?_ 0 _ ⟨Nat.zero_le _,HS⟩
 skip
 rintro j wl1 ⟨a3h,HS⟩
 refine JC.sub (T':=[(0,.string ⟨l.toArray⟩),(2,.pointer (some ⟨g1,0,none⟩)),(11,.string ⟨l.toArray⟩),(12,.int .i64 (l.length:Int)),(13,.bool false),(15,.string ⟨l.toArray⟩),(16,.int .i64 (l.length:Int)),(17,.int .i64 (j:Int))]) (fun _ _ h=>h) ?_
 have HS:St W0 (⟨g1,24,abd⟩ :: U) (Ps) wl1:=HS
 refine JC.seq ?_
 refine JC.region ?_
 refine Lv (.bool true) (fun a ha=>akj (ha.ev rfl) (ha.ev rfl) (decide_eq_true (by omega))) ?_
 refine jn ?_
 refine JC.seq ?_
 refine JC.acZ rfl ?_
 refine JC.abu (fun _ _ h=>h) ?_
 refine JC.seq ?_
 refine JC.block ?_
 refine JC.seq ?_
 refine JC.region ?_
 refine Lv (.int .i64 (j:Int)) (fun a ha=>run_move (ha.ev rfl)) ?_
 refine Lv (.int .i64 (j:Int)) (fun a ha=>run_assign (ha.ev rfl)) ?_
 refine jn ?_
 by_cases hc2:j=i0
 ·skip
  refine JC.seq ?_
  refine JC.region ?_
  refine Lv (.string ⟨l.toArray⟩) (fun a ha=>run_move (ha.ev rfl)) ?_
  refine Lv (.int .i64 (j:Int)) (fun a ha=>run_move (ha.ev rfl)) ?_
  refine Lv (.int .u8 46) (fun a ha=>afD (ha.ev rfl) (ha.ev rfl) bsn (congrArg (fun x:Nat=>(x:Int)) hc2) hat rfl) ?_
  refine jn ?_
  refine JC.block ?_
  refine JC.seq ?_
  refine JC.region ?_
  refine Lv (.bool false) (fun a ha=>aj6 (ha.ev rfl) (ha.ev rfl) (by decide)) ?_
  refine Lv (.bool false) (fun a ha=>run_assign (ha.ev rfl)) ?_
  refine jn ?_
  refine JC.abl rfl ?_
  refine JC.seq ?_
  refine JC.region ?_
  refine Lv (.bool true) (fun a ha=>aj6 (ha.ev rfl) (ha.ev rfl) (by decide)) ?_
  refine Lv (.bool true) (fun a ha=>run_assign (ha.ev rfl)) ?_
  refine jn ?_
  refine JC.acZ rfl ?_
  refine JC.seq ?_
  refine JC.draw HS [12] (by kernel_rfl) (fun w3 HS => ?_)
  refine Dv (.string ⟨l.toArray⟩) 0 rfl HS.b0 (fun a ha w=>run_move (ha.ev rfl)) ?_
  refine Dv (.int .i64 (j:Int)) 1 rfl HS.b0 (fun a ha w=>run_move (ha.ev rfl)) ?_
  refine Dv (.string ⟨a.toArray⟩) 2 rfl HS.b0 (fun a ha w=>ba0 (ha.ev rfl) (ha.ev rfl) bsn (congrArg (fun x:Nat=>(x:Int)) hc2) (by omega) htk) ?_
  refine Dv (.string ⟨l.toArray⟩) 3 rfl HS.b0 (fun a ha w=>run_move (ha.ev rfl)) ?_
  refine Dv (.int .i64 (j:Int)) 4 rfl HS.b0 (fun a ha w=>run_move (ha.ev rfl)) ?_
  refine Dv (.int .i64 ((i0+1:Nat):Int)) 5 rfl HS.b0 (fun a ha w=>azn (ha.ev rfl) (ha.ev rfl) (by rw [IntKind.wrap_i64]; omega)) ?_
  refine Dv (.string ⟨r.toArray⟩) 6 rfl HS.b0 (fun a ha w=>a5e (ha.ev rfl) (ha.ev rfl) bsn rfl (by omega) hdr) ?_
  refine Dv (.string ⟨l.toArray⟩) 7 rfl HS.b0 (fun a ha w=>run_move (ha.ev rfl)) ?_
  refine Dv (.int .i64 (l.length:Int)) 8 rfl HS.b0 (fun a ha w=>ae9 (ha.ev rfl) bsn rfl) ?_
  refine D1c 9 rfl rfl rfl Tryz.call116 (hd HT HB HS) (fun brO bsh bgN => ?_)
  obtain ⟨ba2,a8I,bav,a9r,a8K,bap,a9t,rfl,HS⟩:=bgN
  refine ⟨HS.b0,?_⟩
  refine Dv (btT ba2 a8I bav a9r a8K bap a9t) 10 rfl HS.b0 (fun a ha w=>aa6 (ha.ev rfl) rfl) ?_
  refine Dv (.int .i64 c) 11 rfl HS.b0 (fun a ha w=>aa6 (ha.ev rfl) rfl) ?_
  refine D1s 12 (btU ba2 a8I bav a9r a8K bap a9t) HS 0 rfl rfl rfl rfl bsm (fun _ HS=>⟨(aoq (s:=12) rfl rfl),?_⟩)
  refine Dv (.int .i64 c) 13 rfl (aoq (s:=12) rfl rfl) (fun a ha w=>run_assign (ha.ev rfl)) ?_
  refine JR.next (by kernel_rfl) (fun _ _ h=>h) ?_
  refine JC.ret (fun a ha => ?_)
  repeat (first | refine aev ?_ | refine aeu ?_)
  refine aff (v:=(btT ba2 a8I bav a9r a8K bap a9t)) (v' := .int .i64 c) ha Tryz.results28 (.agg rfl bsq bsm (HS.box _ (.head _)) rfl rfl) (.tmp rfl) ⟨_,rfl,?_⟩
  exact ⟨_,_,_,_,_,_,_,rfl,HS.out 1 1 0 rfl rfl rfl (fun _ h=>h.as rfl (by omega))⟩
 ·skip
  refine JC.seq ?_
  obtain ⟨b,hb⟩ : ∃ b,l[j]? = some b:=⟨_,List.getElem?_eq_getElem (show j < l.length by omega)⟩
  obtain ⟨a3c,a3b⟩:=hcl j b (by omega) hb
  refine JC.region ?_
  refine Lv (.string ⟨l.toArray⟩) (fun a ha=>run_move (ha.ev rfl)) ?_
  refine Lv (.int .i64 (j:Int)) (fun a ha=>run_move (ha.ev rfl)) ?_
  refine Lv (.int .u8 (b.toNat:Int)) (fun a ha=>afD (ha.ev rfl) (ha.ev rfl) bsn rfl hb rfl) ?_
  refine jn ?_
  refine JC.block ?_
  refine JC.seq ?_
  refine JC.region ?_
  refine Lv (.bool false) (fun a ha=>aj6 (ha.ev rfl) (ha.ev rfl) (a7S a3c)) ?_
  refine Lv (.bool false) (fun a ha=>run_assign (ha.ev rfl)) ?_
  refine jn ?_
  refine JC.abl rfl ?_
  refine JC.seq ?_
  refine JC.region ?_
  refine Lv (.bool false) (fun a ha=>aj6 (ha.ev rfl) (ha.ev rfl) (a7R a3b)) ?_
  refine Lv (.bool false) (fun a ha=>run_assign (ha.ev rfl)) ?_
  refine jn ?_
  refine JC.abl rfl ?_
  refine JC.a8s (fun _ _ h=>h) ?_
  refine JC.region ?_
  refine Lv (.int .i64 ((j+1:Nat):Int)) (fun a ha=>azn (ha.ev rfl) (ha.ev rfl) (by rw [IntKind.wrap_i64]; omega)) ?_
  refine Lv (.int .i64 ((j+1:Nat):Int)) (fun a ha=>run_move (ha.ev rfl)) ?_
  exact JL.round (j+1) (by omega) (akz.out ⟨rfl,rfl,rfl,rfl,rfl,rfl,rfl,rfl,trivial⟩) ⟨by omega,HS⟩
set_option maxHeartbeats 400000 in
theorem bno (HT:Tz W0) (HB:Tab W0) {l:List UInt8}  (HS:St W0 U Ps w)  (hl:65536 < l.length):aba Tryz.prog 28 [.string ⟨l.toArray⟩] w (AnP W0 U Ps (.tuple #[abe,.int .i64 4])):=by
 refine ake btG rfl btH rfl ?_
 refine JC.seq ?_
 refine JC.region ?_
 refine JL.alloc (vs:=abd) HS rfl bsp rfl rfl (fun g1 w1 HS => ?_)
 refine Lv (.int .i64 0) (fun a ha=>run_assign (ha.ev rfl)) ?_
 refine jn ?_
 refine JC.seq ?_
 refine JC.seq ?_
 refine JC.region ?_
 refine Lv (.string ⟨l.toArray⟩) (fun a ha=>run_move (ha.ev rfl)) ?_
 refine Lv (.int .i64 (l.length:Int)) (fun a ha=>ae9 (ha.ev rfl) bsn rfl) ?_
 refine Lv (.bool true) (fun a ha=>afd (ha.ev rfl) (ha.ev rfl) (decide_eq_true (by omega))) ?_
 refine jn ?_
 refine JC.acZ rfl ?_
 refine JC.seq ?_
 refine JC.region ?_
 refine Lv abe (fun a ha=>acY.run_build (vs:=[]) (by simp only [List.map_cons,List.map_nil]) bsu bsp ahx rfl) ?_
 refine JL.store HS rfl rfl (i:=0) rfl bsm rfl rfl rfl (vs':=abd) rfl rfl (fun w2 HS => ?_)
 refine Lv (.int .i64 4) (fun a ha=>run_assign (ha.ev rfl)) ?_
 refine jn ?_
 refine JC.ret (fun a ha => ?_)
 repeat (first | refine aev ?_ | refine aeu ?_)
 refine aff (v:=abe) (v' := .int .i64 4) ha Tryz.results28 (.agg rfl bsq bsm (HS.box _ (.head _)) rfl rfl) (.tmp rfl) ⟨_,rfl,?_⟩
 exact ⟨rfl,HS.anp 1 0 rfl rfl⟩
end
end Go.Proofs.YtbihljnjaondcaaGreatDoor
