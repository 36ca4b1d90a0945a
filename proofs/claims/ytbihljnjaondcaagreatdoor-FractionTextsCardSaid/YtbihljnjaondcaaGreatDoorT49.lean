/- Part of a proof, said shortly. -/
import Derived.Test.YtbihljnjaondcaaGreatDoorAlt
import Derived.Test.YtbihljnjaondcaaGreatDoorT48
import Derived.Test.YtbihljnjaondcaaGreatDoorT45
import Derived.Test.YtbihljnjaondcaaGreatDoorT33
import Derived.Test.YtbihljnjaondcaaGreatDoorT32
import Derived.Test.YtbihljnjaondcaaGreatDoorT31
import Derived.Test.YtbihljnjaondcaaGreatDoorT43
import Derived.Test.YtbihljnjaondcaaGreatDoorT41
import Derived.Test.YtbihljnjaondcaaGreatDoorT40
import Derived.Test.YtbihljnjaondcaaGreatDoorT34
import Derived.Test.YtbihljnjaondcaaGreatDoorT29
import Derived.Test.YtbihljnjaondcaaGreatDoorT28
import Derived.Test.YtbihljnjaondcaaGreatDoorT26
import Derived.Test.YtbihljnjaondcaaGreatDoorT25
import Derived.Test.YtbihljnjaondcaaGreatDoorT24
import Derived.Test.YtbihljnjaondcaaGreatDoorT23
import Derived.Test.YtbihljnjaondcaaGreatDoorT22
import Derived.Test.YtbihljnjaondcaaGreatDoorT21
import Derived.Test.YtbihljnjaondcaaGreatDoorT20
import Derived.Test.YtbihljnjaondcaaGreatDoorT14
import Derived.Test.YtbihljnjaondcaaGreatDoorT4
import Derived.Test.YtbihljnjaondcaaGreatDoorT3
import Derived.Test.YtbihljnjaondcaaGreatDoorT2
import Derived.Test.YtbihljnjaondcaaGreatDoorT1
import Derived.Test.YtbihljnjaondcaaGreatDoorT13
import Derived.Test.YtbihljnjaondcaaGreatDoorT9
import Derived.Test.YtbihljnjaondcaaGreatDoorT8
import Derived.Test.YtbihljnjaondcaaGreatDoorT6
import Derived.Test.YtbihljnjaondcaaGreatDoorT5
import Derived.Test.YtbihljnjaondcaaGreatDoorT7
import Derived.Test.YtbihljnjaondcaaGreatDoorT19
import Derived.Test.YtbihljnjaondcaaGreatDoorT18
import Derived.Test.YtbihljnjaondcaaGreatDoorT16
import Derived.Test.YtbihljnjaondcaaGreatDoorT15
import Derived.Test.YtbihljnjaondcaaGreatDoorT17
import Derived.Test.YtbihljnjaondcaaGreatDoorT10
import Derived.Test.YtbihljnjaondcaaGreatDoorT11
import Derived.Test.YtbihljnjaondcaaGreatDoorT12
import Derived.Test.YtbihljnjaondcaaGreatDoorT27
import Derived.Test.YtbihljnjaondcaaGreatDoorT39
import Derived.Test.YtbihljnjaondcaaGreatDoorT38
import Derived.Test.YtbihljnjaondcaaGreatDoorT35
import Derived.Test.YtbihljnjaondcaaGreatDoorT37
import Derived.Test.YtbihljnjaondcaaGreatDoorT36
import Derived.Test.YtbihljnjaondcaaGreatDoorT42
import Derived.Test.YtbihljnjaondcaaGreatDoorT44
set_option maxRecDepth 100000
open Go.Proofs.YtbihljnjaondcaaGreatDoor (btT btU btV btW abe abd bq6 bq5 iy0)
set_option linter.unusedVariables false
set_option linter.unusedSimpArgs false
namespace Go.Proofs.YtbihljnjaondcaaGreatDoor
open Go Go.RowKit Lw acY
section
variable {W0 w:World} {U:List Box} {Ps:List (World→Prop)}
theorem FI.tw {v:Value} {x y:Int} {k K:Nat} {w:World} (h:FI v x k w) (hq:x=y) (hK:y.natAbs < pw K):FI v y K w:=by subst hq; exact Opd.tight h hK
theorem azQ {j:Nat} (h:j≤300):((10:Int) ^ j).natAbs < pw 40:=by
 rw [Int.natAbs_pow]
 obtain ⟨e,he⟩ : ∃ e:Nat,e=3:=⟨3,rfl⟩
 have h3:10 ^ j≤(10 ^ 100) ^ e:=by rw [← Nat.pow_mul]; exact Nat.pow_le_pow_right (by decide) (by omega)
 have h4:(10 ^ 100) ^ e < pw 40:=by subst he; decide +kernel
 exact Nat.lt_of_le_of_lt h3 h4
theorem aNM {z:Int} {r:List UInt8} {j:Nat} (hz:z.natAbs < pw 32) (hr:acz r∨True) (hd:aan (r.take j) < 10 ^ j) (h:j≤300):(z*10 ^ j+(aan (r.take j):Int)).natAbs < pw 80:=by
 have h1:=azQ h
 rw [Int.natAbs_pow] at h1
 have h2:(z*10 ^ j+(aan (r.take j):Int)).natAbs≤z.natAbs*10 ^ j+10 ^ j:=by
  have e1:(z*10 ^ j).natAbs=z.natAbs*10 ^ j:=by rw [Int.natAbs_mul,Int.natAbs_pow]; rfl
  have e2:=Int.natAbs_add_le (z*10 ^ j) (aan (r.take j):Int)
  rw [e1,Int.natAbs_natCast] at e2
  omega
 have h3:z.natAbs*10 ^ j+10 ^ j=(z.natAbs+1)*10 ^ j:=by rw [Nat.add_mul,Nat.one_mul]
 have h4:(z.natAbs+1)*10 ^ j≤pw 32*pw 40:=Nat.mul_le_mul (by omega) (Nat.le_of_lt h1)
 have h5:pw 32*pw 40 < pw 80:=by decide +kernel
 omega
theorem a5i {z:Int} {r:List UInt8} {j:Nat} {b:UInt8} (hb:r[j]? = some b):(z*10 ^ j+(aan (r.take j):Int))*10+((b.toNat - 48:Nat):Int)=z*10 ^ (j+1)+(aan (r.take (j+1)):Int):=by
 obtain ⟨hj,e⟩:=List.getElem?_eq_some_iff.1 hb
 rw [a4s hj,e,Int.pow_succ,Int.add_mul,Int.natCast_add,Int.natCast_mul,Int.mul_assoc,Int.add_assoc]
 rfl
theorem a4L {r:List UInt8} (h:0 < r.length):(((r.length:Nat):Int)==0)=false:=by rw [beq_eq_false_iff_ne]; omega
theorem a5m {b:UInt8} (h:48≤b.toNat∧b.toNat≤57):IntKind.u8.wrap (((b.toNat:Nat):Int) - 48)=((b.toNat - 48:Nat):Int):=by rw [IntKind.wrap_u8]; omega
set_option maxHeartbeats 1600000 in
theorem bmJ (HT:Tz W0) (HB:Tab W0) {f r:List UInt8} {z c n:Int}  (HS:St W0 U Ps w)  (h45 : ∀ x,f[0]? = some x→x.toNat≠45) (hp:RP f z c) (hl:r.length≤300) (hbad:c≠0∨z < 0∨r.length=0∨64 < n):aba Tryz.prog 116 [.string ⟨f.toArray⟩,.string ⟨r.toArray⟩,.int .i64 n] w (aj8 W0 U Ps 0 200 (.int .i64 2)):=by
 refine ake btt rfl btu rfl ?_
 refine JC.seq ?_
 refine JC.region ?_
 refine JL.alloc (vs:=abd) HS rfl bsp rfl rfl (fun g1 w1 HS => ?_)
 refine Lv (.int .i64 0) (fun a ha=>run_assign (ha.ev rfl)) ?_
 refine jn ?_
 refine JC.seq ?_
 refine JC.region ?_
 refine Lv (.string ⟨f.toArray⟩) (fun a ha=>run_move (ha.ev rfl)) ?_
 refine Lv (.int .i64 (f.length:Int)) (fun a ha=>ae9 (ha.ev rfl) bsn rfl) ?_
 refine Lv (.bool (decide ((f.length:Int) > 0))) (fun a ha=>afd (ha.ev rfl) (ha.ev rfl) rfl) ?_
 cases hsp2:(decide ((f.length:Int) > 0))
 ·skip
  refine Lv (.bool false) (fun a ha=>run_move (ha.ev rfl)) ?_
  refine Lp ?_
  refine Lp ?_
  refine Lp ?_
  refine Lv (.bool false) (fun a ha=>abE (ha.ev rfl) (ha.ev rfl)) ?_
  refine Lv (.bool false) (fun a ha=>run_assign (ha.ev rfl)) ?_
  refine jn ?_
  refine JC.seq ?_
  refine JC.seq ?_
  refine JC.region ?_
  refine Lv (.bool false) (fun a ha=>run_move (ha.ev rfl)) ?_
  refine jn ?_
  refine JC.abl rfl ?_
  refine JC.abu (fun _ _ h=>h) ?_
  refine JC.seq ?_
  refine JC.region ?_
  refine Lv (.string ⟨f.toArray⟩) (fun a ha=>run_move (ha.ev rfl)) ?_
  refine JL.call rfl rfl bsA (hp HS) (fun v3 w3 HR3 => ?_)
  obtain ⟨s3,A3,n3,c3,rfl,HS⟩:=HR3
  refine Lv (.tuple #[.agg #[.bool s3,.slice A3 n3 c3],.int .i64 c]) (fun a ha=>run_move (ha.ev rfl)) ?_
  refine Lv (.agg #[.bool s3,.slice A3 n3 c3]) (fun a ha=>aa6 (ha.ev rfl) rfl) ?_
  refine Lv (.int .i64 c) (fun a ha=>aa6 (ha.ev rfl) rfl) ?_
  refine JL.alloc (vs:=[.bool false,.slice none 0 0]) HS rfl bsv rfl rfl (fun g4 w4 HS => ?_)
  refine JL.store HS rfl rfl (i:=0) rfl bso rfl rfl rfl (vs':=[.bool s3,.slice A3 n3 c3]) rfl rfl (fun w5 HS => ?_)
  refine Lv (.int .i64 c) (fun a ha=>run_assign (ha.ev rfl)) ?_
  refine jn ?_
  refine JC.seq ?_
  refine JC.seq ?_
  refine JC.region ?_
  refine Lv (.int .i64 c) (fun a ha=>run_move (ha.ev rfl)) ?_
  refine Lv (.bool (c != 0)) (fun a ha=>azp (ha.ev rfl) (ha.ev rfl) rfl) ?_
  cases a7L:(c != 0)
  ·skip
   refine Lv (.bool false) (fun a ha=>run_move (ha.ev rfl)) ?_
   refine Lg (.agg #[.bool s3,.slice A3 n3 c3]) (fun a ha=>atD (ha.ev rfl) bsr bso (HS.box _ (.head _)) rfl rfl) ?_
   refine JL.ajo rfl rfl rfl rfl rfl rfl bsI (a1b HT HB HS (HS.at_ 0 rfl) (by omega)) (fun v7 w7 HR7 => ?_)
   obtain ⟨rfl,HS⟩:=HR7
   refine Lg (.bool (decide (z < 0))) (fun a ha=>akj (ha.ev rfl) (ha.ev rfl) (a2a _)) ?_
   refine Lv (.bool (decide (z < 0))) (fun a ha=>abE (ha.ev rfl) (ha.ev rfl)) ?_
   cases a95:((decide (z < 0)))
   ·skip
    refine Lv (.bool false) (fun a ha=>run_move (ha.ev rfl)) ?_
    refine Lg (.string ⟨r.toArray⟩) (fun a ha=>run_move (ha.ev rfl)) ?_
    refine Lg (.int .i64 (r.length:Int)) (fun a ha=>ae9 (ha.ev rfl) bsn rfl) ?_
    refine Lg (.bool ((r.length:Int)==0)) (fun a ha=>aj6 (ha.ev rfl) (ha.ev rfl) rfl) ?_
    refine Lv (.bool ((r.length:Int)==0)) (fun a ha=>abE (ha.ev rfl) (ha.ev rfl)) ?_
    cases a1O:((r.length:Int)==0)
    ·skip
     refine Lv (.bool false) (fun a ha=>run_move (ha.ev rfl)) ?_
     refine Lg (.int .i64 n) (fun a ha=>run_move (ha.ev rfl)) ?_
     refine Lg (.bool (decide (n > 64))) (fun a ha=>afd (ha.ev rfl) (ha.ev rfl) rfl) ?_
     refine Lv (.bool (decide (n > 64))) (fun a ha=>abE (ha.ev rfl) (ha.ev rfl)) ?_
     refine jn ?_
     cases a2m:(decide (n > 64))
     ·skip
      exact absurd hbad (by rintro (h | h | h | h); exact h (by simpa using a7L); exact of_decide_eq_false a95 h; exact absurd h (by simpa using a1O); exact of_decide_eq_false a2m h)
     ·skip
      refine JC.acZ rfl ?_
      refine JC.seq ?_
      refine JC.region ?_
      refine Lv abe (fun a ha=>acY.run_build (vs:=[]) (by simp only [List.map_cons,List.map_nil]) bsu bsp ahx rfl) ?_
      refine JL.store HS rfl rfl (i:=1) rfl bsm rfl rfl rfl (vs':=abd) rfl rfl (fun w11 HS => ?_)
      refine Lv (.int .i64 2) (fun a ha=>run_assign (ha.ev rfl)) ?_
      refine jn ?_
      refine JC.ret (fun a ha => ?_)
      repeat (first | refine aev ?_ | refine aeu ?_)
      refine aff (v:=abe) (v' := .int .i64 2) ha Tryz.results116 (.agg rfl bsq bsm (HS.box _ (.tail _ (.head _))) rfl rfl) (.tmp rfl) ⟨_,rfl,?_⟩
      exact ⟨_,_,_,_,_,_,_,rfl,(HS.add (FV.stable _ _ _ _) ((FV.zero 0 _).as rfl (by omega))).alm 2 1 rfl rfl⟩
    ·skip
     refine Lv (.bool true) (fun a ha=>run_move (ha.ev rfl)) ?_
     refine Lp ?_
     refine Lp ?_
     refine Lv (.bool true) (fun a ha=>ae7 (ha.ev rfl) (ha.ev rfl)) ?_
     refine jn ?_
     refine JC.acZ rfl ?_
     refine JC.seq ?_
     refine JC.region ?_
     refine Lv abe (fun a ha=>acY.run_build (vs:=[]) (by simp only [List.map_cons,List.map_nil]) bsu bsp ahx rfl) ?_
     refine JL.store HS rfl rfl (i:=1) rfl bsm rfl rfl rfl (vs':=abd) rfl rfl (fun w12 HS => ?_)
     refine Lv (.int .i64 2) (fun a ha=>run_assign (ha.ev rfl)) ?_
     refine jn ?_
     refine JC.ret (fun a ha => ?_)
     repeat (first | refine aev ?_ | refine aeu ?_)
     refine aff (v:=abe) (v' := .int .i64 2) ha Tryz.results116 (.agg rfl bsq bsm (HS.box _ (.tail _ (.head _))) rfl rfl) (.tmp rfl) ⟨_,rfl,?_⟩
     exact ⟨_,_,_,_,_,_,_,rfl,(HS.add (FV.stable _ _ _ _) ((FV.zero 0 _).as rfl (by omega))).alm 2 1 rfl rfl⟩
   ·skip
    refine Lv (.bool true) (fun a ha=>run_move (ha.ev rfl)) ?_
    refine Lp ?_
    refine Lp ?_
    refine Lp ?_
    refine Lv (.bool true) (fun a ha=>ae7 (ha.ev rfl) (ha.ev rfl)) ?_
    refine Lv (.bool true) (fun a ha=>run_move (ha.ev rfl)) ?_
    refine Lp ?_
    refine Lp ?_
    refine Lv (.bool true) (fun a ha=>ae7 (ha.ev rfl) (ha.ev rfl)) ?_
    refine jn ?_
    refine JC.acZ rfl ?_
    refine JC.seq ?_
    refine JC.region ?_
    refine Lv abe (fun a ha=>acY.run_build (vs:=[]) (by simp only [List.map_cons,List.map_nil]) bsu bsp ahx rfl) ?_
    refine JL.store HS rfl rfl (i:=1) rfl bsm rfl rfl rfl (vs':=abd) rfl rfl (fun w13 HS => ?_)
    refine Lv (.int .i64 2) (fun a ha=>run_assign (ha.ev rfl)) ?_
    refine jn ?_
    refine JC.ret (fun a ha => ?_)
    repeat (first | refine aev ?_ | refine aeu ?_)
    refine aff (v:=abe) (v' := .int .i64 2) ha Tryz.results116 (.agg rfl bsq bsm (HS.box _ (.tail _ (.head _))) rfl rfl) (.tmp rfl) ⟨_,rfl,?_⟩
    exact ⟨_,_,_,_,_,_,_,rfl,(HS.add (FV.stable _ _ _ _) ((FV.zero 0 _).as rfl (by omega))).alm 2 1 rfl rfl⟩
  ·skip
   refine Lv (.bool true) (fun a ha=>run_move (ha.ev rfl)) ?_
   refine Lp ?_
   refine Lp ?_
   refine Lp ?_
   refine Lv (.bool true) (fun a ha=>ae7 (ha.ev rfl) (ha.ev rfl)) ?_
   refine Lv (.bool true) (fun a ha=>run_move (ha.ev rfl)) ?_
   refine Lp ?_
   refine Lp ?_
   refine Lp ?_
   refine Lv (.bool true) (fun a ha=>ae7 (ha.ev rfl) (ha.ev rfl)) ?_
   refine Lv (.bool true) (fun a ha=>run_move (ha.ev rfl)) ?_
   refine Lp ?_
   refine Lp ?_
   refine Lv (.bool true) (fun a ha=>ae7 (ha.ev rfl) (ha.ev rfl)) ?_
   refine jn ?_
   refine JC.acZ rfl ?_
   refine JC.seq ?_
   refine JC.region ?_
   refine Lv abe (fun a ha=>acY.run_build (vs:=[]) (by simp only [List.map_cons,List.map_nil]) bsu bsp ahx rfl) ?_
   refine JL.store HS rfl rfl (i:=1) rfl bsm rfl rfl rfl (vs':=abd) rfl rfl (fun w14 HS => ?_)
   refine Lv (.int .i64 2) (fun a ha=>run_assign (ha.ev rfl)) ?_
   refine jn ?_
   refine JC.ret (fun a ha => ?_)
   repeat (first | refine aev ?_ | refine aeu ?_)
   refine aff (v:=abe) (v' := .int .i64 2) ha Tryz.results116 (.agg rfl bsq bsm (HS.box _ (.tail _ (.head _))) rfl rfl) (.tmp rfl) ⟨_,rfl,?_⟩
   exact ⟨_,_,_,_,_,_,_,rfl,(HS.add (FV.stable _ _ _ _) ((FV.zero 0 _).as rfl (by omega))).alm 2 1 rfl rfl⟩
 ·skip
  have hd2:=of_decide_eq_true hsp2
  obtain ⟨x0,hx0⟩ : ∃ x,f[0]? = some x:=⟨_,List.getElem?_eq_getElem (show 0 < f.length by omega)⟩
  have a6u:=h45 x0 hx0
  refine Lv (.bool true) (fun a ha=>run_move (ha.ev rfl)) ?_
  refine Lg (.string ⟨f.toArray⟩) (fun a ha=>run_move (ha.ev rfl)) ?_
  refine Lg (.int .u8 (x0.toNat:Int)) (fun a ha=>afD (ha.ev rfl) (ha.ev rfl) bsn rfl hx0 rfl) ?_
  refine Lg (.bool false) (fun a ha=>aj6 (ha.ev rfl) (ha.ev rfl) (baw a6u)) ?_
  refine Lv (.bool false) (fun a ha=>ae7 (ha.ev rfl) (ha.ev rfl)) ?_
  refine Lv (.bool false) (fun a ha=>run_assign (ha.ev rfl)) ?_
  refine jn ?_
  refine JC.seq ?_
  refine JC.seq ?_
  refine JC.region ?_
  refine Lv (.bool false) (fun a ha=>run_move (ha.ev rfl)) ?_
  refine jn ?_
  refine JC.abl rfl ?_
  refine JC.abu (fun _ _ h=>h) ?_
  refine JC.seq ?_
  refine JC.region ?_
  refine Lv (.string ⟨f.toArray⟩) (fun a ha=>run_move (ha.ev rfl)) ?_
  refine JL.call rfl rfl bsA (hp HS) (fun v15 w15 bgl => ?_)
  obtain ⟨s15,A15,n15,c15,rfl,HS⟩:=bgl
  refine Lv (.tuple #[.agg #[.bool s15,.slice A15 n15 c15],.int .i64 c]) (fun a ha=>run_move (ha.ev rfl)) ?_
  refine Lv (.agg #[.bool s15,.slice A15 n15 c15]) (fun a ha=>aa6 (ha.ev rfl) rfl) ?_
  refine Lv (.int .i64 c) (fun a ha=>aa6 (ha.ev rfl) rfl) ?_
  refine JL.alloc (vs:=[.bool false,.slice none 0 0]) HS rfl bsv rfl rfl (fun g16 w16 HS => ?_)
  refine JL.store HS rfl rfl (i:=0) rfl bso rfl rfl rfl (vs':=[.bool s15,.slice A15 n15 c15]) rfl rfl (fun w17 HS => ?_)
  refine Lv (.int .i64 c) (fun a ha=>run_assign (ha.ev rfl)) ?_
  refine jn ?_
  refine JC.seq ?_
  refine JC.seq ?_
  refine JC.region ?_
  refine Lv (.int .i64 c) (fun a ha=>run_move (ha.ev rfl)) ?_
  refine Lv (.bool (c != 0)) (fun a ha=>azp (ha.ev rfl) (ha.ev rfl) rfl) ?_
  cases a7K:(c != 0)
  ·skip
   refine Lv (.bool false) (fun a ha=>run_move (ha.ev rfl)) ?_
   refine Lg (.agg #[.bool s15,.slice A15 n15 c15]) (fun a ha=>atD (ha.ev rfl) bsr bso (HS.box _ (.head _)) rfl rfl) ?_
   refine JL.ajo rfl rfl rfl rfl rfl rfl bsI (a1b HT HB HS (HS.at_ 0 rfl) (by omega)) (fun v19 w19 a8X => ?_)
   obtain ⟨rfl,HS⟩:=a8X
   refine Lg (.bool (decide (z < 0))) (fun a ha=>akj (ha.ev rfl) (ha.ev rfl) (a2a _)) ?_
   refine Lv (.bool (decide (z < 0))) (fun a ha=>abE (ha.ev rfl) (ha.ev rfl)) ?_
   cases bj2:((decide (z < 0)))
   ·skip
    refine Lv (.bool false) (fun a ha=>run_move (ha.ev rfl)) ?_
    refine Lg (.string ⟨r.toArray⟩) (fun a ha=>run_move (ha.ev rfl)) ?_
    refine Lg (.int .i64 (r.length:Int)) (fun a ha=>ae9 (ha.ev rfl) bsn rfl) ?_
    refine Lg (.bool ((r.length:Int)==0)) (fun a ha=>aj6 (ha.ev rfl) (ha.ev rfl) rfl) ?_
    refine Lv (.bool ((r.length:Int)==0)) (fun a ha=>abE (ha.ev rfl) (ha.ev rfl)) ?_
    cases bj3:((r.length:Int)==0)
    ·skip
     refine Lv (.bool false) (fun a ha=>run_move (ha.ev rfl)) ?_
     refine Lg (.int .i64 n) (fun a ha=>run_move (ha.ev rfl)) ?_
     refine Lg (.bool (decide (n > 64))) (fun a ha=>afd (ha.ev rfl) (ha.ev rfl) rfl) ?_
     refine Lv (.bool (decide (n > 64))) (fun a ha=>abE (ha.ev rfl) (ha.ev rfl)) ?_
     refine jn ?_
     cases bj4:(decide (n > 64))
     ·skip
      exact absurd hbad (by rintro (h | h | h | h); exact h (by simpa using a7K); exact of_decide_eq_false bj2 h; exact absurd h (by simpa using bj3); exact of_decide_eq_false bj4 h)
     ·skip
      refine JC.acZ rfl ?_
      refine JC.seq ?_
      refine JC.region ?_
      refine Lv abe (fun a ha=>acY.run_build (vs:=[]) (by simp only [List.map_cons,List.map_nil]) bsu bsp ahx rfl) ?_
      refine JL.store HS rfl rfl (i:=1) rfl bsm rfl rfl rfl (vs':=abd) rfl rfl (fun w23 HS => ?_)
      refine Lv (.int .i64 2) (fun a ha=>run_assign (ha.ev rfl)) ?_
      refine jn ?_
      refine JC.ret (fun a ha => ?_)
      repeat (first | refine aev ?_ | refine aeu ?_)
      refine aff (v:=abe) (v' := .int .i64 2) ha Tryz.results116 (.agg rfl bsq bsm (HS.box _ (.tail _ (.head _))) rfl rfl) (.tmp rfl) ⟨_,rfl,?_⟩
      exact ⟨_,_,_,_,_,_,_,rfl,(HS.add (FV.stable _ _ _ _) ((FV.zero 0 _).as rfl (by omega))).alm 2 1 rfl rfl⟩
    ·skip
     refine Lv (.bool true) (fun a ha=>run_move (ha.ev rfl)) ?_
     refine Lp ?_
     refine Lp ?_
     refine Lv (.bool true) (fun a ha=>ae7 (ha.ev rfl) (ha.ev rfl)) ?_
     refine jn ?_
     refine JC.acZ rfl ?_
     refine JC.seq ?_
     refine JC.region ?_
     refine Lv abe (fun a ha=>acY.run_build (vs:=[]) (by simp only [List.map_cons,List.map_nil]) bsu bsp ahx rfl) ?_
     refine JL.store HS rfl rfl (i:=1) rfl bsm rfl rfl rfl (vs':=abd) rfl rfl (fun w24 HS => ?_)
     refine Lv (.int .i64 2) (fun a ha=>run_assign (ha.ev rfl)) ?_
     refine jn ?_
     refine JC.ret (fun a ha => ?_)
     repeat (first | refine aev ?_ | refine aeu ?_)
     refine aff (v:=abe) (v' := .int .i64 2) ha Tryz.results116 (.agg rfl bsq bsm (HS.box _ (.tail _ (.head _))) rfl rfl) (.tmp rfl) ⟨_,rfl,?_⟩
     exact ⟨_,_,_,_,_,_,_,rfl,(HS.add (FV.stable _ _ _ _) ((FV.zero 0 _).as rfl (by omega))).alm 2 1 rfl rfl⟩
   ·skip
    refine Lv (.bool true) (fun a ha=>run_move (ha.ev rfl)) ?_
    refine Lp ?_
    refine Lp ?_
    refine Lp ?_
    refine Lv (.bool true) (fun a ha=>ae7 (ha.ev rfl) (ha.ev rfl)) ?_
    refine Lv (.bool true) (fun a ha=>run_move (ha.ev rfl)) ?_
    refine Lp ?_
    refine Lp ?_
    refine Lv (.bool true) (fun a ha=>ae7 (ha.ev rfl) (ha.ev rfl)) ?_
    refine jn ?_
    refine JC.acZ rfl ?_
    refine JC.seq ?_
    refine JC.region ?_
    refine Lv abe (fun a ha=>acY.run_build (vs:=[]) (by simp only [List.map_cons,List.map_nil]) bsu bsp ahx rfl) ?_
    refine JL.store HS rfl rfl (i:=1) rfl bsm rfl rfl rfl (vs':=abd) rfl rfl (fun w25 HS => ?_)
    refine Lv (.int .i64 2) (fun a ha=>run_assign (ha.ev rfl)) ?_
    refine jn ?_
    refine JC.ret (fun a ha => ?_)
    repeat (first | refine aev ?_ | refine aeu ?_)
    refine aff (v:=abe) (v' := .int .i64 2) ha Tryz.results116 (.agg rfl bsq bsm (HS.box _ (.tail _ (.head _))) rfl rfl) (.tmp rfl) ⟨_,rfl,?_⟩
    exact ⟨_,_,_,_,_,_,_,rfl,(HS.add (FV.stable _ _ _ _) ((FV.zero 0 _).as rfl (by omega))).alm 2 1 rfl rfl⟩
  ·skip
   refine Lv (.bool true) (fun a ha=>run_move (ha.ev rfl)) ?_
   refine Lp ?_
   refine Lp ?_
   refine Lp ?_
   refine Lv (.bool true) (fun a ha=>ae7 (ha.ev rfl) (ha.ev rfl)) ?_
   refine Lv (.bool true) (fun a ha=>run_move (ha.ev rfl)) ?_
   refine Lp ?_
   refine Lp ?_
   refine Lp ?_
   refine Lv (.bool true) (fun a ha=>ae7 (ha.ev rfl) (ha.ev rfl)) ?_
   refine Lv (.bool true) (fun a ha=>run_move (ha.ev rfl)) ?_
   refine Lp ?_
   refine Lp ?_
   refine Lv (.bool true) (fun a ha=>ae7 (ha.ev rfl) (ha.ev rfl)) ?_
   refine jn ?_
   refine JC.acZ rfl ?_
   refine JC.seq ?_
   refine JC.region ?_
   refine Lv abe (fun a ha=>acY.run_build (vs:=[]) (by simp only [List.map_cons,List.map_nil]) bsu bsp ahx rfl) ?_
   refine JL.store HS rfl rfl (i:=1) rfl bsm rfl rfl rfl (vs':=abd) rfl rfl (fun w26 HS => ?_)
   refine Lv (.int .i64 2) (fun a ha=>run_assign (ha.ev rfl)) ?_
   refine jn ?_
   refine JC.ret (fun a ha => ?_)
   repeat (first | refine aev ?_ | refine aeu ?_)
   refine aff (v:=abe) (v' := .int .i64 2) ha Tryz.results116 (.agg rfl bsq bsm (HS.box _ (.tail _ (.head _))) rfl rfl) (.tmp rfl) ⟨_,rfl,?_⟩
   exact ⟨_,_,_,_,_,_,_,rfl,(HS.add (FV.stable _ _ _ _) ((FV.zero 0 _).as rfl (by omega))).alm 2 1 rfl rfl⟩
set_option maxHeartbeats 1600000 in
theorem bmI (HT:Tz W0) (HB:Tab W0) {f r:List UInt8} {z c n:Int}  (HS:St W0 U Ps w)   (hp:RP f z c) (hl:r.length≤300) (hbad:c≠0∨z < 0∨r.length=0∨64 < n):aba Tryz.prog 116 [.string ⟨(45 :: f).toArray⟩,.string ⟨r.toArray⟩,.int .i64 n] w (aj8 W0 U Ps 0 200 (.int .i64 2)):=by
 refine ake btt rfl btu rfl ?_
 refine JC.seq ?_
 refine JC.region ?_
 refine JL.alloc (vs:=abd) HS rfl bsp rfl rfl (fun g1 w1 HS => ?_)
 refine Lv (.int .i64 0) (fun a ha=>run_assign (ha.ev rfl)) ?_
 refine jn ?_
 refine JC.seq ?_
 refine JC.region ?_
 refine Lv (.string ⟨(45 :: f).toArray⟩) (fun a ha=>run_move (ha.ev rfl)) ?_
 refine Lv (.int .i64 ((45 :: f).length:Int)) (fun a ha=>ae9 (ha.ev rfl) bsn rfl) ?_
 refine Lv (.bool true) (fun a ha=>afd (ha.ev rfl) (ha.ev rfl) (decide_eq_true (by simp))) ?_
 refine Lv (.bool true) (fun a ha=>run_move (ha.ev rfl)) ?_
 refine Lg (.string ⟨(45 :: f).toArray⟩) (fun a ha=>run_move (ha.ev rfl)) ?_
 refine Lg (.int .u8 45) (fun a ha=>afD (ha.ev rfl) (ha.ev rfl) bsn rfl rfl rfl) ?_
 refine Lg (.bool true) (fun a ha=>aj6 (ha.ev rfl) (ha.ev rfl) (by decide)) ?_
 refine Lv (.bool true) (fun a ha=>ae7 (ha.ev rfl) (ha.ev rfl)) ?_
 refine Lv (.bool true) (fun a ha=>run_assign (ha.ev rfl)) ?_
 refine jn ?_
 refine JC.seq ?_
 refine JC.seq ?_
 refine JC.region ?_
 refine Lv (.bool true) (fun a ha=>run_move (ha.ev rfl)) ?_
 refine jn ?_
 refine JC.acZ rfl ?_
 refine JC.region ?_
 refine Lv (.string ⟨(45 :: f).toArray⟩) (fun a ha=>run_move (ha.ev rfl)) ?_
 refine Lv (.string ⟨f.toArray⟩) (fun a ha=>a5e (ha.ev rfl) (ha.ev rfl) bsn rfl (by simp) rfl) ?_
 refine Lv (.string ⟨f.toArray⟩) (fun a ha=>run_assign (ha.ev rfl)) ?_
 refine jn ?_
 refine JC.seq ?_
 refine JC.region ?_
 refine Lv (.string ⟨f.toArray⟩) (fun a ha=>run_move (ha.ev rfl)) ?_
 refine JL.call rfl rfl bsA (hp HS) (fun v2 w2 HR2 => ?_)
 obtain ⟨s2,A2,n2,c2,rfl,HS⟩:=HR2
 refine Lv (.tuple #[.agg #[.bool s2,.slice A2 n2 c2],.int .i64 c]) (fun a ha=>run_move (ha.ev rfl)) ?_
 refine Lv (.agg #[.bool s2,.slice A2 n2 c2]) (fun a ha=>aa6 (ha.ev rfl) rfl) ?_
 refine Lv (.int .i64 c) (fun a ha=>aa6 (ha.ev rfl) rfl) ?_
 refine JL.alloc (vs:=[.bool false,.slice none 0 0]) HS rfl bsv rfl rfl (fun g3 w3 HS => ?_)
 refine JL.store HS rfl rfl (i:=0) rfl bso rfl rfl rfl (vs':=[.bool s2,.slice A2 n2 c2]) rfl rfl (fun w4 HS => ?_)
 refine Lv (.int .i64 c) (fun a ha=>run_assign (ha.ev rfl)) ?_
 refine jn ?_
 refine JC.seq ?_
 refine JC.seq ?_
 refine JC.region ?_
 refine Lv (.int .i64 c) (fun a ha=>run_move (ha.ev rfl)) ?_
 refine Lv (.bool (c != 0)) (fun a ha=>azp (ha.ev rfl) (ha.ev rfl) rfl) ?_
 cases bj8:(c != 0)
 ·skip
  refine Lv (.bool false) (fun a ha=>run_move (ha.ev rfl)) ?_
  refine Lg (.agg #[.bool s2,.slice A2 n2 c2]) (fun a ha=>atD (ha.ev rfl) bsr bso (HS.box _ (.head _)) rfl rfl) ?_
  refine JL.ajo rfl rfl rfl rfl rfl rfl bsI (a1b HT HB HS (HS.at_ 0 rfl) (by omega)) (fun v6 w6 HR6 => ?_)
  obtain ⟨rfl,HS⟩:=HR6
  refine Lg (.bool (decide (z < 0))) (fun a ha=>akj (ha.ev rfl) (ha.ev rfl) (a2a _)) ?_
  refine Lv (.bool (decide (z < 0))) (fun a ha=>abE (ha.ev rfl) (ha.ev rfl)) ?_
  cases a7M:((decide (z < 0)))
  ·skip
   refine Lv (.bool false) (fun a ha=>run_move (ha.ev rfl)) ?_
   refine Lg (.string ⟨r.toArray⟩) (fun a ha=>run_move (ha.ev rfl)) ?_
   refine Lg (.int .i64 (r.length:Int)) (fun a ha=>ae9 (ha.ev rfl) bsn rfl) ?_
   refine Lg (.bool ((r.length:Int)==0)) (fun a ha=>aj6 (ha.ev rfl) (ha.ev rfl) rfl) ?_
   refine Lv (.bool ((r.length:Int)==0)) (fun a ha=>abE (ha.ev rfl) (ha.ev rfl)) ?_
   cases a95:((r.length:Int)==0)
   ·skip
    refine Lv (.bool false) (fun a ha=>run_move (ha.ev rfl)) ?_
    refine Lg (.int .i64 n) (fun a ha=>run_move (ha.ev rfl)) ?_
    refine Lg (.bool (decide (n > 64))) (fun a ha=>afd (ha.ev rfl) (ha.ev rfl) rfl) ?_
    refine Lv (.bool (decide (n > 64))) (fun a ha=>abE (ha.ev rfl) (ha.ev rfl)) ?_
    refine jn ?_
    cases a1O:(decide (n > 64))
    ·skip
     exact absurd hbad (by rintro (h | h | h | h); exact h (by simpa using bj8); exact of_decide_eq_false a7M h; exact absurd h (by simpa using a95); exact of_decide_eq_false a1O h)
    ·skip
     refine JC.acZ rfl ?_
     refine JC.seq ?_
     refine JC.region ?_
     refine Lv abe (fun a ha=>acY.run_build (vs:=[]) (by simp only [List.map_cons,List.map_nil]) bsu bsp ahx rfl) ?_
     refine JL.store HS rfl rfl (i:=1) rfl bsm rfl rfl rfl (vs':=abd) rfl rfl (fun w10 HS => ?_)
     refine Lv (.int .i64 2) (fun a ha=>run_assign (ha.ev rfl)) ?_
     refine jn ?_
     refine JC.ret (fun a ha => ?_)
     repeat (first | refine aev ?_ | refine aeu ?_)
     refine aff (v:=abe) (v' := .int .i64 2) ha Tryz.results116 (.agg rfl bsq bsm (HS.box _ (.tail _ (.head _))) rfl rfl) (.tmp rfl) ⟨_,rfl,?_⟩
     exact ⟨_,_,_,_,_,_,_,rfl,(HS.add (FV.stable _ _ _ _) ((FV.zero 0 _).as rfl (by omega))).alm 2 1 rfl rfl⟩
   ·skip
    refine Lv (.bool true) (fun a ha=>run_move (ha.ev rfl)) ?_
    refine Lp ?_
    refine Lp ?_
    refine Lv (.bool true) (fun a ha=>ae7 (ha.ev rfl) (ha.ev rfl)) ?_
    refine jn ?_
    refine JC.acZ rfl ?_
    refine JC.seq ?_
    refine JC.region ?_
    refine Lv abe (fun a ha=>acY.run_build (vs:=[]) (by simp only [List.map_cons,List.map_nil]) bsu bsp ahx rfl) ?_
    refine JL.store HS rfl rfl (i:=1) rfl bsm rfl rfl rfl (vs':=abd) rfl rfl (fun w11 HS => ?_)
    refine Lv (.int .i64 2) (fun a ha=>run_assign (ha.ev rfl)) ?_
    refine jn ?_
    refine JC.ret (fun a ha => ?_)
    repeat (first | refine aev ?_ | refine aeu ?_)
    refine aff (v:=abe) (v' := .int .i64 2) ha Tryz.results116 (.agg rfl bsq bsm (HS.box _ (.tail _ (.head _))) rfl rfl) (.tmp rfl) ⟨_,rfl,?_⟩
    exact ⟨_,_,_,_,_,_,_,rfl,(HS.add (FV.stable _ _ _ _) ((FV.zero 0 _).as rfl (by omega))).alm 2 1 rfl rfl⟩
  ·skip
   refine Lv (.bool true) (fun a ha=>run_move (ha.ev rfl)) ?_
   refine Lp ?_
   refine Lp ?_
   refine Lp ?_
   refine Lv (.bool true) (fun a ha=>ae7 (ha.ev rfl) (ha.ev rfl)) ?_
   refine Lv (.bool true) (fun a ha=>run_move (ha.ev rfl)) ?_
   refine Lp ?_
   refine Lp ?_
   refine Lv (.bool true) (fun a ha=>ae7 (ha.ev rfl) (ha.ev rfl)) ?_
   refine jn ?_
   refine JC.acZ rfl ?_
   refine JC.seq ?_
   refine JC.region ?_
   refine Lv abe (fun a ha=>acY.run_build (vs:=[]) (by simp only [List.map_cons,List.map_nil]) bsu bsp ahx rfl) ?_
   refine JL.store HS rfl rfl (i:=1) rfl bsm rfl rfl rfl (vs':=abd) rfl rfl (fun w12 HS => ?_)
   refine Lv (.int .i64 2) (fun a ha=>run_assign (ha.ev rfl)) ?_
   refine jn ?_
   refine JC.ret (fun a ha => ?_)
   repeat (first | refine aev ?_ | refine aeu ?_)
   refine aff (v:=abe) (v' := .int .i64 2) ha Tryz.results116 (.agg rfl bsq bsm (HS.box _ (.tail _ (.head _))) rfl rfl) (.tmp rfl) ⟨_,rfl,?_⟩
   exact ⟨_,_,_,_,_,_,_,rfl,(HS.add (FV.stable _ _ _ _) ((FV.zero 0 _).as rfl (by omega))).alm 2 1 rfl rfl⟩
 ·skip
  refine Lv (.bool true) (fun a ha=>run_move (ha.ev rfl)) ?_
  refine Lp ?_
  refine Lp ?_
  refine Lp ?_
  refine Lv (.bool true) (fun a ha=>ae7 (ha.ev rfl) (ha.ev rfl)) ?_
  refine Lv (.bool true) (fun a ha=>run_move (ha.ev rfl)) ?_
  refine Lp ?_
  refine Lp ?_
  refine Lp ?_
  refine Lv (.bool true) (fun a ha=>ae7 (ha.ev rfl) (ha.ev rfl)) ?_
  refine Lv (.bool true) (fun a ha=>run_move (ha.ev rfl)) ?_
  refine Lp ?_
  refine Lp ?_
  refine Lv (.bool true) (fun a ha=>ae7 (ha.ev rfl) (ha.ev rfl)) ?_
  refine jn ?_
  refine JC.acZ rfl ?_
  refine JC.seq ?_
  refine JC.region ?_
  refine Lv abe (fun a ha=>acY.run_build (vs:=[]) (by simp only [List.map_cons,List.map_nil]) bsu bsp ahx rfl) ?_
  refine JL.store HS rfl rfl (i:=1) rfl bsm rfl rfl rfl (vs':=abd) rfl rfl (fun w13 HS => ?_)
  refine Lv (.int .i64 2) (fun a ha=>run_assign (ha.ev rfl)) ?_
  refine jn ?_
  refine JC.ret (fun a ha => ?_)
  repeat (first | refine aev ?_ | refine aeu ?_)
  refine aff (v:=abe) (v' := .int .i64 2) ha Tryz.results116 (.agg rfl bsq bsm (HS.box _ (.tail _ (.head _))) rfl rfl) (.tmp rfl) ⟨_,rfl,?_⟩
  exact ⟨_,_,_,_,_,_,_,rfl,(HS.add (FV.stable _ _ _ _) ((FV.zero 0 _).as rfl (by omega))).alm 2 1 rfl rfl⟩
set_option maxHeartbeats 1600000 in
theorem bmH (HT:Tz W0) (HB:Tab W0) {f r:List UInt8} {z c n:Int} {m:Nat}  (HS:St W0 U Ps w)  (h45 : ∀ x,f[0]? = some x→x.toNat≠45) (hp:RP f z c) (hl:r.length≤300) (hc0:c=0) (hz0:0≤z) (hr0:0 < r.length) (a4E:n≤64) (hz:z.natAbs < pw 32) (hdt : ∀ j,j≤m→aan (r.take j) < 10 ^ j) (hm:m < r.length) (hdig : ∀ (j:Nat) (b:UInt8),j < m→r[j]? = some b→48≤b.toNat∧b.toNat≤57) (hbad : ∀ b,r[m]? = some b→¬ (48≤b.toNat∧b.toNat≤57)):aba Tryz.prog 116 [.string ⟨f.toArray⟩,.string ⟨r.toArray⟩,.int .i64 n] w (aj8 W0 U Ps 0 200 (.int .i64 2)):=by
 refine ake btt rfl btu rfl ?_
 refine JC.seq ?_
 refine JC.region ?_
 refine JL.alloc (vs:=abd) HS rfl bsp rfl rfl (fun g1 w1 HS => ?_)
 refine Lv (.int .i64 0) (fun a ha=>run_assign (ha.ev rfl)) ?_
 refine jn ?_
 refine JC.seq ?_
 refine JC.region ?_
 refine Lv (.string ⟨f.toArray⟩) (fun a ha=>run_move (ha.ev rfl)) ?_
 refine Lv (.int .i64 (f.length:Int)) (fun a ha=>ae9 (ha.ev rfl) bsn rfl) ?_
 refine Lv (.bool (decide ((f.length:Int) > 0))) (fun a ha=>afd (ha.ev rfl) (ha.ev rfl) rfl) ?_
 cases hsp2:(decide ((f.length:Int) > 0))
 ·skip
  refine Lv (.bool false) (fun a ha=>run_move (ha.ev rfl)) ?_
  refine Lp ?_
  refine Lp ?_
  refine Lp ?_
  refine Lv (.bool false) (fun a ha=>abE (ha.ev rfl) (ha.ev rfl)) ?_
  refine Lv (.bool false) (fun a ha=>run_assign (ha.ev rfl)) ?_
  refine jn ?_
  refine JC.seq ?_
  refine JC.seq ?_
  refine JC.region ?_
  refine Lv (.bool false) (fun a ha=>run_move (ha.ev rfl)) ?_
  refine jn ?_
  refine JC.abl rfl ?_
  refine JC.abu (fun _ _ h=>h) ?_
  refine JC.seq ?_
  refine JC.region ?_
  refine Lv (.string ⟨f.toArray⟩) (fun a ha=>run_move (ha.ev rfl)) ?_
  refine JL.call rfl rfl bsA (hp HS) (fun v3 w3 HR3 => ?_)
  obtain ⟨s3,A3,n3,c3,rfl,HS⟩:=HR3
  refine Lv (.tuple #[.agg #[.bool s3,.slice A3 n3 c3],.int .i64 c]) (fun a ha=>run_move (ha.ev rfl)) ?_
  refine Lv (.agg #[.bool s3,.slice A3 n3 c3]) (fun a ha=>aa6 (ha.ev rfl) rfl) ?_
  refine Lv (.int .i64 c) (fun a ha=>aa6 (ha.ev rfl) rfl) ?_
  refine JL.alloc (vs:=[.bool false,.slice none 0 0]) HS rfl bsv rfl rfl (fun g4 w4 HS => ?_)
  refine JL.store HS rfl rfl (i:=0) rfl bso rfl rfl rfl (vs':=[.bool s3,.slice A3 n3 c3]) rfl rfl (fun w5 HS => ?_)
  refine Lv (.int .i64 c) (fun a ha=>run_assign (ha.ev rfl)) ?_
  refine jn ?_
  refine JC.seq ?_
  refine JC.seq ?_
  refine JC.region ?_
  refine Lv (.int .i64 c) (fun a ha=>run_move (ha.ev rfl)) ?_
  refine Lv (.bool false) (fun a ha=>azp (ha.ev rfl) (ha.ev rfl) (by rw [hc0]; rfl)) ?_
  refine Lv (.bool false) (fun a ha=>run_move (ha.ev rfl)) ?_
  refine Lg (.agg #[.bool s3,.slice A3 n3 c3]) (fun a ha=>atD (ha.ev rfl) bsr bso (HS.box _ (.head _)) rfl rfl) ?_
  refine JL.ajo rfl rfl rfl rfl rfl rfl bsI (a1b HT HB HS (HS.at_ 0 rfl) (by omega)) (fun v6 w6 HR6 => ?_)
  obtain ⟨rfl,HS⟩:=HR6
  refine Lg (.bool false) (fun a ha=>akj (ha.ev rfl) (ha.ev rfl) ((a2a _).trans (decide_eq_false (show ¬ z < 0 by omega)))) ?_
  refine Lv (.bool false) (fun a ha=>abE (ha.ev rfl) (ha.ev rfl)) ?_
  refine Lv (.bool false) (fun a ha=>run_move (ha.ev rfl)) ?_
  refine Lg (.string ⟨r.toArray⟩) (fun a ha=>run_move (ha.ev rfl)) ?_
  refine Lg (.int .i64 (r.length:Int)) (fun a ha=>ae9 (ha.ev rfl) bsn rfl) ?_
  refine Lg (.bool false) (fun a ha=>aj6 (ha.ev rfl) (ha.ev rfl) (a4L hr0)) ?_
  refine Lv (.bool false) (fun a ha=>abE (ha.ev rfl) (ha.ev rfl)) ?_
  refine Lv (.bool false) (fun a ha=>run_move (ha.ev rfl)) ?_
  refine Lg (.int .i64 n) (fun a ha=>run_move (ha.ev rfl)) ?_
  refine Lg (.bool false) (fun a ha=>afd (ha.ev rfl) (ha.ev rfl) (decide_eq_false (by omega))) ?_
  refine Lv (.bool false) (fun a ha=>abE (ha.ev rfl) (ha.ev rfl)) ?_
  refine jn ?_
  refine JC.abl rfl ?_
  refine JC.abu (fun _ _ h=>h) ?_
  refine JC.seq ?_
  refine JC.region ?_
  refine JL.call rfl rfl bs8 (a2x HT HB HS  ) (fun v7 w7 HR7 => ?_)
  obtain ⟨s7,A7,n7,c7,rfl,HS⟩:=HR7
  refine JL.alloc (vs:=[.bool false,.slice none 0 0]) HS rfl bsv rfl rfl (fun g8 w8 HS => ?_)
  refine JL.store HS rfl rfl (i:=0) rfl bso rfl rfl rfl (vs':=[.bool s7,.slice A7 n7 c7]) rfl rfl (fun w9 HS => ?_)
  refine jn ?_
  refine JC.seq ?_
  refine JC.seq ?_
  refine JC.region ?_
  refine Lv (.string ⟨r.toArray⟩) (fun a ha=>run_move (ha.ev rfl)) ?_
  refine Lv (.int .i64 (r.length:Int)) (fun a ha=>ae9 (ha.ev rfl) bsn rfl) ?_
  refine Lv (.int .i64 0) (fun a ha=>run_move (ha.ev rfl)) ?_
  refine jn ?_
  refine JC.block ?_
  refine JC.sub (T':=[(0,.string ⟨f.toArray⟩),(1,.string ⟨r.toArray⟩),(2,.int .i64 n),(6,.pointer (some ⟨g1,0,none⟩)),(8,.bool false),(9,.pointer (some ⟨g4,0,none⟩)),(10,.int .i64 c),(11,.pointer (some ⟨g8,0,none⟩)),(13,.string ⟨f.toArray⟩),(14,.int .i64 (f.length:Int)),(15,.bool false),(16,.bool false),(20,.bool false),(21,.bool false),(24,.tuple #[.agg #[.bool s3,.slice A3 n3 c3],.int .i64 c]),(25,.string ⟨f.toArray⟩),(26,.tuple #[.agg #[.bool s3,.slice A3 n3 c3],.int .i64 c]),(27,.agg #[.bool s3,.slice A3 n3 c3]),(28,.int .i64 c),(29,.int .i64 c),(30,.bool false),(31,.bool false),(32,.agg #[.bool s3,.slice A3 n3 c3]),(33,.int .i64 (afm z)),(34,.bool false),(35,.bool false),(36,.bool false),(37,.string ⟨r.toArray⟩),(38,.int .i64 (r.length:Int)),(39,.bool false),(40,.bool false),(41,.bool false),(42,.int .i64 n),(43,.bool false),(44,.bool false),(46,.agg #[.bool s7,.slice A7 n7 c7]),(47,.string ⟨r.toArray⟩),(48,.int .i64 (r.length:Int)),(49,.int .i64 0)]) (akz.out ⟨rfl,rfl,rfl,rfl,rfl,rfl,rfl,rfl,rfl,rfl,rfl,rfl,rfl,rfl,rfl,rfl,rfl,rfl,rfl,rfl,rfl,rfl,rfl,rfl,rfl,rfl,rfl,rfl,rfl,rfl,rfl,rfl,rfl,rfl,rfl,rfl,rfl,rfl,rfl,trivial⟩) ?_
  refine JC.loop (ι:=iy0) (fun ⟨j,s9,A9,n9,c9,s11,A11,n11,c11⟩=>r.length - j) (fun ⟨j,s9,A9,n9,c9,s11,A11,n11,c11⟩=>[(0,.string ⟨f.toArray⟩),(1,.string ⟨r.toArray⟩),(2,.int .i64 n),(6,.pointer (some ⟨g1,0,none⟩)),(8,.bool false),(9,.pointer (some ⟨g4,0,none⟩)),(10,.int .i64 c),(11,.pointer (some ⟨g8,0,none⟩)),(13,.string ⟨f.toArray⟩),(14,.int .i64 (f.length:Int)),(15,.bool false),(16,.bool false),(20,.bool false),(21,.bool false),(24,.tuple #[.agg #[.bool s3,.slice A3 n3 c3],.int .i64 c]),(25,.string ⟨f.toArray⟩),(26,.tuple #[.agg #[.bool s3,.slice A3 n3 c3],.int .i64 c]),(27,.agg #[.bool s3,.slice A3 n3 c3]),(28,.int .i64 c),(29,.int .i64 c),(30,.bool false),(31,.bool false),(32,.agg #[.bool s3,.slice A3 n3 c3]),(33,.int .i64 (afm z)),(34,.bool false),(35,.bool false),(36,.bool false),(37,.string ⟨r.toArray⟩),(38,.int .i64 (r.length:Int)),(39,.bool false),(40,.bool false),(41,.bool false),(42,.int .i64 n),(43,.bool false),(44,.bool false),(46,.agg #[.bool s7,.slice A7 n7 c7]),(47,.string ⟨r.toArray⟩),(48,.int .i64 (r.length:Int)),(49,.int .i64 (j:Int))]) (fun ⟨j,s9,A9,n9,c9,s11,A11,n11,c11⟩ w=>(j≤m)∧St W0 (⟨g8,39,[.bool s11,.slice A11 n11 c11]⟩ :: ⟨g4,39,[.bool s9,.slice A9 n9 c9]⟩ :: ⟨g1,24,abd⟩ :: U) (FI (.agg #[.bool s9,.slice A9 n9 c9]) (z*10 ^ j+(aan (r.take j):Int)) 80 :: FI (.agg #[.bool s11,.slice A11 n11 c11]) ((10:Int) ^ j) 40 :: FI (.agg #[.bool s7,.slice A7 n7 c7]) 1 2 :: FI (.agg #[.bool s3,.slice A3 n3 c3]) z 32 :: Ps) w) ?_ (0,s3,A3,n3,c3,s7,A7,n7,c7) _ ⟨Nat.zero_le _,((HS.atF 0 rfl (fun _ h=>FI.tw h (Int.pow_zero _).symm (azQ (by omega)))).atF 2 rfl (fun _ h=>FI.tw h (by simp [aan]) (aNM (j:=0) hz (.inr trivial) (by simp [aan]) (by omega))))⟩
  skip
  rintro ⟨j,s9,A9,n9,c9,s11,A11,n11,c11⟩ wl1 ⟨a3h,HS⟩
  refine JC.sub (T':=[(0,.string ⟨f.toArray⟩),(1,.string ⟨r.toArray⟩),(2,.int .i64 n),(6,.pointer (some ⟨g1,0,none⟩)),(8,.bool false),(9,.pointer (some ⟨g4,0,none⟩)),(10,.int .i64 c),(11,.pointer (some ⟨g8,0,none⟩)),(13,.string ⟨f.toArray⟩),(14,.int .i64 (f.length:Int)),(15,.bool false),(16,.bool false),(20,.bool false),(21,.bool false),(24,.tuple #[.agg #[.bool s3,.slice A3 n3 c3],.int .i64 c]),(25,.string ⟨f.toArray⟩),(26,.tuple #[.agg #[.bool s3,.slice A3 n3 c3],.int .i64 c]),(27,.agg #[.bool s3,.slice A3 n3 c3]),(28,.int .i64 c),(29,.int .i64 c),(30,.bool false),(31,.bool false),(32,.agg #[.bool s3,.slice A3 n3 c3]),(33,.int .i64 (afm z)),(34,.bool false),(35,.bool false),(36,.bool false),(37,.string ⟨r.toArray⟩),(38,.int .i64 (r.length:Int)),(39,.bool false),(40,.bool false),(41,.bool false),(42,.int .i64 n),(43,.bool false),(44,.bool false),(46,.agg #[.bool s7,.slice A7 n7 c7]),(47,.string ⟨r.toArray⟩),(48,.int .i64 (r.length:Int)),(49,.int .i64 (j:Int))]) (fun _ _ h=>h) ?_
  have HS:St W0 (⟨g8,39,[.bool s11,.slice A11 n11 c11]⟩ :: ⟨g4,39,[.bool s9,.slice A9 n9 c9]⟩ :: ⟨g1,24,abd⟩ :: U) (FI (.agg #[.bool s9,.slice A9 n9 c9]) (z*10 ^ j+(aan (r.take j):Int)) 80 :: FI (.agg #[.bool s11,.slice A11 n11 c11]) ((10:Int) ^ j) 40 :: FI (.agg #[.bool s7,.slice A7 n7 c7]) 1 2 :: FI (.agg #[.bool s3,.slice A3 n3 c3]) z 32 :: Ps) wl1:=HS
  refine JC.seq ?_
  refine JC.region ?_
  refine Lv (.bool true) (fun a ha=>akj (ha.ev rfl) (ha.ev rfl) (decide_eq_true (by omega))) ?_
  refine jn ?_
  refine JC.seq ?_
  refine JC.acZ rfl ?_
  refine JC.abu (fun _ _ h=>h) ?_
  refine JC.seq ?_
  refine JC.block ?_
  refine JC.seq ?_
  refine JC.region ?_
  refine Lv (.int .i64 (j:Int)) (fun a ha=>run_move (ha.ev rfl)) ?_
  refine Lv (.int .i64 (j:Int)) (fun a ha=>run_assign (ha.ev rfl)) ?_
  refine jn ?_
  refine JC.seq ?_
  by_cases a4B:j=m
  ·skip
   refine JC.seq ?_
   obtain ⟨b,hb⟩ : ∃ b,r[j]? = some b:=⟨_,List.getElem?_eq_getElem (show j < r.length by omega)⟩
   have hbd:=hbad b (by rw [← a4B]; exact hb)
   refine JC.region ?_
   refine Lv (.string ⟨r.toArray⟩) (fun a ha=>run_move (ha.ev rfl)) ?_
   refine Lv (.int .i64 (j:Int)) (fun a ha=>run_move (ha.ev rfl)) ?_
   refine Lv (.int .u8 (b.toNat:Int)) (fun a ha=>afD (ha.ev rfl) (ha.ev rfl) bsn rfl hb rfl) ?_
   refine Lv (.bool (decide ((b.toNat:Int) < 48))) (fun a ha=>akj (ha.ev rfl) (ha.ev rfl) rfl) ?_
   cases a90:(decide ((b.toNat:Int) < 48))
   ·skip
    refine Lv (.bool false) (fun a ha=>run_move (ha.ev rfl)) ?_
    refine Lg (.string ⟨r.toArray⟩) (fun a ha=>run_move (ha.ev rfl)) ?_
    refine Lg (.int .i64 (j:Int)) (fun a ha=>run_move (ha.ev rfl)) ?_
    refine Lg (.int .u8 (b.toNat:Int)) (fun a ha=>afD (ha.ev rfl) (ha.ev rfl) bsn rfl hb rfl) ?_
    refine Lg (.bool (decide ((b.toNat:Int) > 57))) (fun a ha=>afd (ha.ev rfl) (ha.ev rfl) rfl) ?_
    refine Lv (.bool (decide ((b.toNat:Int) > 57))) (fun a ha=>abE (ha.ev rfl) (ha.ev rfl)) ?_
    refine jn ?_
    cases a94:(decide ((b.toNat:Int) > 57))
    ·skip
     exact absurd hbd (by have e1:=of_decide_eq_false a90; have e2:=of_decide_eq_false a94; omega)
    ·skip
     refine JC.acZ rfl ?_
     refine JC.seq ?_
     refine JC.region ?_
     refine Lv abe (fun a ha=>acY.run_build (vs:=[]) (by simp only [List.map_cons,List.map_nil]) bsu bsp ahx rfl) ?_
     refine JL.store HS rfl rfl (i:=2) rfl bsm rfl rfl rfl (vs':=abd) rfl rfl (fun w13 HS => ?_)
     refine Lv (.int .i64 2) (fun a ha=>run_assign (ha.ev rfl)) ?_
     refine jn ?_
     refine JC.ret (fun a ha => ?_)
     repeat (first | refine aev ?_ | refine aeu ?_)
     refine aff (v:=abe) (v' := .int .i64 2) ha Tryz.results116 (.agg rfl bsq bsm (HS.box _ (.tail _ (.tail _ (.head _)))) rfl rfl) (.tmp rfl) ⟨_,rfl,?_⟩
     exact ⟨_,_,_,_,_,_,_,rfl,(HS.add (FV.stable _ _ _ _) ((FV.zero 0 _).as rfl (by omega))).alm 3 4 rfl rfl⟩
   ·skip
    refine Lv (.bool true) (fun a ha=>run_move (ha.ev rfl)) ?_
    refine Lp ?_
    refine Lp ?_
    refine Lp ?_
    refine Lp ?_
    refine Lv (.bool true) (fun a ha=>ae7 (ha.ev rfl) (ha.ev rfl)) ?_
    refine jn ?_
    refine JC.acZ rfl ?_
    refine JC.seq ?_
    refine JC.region ?_
    refine Lv abe (fun a ha=>acY.run_build (vs:=[]) (by simp only [List.map_cons,List.map_nil]) bsu bsp ahx rfl) ?_
    refine JL.store HS rfl rfl (i:=2) rfl bsm rfl rfl rfl (vs':=abd) rfl rfl (fun w14 HS => ?_)
    refine Lv (.int .i64 2) (fun a ha=>run_assign (ha.ev rfl)) ?_
    refine jn ?_
    refine JC.ret (fun a ha => ?_)
    repeat (first | refine aev ?_ | refine aeu ?_)
    refine aff (v:=abe) (v' := .int .i64 2) ha Tryz.results116 (.agg rfl bsq bsm (HS.box _ (.tail _ (.tail _ (.head _)))) rfl rfl) (.tmp rfl) ⟨_,rfl,?_⟩
    exact ⟨_,_,_,_,_,_,_,rfl,(HS.add (FV.stable _ _ _ _) ((FV.zero 0 _).as rfl (by omega))).alm 3 4 rfl rfl⟩
  ·skip
   refine JC.seq ?_
   obtain ⟨b,hb⟩ : ∃ b,r[j]? = some b:=⟨_,List.getElem?_eq_getElem (show j < r.length by omega)⟩
   have hbd:=hdig j b (by omega) hb
   refine JC.region ?_
   refine Lv (.string ⟨r.toArray⟩) (fun a ha=>run_move (ha.ev rfl)) ?_
   refine Lv (.int .i64 (j:Int)) (fun a ha=>run_move (ha.ev rfl)) ?_
   refine Lv (.int .u8 (b.toNat:Int)) (fun a ha=>afD (ha.ev rfl) (ha.ev rfl) bsn rfl hb rfl) ?_
   refine Lv (.bool false) (fun a ha=>akj (ha.ev rfl) (ha.ev rfl) (decide_eq_false (by omega))) ?_
   refine Lv (.bool false) (fun a ha=>run_move (ha.ev rfl)) ?_
   refine Lg (.string ⟨r.toArray⟩) (fun a ha=>run_move (ha.ev rfl)) ?_
   refine Lg (.int .i64 (j:Int)) (fun a ha=>run_move (ha.ev rfl)) ?_
   refine Lg (.int .u8 (b.toNat:Int)) (fun a ha=>afD (ha.ev rfl) (ha.ev rfl) bsn rfl hb rfl) ?_
   refine Lg (.bool false) (fun a ha=>afd (ha.ev rfl) (ha.ev rfl) (decide_eq_false (by omega))) ?_
   refine Lv (.bool false) (fun a ha=>abE (ha.ev rfl) (ha.ev rfl)) ?_
   refine jn ?_
   refine JC.abl rfl ?_
   refine JC.abu (fun _ _ h=>h) ?_
   refine JC.seq ?_
   refine JC.draw HS [10] (by kernel_rfl) (fun w15 HS => ?_)
   refine Da (.agg #[.bool s9,.slice A9 n9 c9]) 0 1 rfl HS.b0 rfl rfl bsr bso ?_
   refine Dv (.string ⟨r.toArray⟩) 3 rfl HS.b0 (fun a ha w=>run_move (ha.ev rfl)) ?_
   refine Dv (.int .i64 (j:Int)) 4 rfl HS.b0 (fun a ha w=>run_move (ha.ev rfl)) ?_
   refine Dv (.int .u8 (b.toNat:Int)) 5 rfl HS.b0 (fun a ha w=>afD (ha.ev rfl) (ha.ev rfl) bsn rfl hb rfl) ?_
   refine Dv (.int .u8 ((b.toNat - 48:Nat):Int)) 6 rfl HS.b0 (fun a ha w=>a5f (ha.ev rfl) (ha.ev rfl) (a5m hbd)) ?_
   refine Dv (.int .i64 ((b.toNat - 48:Nat):Int)) 7 rfl HS.b0 (fun a ha w=>a5b (ha.ev rfl) btv btw (by rw [IntKind.wrap_i64]; omega)) ?_
   refine D1c 1 rfl rfl rfl bsy (aos HT HB HS  (by omega) (by omega)) (fun bfG bfM a5M => ?_)
   obtain ⟨bnB,bf1,bkX,bhv,rfl,HS⟩:=a5M
   refine ⟨HS.b0,?_⟩
   refine D1c 2 rfl rfl rfl bsE (aN2 HT HB HS (HS.at_ 1 rfl) (HS.at_ 0 rfl) (by omega)) (fun boO bo5 a8T => ?_)
   obtain ⟨ba1,a8H,bau,a9q,rfl,HS⟩:=a8T
   refine ⟨HS.b0,?_⟩
   refine D1c 8 rfl rfl rfl bsy (aos HT HB HS  (by omega) (by omega)) (fun bru brZ bgo => ?_)
   obtain ⟨bra,bpj,bqa,bpz,rfl,HS⟩:=bgo
   refine ⟨HS.b0,?_⟩
   refine D1c 9 rfl rfl rfl btx (a4Y HT HB HS (HS.at_ 1 rfl) (HS.at_ 0 rfl) (by omega)) (fun brv br0 bgp => ?_)
   obtain ⟨bfa,bbm,bdX,bbV,rfl,HS⟩:=bgp
   refine ⟨HS.b0,?_⟩
   refine D1s 10 [.bool bfa,.slice bbm bdX bbV] HS 1 rfl rfl rfl rfl bso (fun _ HS=>⟨(aoq (s:=10) rfl rfl),?_⟩)
   refine JR.next (by kernel_rfl) (fun _ _ h=>h) ?_
   refine JC.draw HS [3] (by kernel_rfl) (fun w17 HS => ?_)
   refine Da (.agg #[.bool s11,.slice A11 n11 c11]) 0 0 rfl HS.b0 rfl rfl bsr bso ?_
   refine D1c 1 rfl rfl rfl bsy (aos HT HB HS  (by omega) (by omega)) (fun brx br2 bgr => ?_)
   obtain ⟨brb,bpk,bqb,bpA,rfl,HS⟩:=bgr
   refine ⟨HS.b0,?_⟩
   refine D1c 2 rfl rfl rfl bsE (aN2 HT HB HS (HS.at_ 6 rfl) (HS.at_ 0 rfl) (by omega)) (fun bry br3 bgs => ?_)
   obtain ⟨bfb,bbn,bdY,bbW,rfl,HS⟩:=bgs
   refine ⟨HS.b0,?_⟩
   refine D1s 3 [.bool bfb,.slice bbn bdY bbW] HS 0 rfl rfl rfl rfl bso (fun _ HS=>⟨(aoq (s:=3) rfl rfl),?_⟩)
   refine JR.a2X (by kernel_rfl) (fun _ _ h=>h) ?_
   refine JC.region ?_
   refine Lv (.int .i64 ((j+1:Nat):Int)) (fun a ha=>azn (ha.ev rfl) (ha.ev rfl) (by rw [IntKind.wrap_i64]; omega)) ?_
   refine Lv (.int .i64 ((j+1:Nat):Int)) (fun a ha=>run_move (ha.ev rfl)) ?_
   exact JL.round ((j+1),bfa,bbm,bdX,bbV,bfb,bbn,bdY,bbW) (by dsimp only; omega) (akz.out ⟨rfl,rfl,rfl,rfl,rfl,rfl,rfl,rfl,rfl,rfl,rfl,rfl,rfl,rfl,rfl,rfl,rfl,rfl,rfl,rfl,rfl,rfl,rfl,rfl,rfl,rfl,rfl,rfl,rfl,rfl,rfl,rfl,rfl,rfl,rfl,rfl,rfl,rfl,rfl,trivial⟩) ⟨by omega,(HS.a4T 0 8 2 0 rfl rfl rfl (fun _ h=>FI.tw h (a5i hb) (aNM hz (.inr trivial) (hdt (j+1) (by omega)) (by omega))) rfl (fun _ h=>FI.tw h (Int.pow_succ _ _).symm (azQ (by omega))))⟩
 ·skip
  have hd2:=of_decide_eq_true hsp2
  obtain ⟨x0,hx0⟩ : ∃ x,f[0]? = some x:=⟨_,List.getElem?_eq_getElem (show 0 < f.length by omega)⟩
  have a6u:=h45 x0 hx0
  refine Lv (.bool true) (fun a ha=>run_move (ha.ev rfl)) ?_
  refine Lg (.string ⟨f.toArray⟩) (fun a ha=>run_move (ha.ev rfl)) ?_
  refine Lg (.int .u8 (x0.toNat:Int)) (fun a ha=>afD (ha.ev rfl) (ha.ev rfl) bsn rfl hx0 rfl) ?_
  refine Lg (.bool false) (fun a ha=>aj6 (ha.ev rfl) (ha.ev rfl) (baw a6u)) ?_
  refine Lv (.bool false) (fun a ha=>ae7 (ha.ev rfl) (ha.ev rfl)) ?_
  refine Lv (.bool false) (fun a ha=>run_assign (ha.ev rfl)) ?_
  refine jn ?_
  refine JC.seq ?_
  refine JC.seq ?_
  refine JC.region ?_
  refine Lv (.bool false) (fun a ha=>run_move (ha.ev rfl)) ?_
  refine jn ?_
  refine JC.abl rfl ?_
  refine JC.abu (fun _ _ h=>h) ?_
  refine JC.seq ?_
  refine JC.region ?_
  refine Lv (.string ⟨f.toArray⟩) (fun a ha=>run_move (ha.ev rfl)) ?_
  refine JL.call rfl rfl bsA (hp HS) (fun v19 w19 a8X => ?_)
  obtain ⟨s19,A19,n19,c19,rfl,HS⟩:=a8X
  refine Lv (.tuple #[.agg #[.bool s19,.slice A19 n19 c19],.int .i64 c]) (fun a ha=>run_move (ha.ev rfl)) ?_
  refine Lv (.agg #[.bool s19,.slice A19 n19 c19]) (fun a ha=>aa6 (ha.ev rfl) rfl) ?_
  refine Lv (.int .i64 c) (fun a ha=>aa6 (ha.ev rfl) rfl) ?_
  refine JL.alloc (vs:=[.bool false,.slice none 0 0]) HS rfl bsv rfl rfl (fun g20 w20 HS => ?_)
  refine JL.store HS rfl rfl (i:=0) rfl bso rfl rfl rfl (vs':=[.bool s19,.slice A19 n19 c19]) rfl rfl (fun w21 HS => ?_)
  refine Lv (.int .i64 c) (fun a ha=>run_assign (ha.ev rfl)) ?_
  refine jn ?_
  refine JC.seq ?_
  refine JC.seq ?_
  refine JC.region ?_
  refine Lv (.int .i64 c) (fun a ha=>run_move (ha.ev rfl)) ?_
  refine Lv (.bool false) (fun a ha=>azp (ha.ev rfl) (ha.ev rfl) (by rw [hc0]; rfl)) ?_
  refine Lv (.bool false) (fun a ha=>run_move (ha.ev rfl)) ?_
  refine Lg (.agg #[.bool s19,.slice A19 n19 c19]) (fun a ha=>atD (ha.ev rfl) bsr bso (HS.box _ (.head _)) rfl rfl) ?_
  refine JL.ajo rfl rfl rfl rfl rfl rfl bsI (a1b HT HB HS (HS.at_ 0 rfl) (by omega)) (fun v22 w22 bgt => ?_)
  obtain ⟨rfl,HS⟩:=bgt
  refine Lg (.bool false) (fun a ha=>akj (ha.ev rfl) (ha.ev rfl) ((a2a _).trans (decide_eq_false (show ¬ z < 0 by omega)))) ?_
  refine Lv (.bool false) (fun a ha=>abE (ha.ev rfl) (ha.ev rfl)) ?_
  refine Lv (.bool false) (fun a ha=>run_move (ha.ev rfl)) ?_
  refine Lg (.string ⟨r.toArray⟩) (fun a ha=>run_move (ha.ev rfl)) ?_
  refine Lg (.int .i64 (r.length:Int)) (fun a ha=>ae9 (ha.ev rfl) bsn rfl) ?_
  refine Lg (.bool false) (fun a ha=>aj6 (ha.ev rfl) (ha.ev rfl) (a4L hr0)) ?_
  refine Lv (.bool false) (fun a ha=>abE (ha.ev rfl) (ha.ev rfl)) ?_
  refine Lv (.bool false) (fun a ha=>run_move (ha.ev rfl)) ?_
  refine Lg (.int .i64 n) (fun a ha=>run_move (ha.ev rfl)) ?_
  refine Lg (.bool false) (fun a ha=>afd (ha.ev rfl) (ha.ev rfl) (decide_eq_false (by omega))) ?_
  refine Lv (.bool false) (fun a ha=>abE (ha.ev rfl) (ha.ev rfl)) ?_
  refine jn ?_
  refine JC.abl rfl ?_
  refine JC.abu (fun _ _ h=>h) ?_
  refine JC.seq ?_
  refine JC.region ?_
  refine JL.call rfl rfl bs8 (a2x HT HB HS  ) (fun v23 w23 bgu => ?_)
  obtain ⟨s23,A23,n23,c23,rfl,HS⟩:=bgu
  refine JL.alloc (vs:=[.bool false,.slice none 0 0]) HS rfl bsv rfl rfl (fun g24 w24 HS => ?_)
  refine JL.store HS rfl rfl (i:=0) rfl bso rfl rfl rfl (vs':=[.bool s23,.slice A23 n23 c23]) rfl rfl (fun w25 HS => ?_)
  refine jn ?_
  refine JC.seq ?_
  refine JC.seq ?_
  refine JC.region ?_
  refine Lv (.string ⟨r.toArray⟩) (fun a ha=>run_move (ha.ev rfl)) ?_
  refine Lv (.int .i64 (r.length:Int)) (fun a ha=>ae9 (ha.ev rfl) bsn rfl) ?_
  refine Lv (.int .i64 0) (fun a ha=>run_move (ha.ev rfl)) ?_
  refine jn ?_
  refine JC.block ?_
  refine JC.sub (T':=[(0,.string ⟨f.toArray⟩),(1,.string ⟨r.toArray⟩),(2,.int .i64 n),(6,.pointer (some ⟨g1,0,none⟩)),(8,.bool false),(9,.pointer (some ⟨g20,0,none⟩)),(10,.int .i64 c),(11,.pointer (some ⟨g24,0,none⟩)),(13,.string ⟨f.toArray⟩),(14,.int .i64 (f.length:Int)),(15,.bool true),(16,.bool true),(17,.string ⟨f.toArray⟩),(18,.int .u8 (x0.toNat:Int)),(19,.bool false),(20,.bool false),(21,.bool false),(24,.tuple #[.agg #[.bool s19,.slice A19 n19 c19],.int .i64 c]),(25,.string ⟨f.toArray⟩),(26,.tuple #[.agg #[.bool s19,.slice A19 n19 c19],.int .i64 c]),(27,.agg #[.bool s19,.slice A19 n19 c19]),(28,.int .i64 c),(29,.int .i64 c),(30,.bool false),(31,.bool false),(32,.agg #[.bool s19,.slice A19 n19 c19]),(33,.int .i64 (afm z)),(34,.bool false),(35,.bool false),(36,.bool false),(37,.string ⟨r.toArray⟩),(38,.int .i64 (r.length:Int)),(39,.bool false),(40,.bool false),(41,.bool false),(42,.int .i64 n),(43,.bool false),(44,.bool false),(46,.agg #[.bool s23,.slice A23 n23 c23]),(47,.string ⟨r.toArray⟩),(48,.int .i64 (r.length:Int)),(49,.int .i64 0)]) (akz.out ⟨rfl,rfl,rfl,rfl,rfl,rfl,rfl,rfl,rfl,rfl,rfl,rfl,rfl,rfl,rfl,rfl,rfl,rfl,rfl,rfl,rfl,rfl,rfl,rfl,rfl,rfl,rfl,rfl,rfl,rfl,rfl,rfl,rfl,rfl,rfl,rfl,rfl,rfl,rfl,rfl,rfl,rfl,trivial⟩) ?_
  refine JC.loop (ι:=iy0) (fun ⟨j,s9,A9,n9,c9,s11,A11,n11,c11⟩=>r.length - j) (fun ⟨j,s9,A9,n9,c9,s11,A11,n11,c11⟩=>[(0,.string ⟨f.toArray⟩),(1,.string ⟨r.toArray⟩),(2,.int .i64 n),(6,.pointer (some ⟨g1,0,none⟩)),(8,.bool false),(9,.pointer (some ⟨g20,0,none⟩)),(10,.int .i64 c),(11,.pointer (some ⟨g24,0,none⟩)),(13,.string ⟨f.toArray⟩),(14,.int .i64 (f.length:Int)),(15,.bool true),(16,.bool true),(17,.string ⟨f.toArray⟩),(18,.int .u8 (x0.toNat:Int)),(19,.bool false),(20,.bool false),(21,.bool false),(24,.tuple #[.agg #[.bool s19,.slice A19 n19 c19],.int .i64 c]),(25,.string ⟨f.toArray⟩),(26,.tuple #[.agg #[.bool s19,.slice A19 n19 c19],.int .i64 c]),(27,.agg #[.bool s19,.slice A19 n19 c19]),(28,.int .i64 c),(29,.int .i64 c),(30,.bool false),(31,.bool false),(32,.agg #[.bool s19,.slice A19 n19 c19]),(33,.int .i64 (afm z)),(34,.bool false),(35,.bool false),(36,.bool false),(37,.string ⟨r.toArray⟩),(38,.int .i64 (r.length:Int)),(39,.bool false),(40,.bool false),(41,.bool false),(42,.int .i64 n),(43,.bool false),(44,.bool false),(46,.agg #[.bool s23,.slice A23 n23 c23]),(47,.string ⟨r.toArray⟩),(48,.int .i64 (r.length:Int)),(49,.int .i64 (j:Int))]) (fun ⟨j,s9,A9,n9,c9,s11,A11,n11,c11⟩ w=>(j≤m)∧St W0 (⟨g24,39,[.bool s11,.slice A11 n11 c11]⟩ :: ⟨g20,39,[.bool s9,.slice A9 n9 c9]⟩ :: ⟨g1,24,abd⟩ :: U) (FI (.agg #[.bool s9,.slice A9 n9 c9]) (z*10 ^ j+(aan (r.take j):Int)) 80 :: FI (.agg #[.bool s11,.slice A11 n11 c11]) ((10:Int) ^ j) 40 :: FI (.agg #[.bool s23,.slice A23 n23 c23]) 1 2 :: FI (.agg #[.bool s19,.slice A19 n19 c19]) z 32 :: Ps) w) ?_ (0,s19,A19,n19,c19,s23,A23,n23,c23) _ ⟨Nat.zero_le _,((HS.atF 0 rfl (fun _ h=>FI.tw h (Int.pow_zero _).symm (azQ (by omega)))).atF 2 rfl (fun _ h=>FI.tw h (by simp [aan]) (aNM (j:=0) hz (.inr trivial) (by simp [aan]) (by omega))))⟩
  skip
  rintro ⟨j,s9,A9,n9,c9,s11,A11,n11,c11⟩ wl2 ⟨bjR,HS⟩
  refine JC.sub (T':=[(0,.string ⟨f.toArray⟩),(1,.string ⟨r.toArray⟩),(2,.int .i64 n),(6,.pointer (some ⟨g1,0,none⟩)),(8,.bool false),(9,.pointer (some ⟨g20,0,none⟩)),(10,.int .i64 c),(11,.pointer (some ⟨g24,0,none⟩)),(13,.string ⟨f.toArray⟩),(14,.int .i64 (f.length:Int)),(15,.bool true),(16,.bool true),(17,.string ⟨f.toArray⟩),(18,.int .u8 (x0.toNat:Int)),(19,.bool false),(20,.bool false),(21,.bool false),(24,.tuple #[.agg #[.bool s19,.slice A19 n19 c19],.int .i64 c]),(25,.string ⟨f.toArray⟩),(26,.tuple #[.agg #[.bool s19,.slice A19 n19 c19],.int .i64 c]),(27,.agg #[.bool s19,.slice A19 n19 c19]),(28,.int .i64 c),(29,.int .i64 c),(30,.bool false),(31,.bool false),(32,.agg #[.bool s19,.slice A19 n19 c19]),(33,.int .i64 (afm z)),(34,.bool false),(35,.bool false),(36,.bool false),(37,.string ⟨r.toArray⟩),(38,.int .i64 (r.length:Int)),(39,.bool false),(40,.bool false),(41,.bool false),(42,.int .i64 n),(43,.bool false),(44,.bool false),(46,.agg #[.bool s23,.slice A23 n23 c23]),(47,.string ⟨r.toArray⟩),(48,.int .i64 (r.length:Int)),(49,.int .i64 (j:Int))]) (fun _ _ h=>h) ?_
  have HS:St W0 (⟨g24,39,[.bool s11,.slice A11 n11 c11]⟩ :: ⟨g20,39,[.bool s9,.slice A9 n9 c9]⟩ :: ⟨g1,24,abd⟩ :: U) (FI (.agg #[.bool s9,.slice A9 n9 c9]) (z*10 ^ j+(aan (r.take j):Int)) 80 :: FI (.agg #[.bool s11,.slice A11 n11 c11]) ((10:Int) ^ j) 40 :: FI (.agg #[.bool s23,.slice A23 n23 c23]) 1 2 :: FI (.agg #[.bool s19,.slice A19 n19 c19]) z 32 :: Ps) wl2:=HS
  refine JC.seq ?_
  refine JC.region ?_
  refine Lv (.bool true) (fun a ha=>akj (ha.ev rfl) (ha.ev rfl) (decide_eq_true (by omega))) ?_
  refine jn ?_
  refine JC.seq ?_
  refine JC.acZ rfl ?_
  refine JC.abu (fun _ _ h=>h) ?_
  refine JC.seq ?_
  refine JC.block ?_
  refine JC.seq ?_
  refine JC.region ?_
  refine Lv (.int .i64 (j:Int)) (fun a ha=>run_move (ha.ev rfl)) ?_
  refine Lv (.int .i64 (j:Int)) (fun a ha=>run_assign (ha.ev rfl)) ?_
  refine jn ?_
  refine JC.seq ?_
  by_cases bjK:j=m
  ·skip
   refine JC.seq ?_
   obtain ⟨b,hb⟩ : ∃ b,r[j]? = some b:=⟨_,List.getElem?_eq_getElem (show j < r.length by omega)⟩
   have hbd:=hbad b (by rw [← bjK]; exact hb)
   refine JC.region ?_
   refine Lv (.string ⟨r.toArray⟩) (fun a ha=>run_move (ha.ev rfl)) ?_
   refine Lv (.int .i64 (j:Int)) (fun a ha=>run_move (ha.ev rfl)) ?_
   refine Lv (.int .u8 (b.toNat:Int)) (fun a ha=>afD (ha.ev rfl) (ha.ev rfl) bsn rfl hb rfl) ?_
   refine Lv (.bool (decide ((b.toNat:Int) < 48))) (fun a ha=>akj (ha.ev rfl) (ha.ev rfl) rfl) ?_
   cases bj5:(decide ((b.toNat:Int) < 48))
   ·skip
    refine Lv (.bool false) (fun a ha=>run_move (ha.ev rfl)) ?_
    refine Lg (.string ⟨r.toArray⟩) (fun a ha=>run_move (ha.ev rfl)) ?_
    refine Lg (.int .i64 (j:Int)) (fun a ha=>run_move (ha.ev rfl)) ?_
    refine Lg (.int .u8 (b.toNat:Int)) (fun a ha=>afD (ha.ev rfl) (ha.ev rfl) bsn rfl hb rfl) ?_
    refine Lg (.bool (decide ((b.toNat:Int) > 57))) (fun a ha=>afd (ha.ev rfl) (ha.ev rfl) rfl) ?_
    refine Lv (.bool (decide ((b.toNat:Int) > 57))) (fun a ha=>abE (ha.ev rfl) (ha.ev rfl)) ?_
    refine jn ?_
    cases bj6:(decide ((b.toNat:Int) > 57))
    ·skip
     exact absurd hbd (by have e1:=of_decide_eq_false bj5; have e2:=of_decide_eq_false bj6; omega)
    ·skip
     refine JC.acZ rfl ?_
     refine JC.seq ?_
     refine JC.region ?_
     refine Lv abe (fun a ha=>acY.run_build (vs:=[]) (by simp only [List.map_cons,List.map_nil]) bsu bsp ahx rfl) ?_
     refine JL.store HS rfl rfl (i:=2) rfl bsm rfl rfl rfl (vs':=abd) rfl rfl (fun w29 HS => ?_)
     refine Lv (.int .i64 2) (fun a ha=>run_assign (ha.ev rfl)) ?_
     refine jn ?_
     refine JC.ret (fun a ha => ?_)
     repeat (first | refine aev ?_ | refine aeu ?_)
     refine aff (v:=abe) (v' := .int .i64 2) ha Tryz.results116 (.agg rfl bsq bsm (HS.box _ (.tail _ (.tail _ (.head _)))) rfl rfl) (.tmp rfl) ⟨_,rfl,?_⟩
     exact ⟨_,_,_,_,_,_,_,rfl,(HS.add (FV.stable _ _ _ _) ((FV.zero 0 _).as rfl (by omega))).alm 3 4 rfl rfl⟩
   ·skip
    refine Lv (.bool true) (fun a ha=>run_move (ha.ev rfl)) ?_
    refine Lp ?_
    refine Lp ?_
    refine Lp ?_
    refine Lp ?_
    refine Lv (.bool true) (fun a ha=>ae7 (ha.ev rfl) (ha.ev rfl)) ?_
    refine jn ?_
    refine JC.acZ rfl ?_
    refine JC.seq ?_
    refine JC.region ?_
    refine Lv abe (fun a ha=>acY.run_build (vs:=[]) (by simp only [List.map_cons,List.map_nil]) bsu bsp ahx rfl) ?_
    refine JL.store HS rfl rfl (i:=2) rfl bsm rfl rfl rfl (vs':=abd) rfl rfl (fun w30 HS => ?_)
    refine Lv (.int .i64 2) (fun a ha=>run_assign (ha.ev rfl)) ?_
    refine jn ?_
    refine JC.ret (fun a ha => ?_)
    repeat (first | refine aev ?_ | refine aeu ?_)
    refine aff (v:=abe) (v' := .int .i64 2) ha Tryz.results116 (.agg rfl bsq bsm (HS.box _ (.tail _ (.tail _ (.head _)))) rfl rfl) (.tmp rfl) ⟨_,rfl,?_⟩
    exact ⟨_,_,_,_,_,_,_,rfl,(HS.add (FV.stable _ _ _ _) ((FV.zero 0 _).as rfl (by omega))).alm 3 4 rfl rfl⟩
  ·skip
   refine JC.seq ?_
   obtain ⟨b,hb⟩ : ∃ b,r[j]? = some b:=⟨_,List.getElem?_eq_getElem (show j < r.length by omega)⟩
   have hbd:=hdig j b (by omega) hb
   refine JC.region ?_
   refine Lv (.string ⟨r.toArray⟩) (fun a ha=>run_move (ha.ev rfl)) ?_
   refine Lv (.int .i64 (j:Int)) (fun a ha=>run_move (ha.ev rfl)) ?_
   refine Lv (.int .u8 (b.toNat:Int)) (fun a ha=>afD (ha.ev rfl) (ha.ev rfl) bsn rfl hb rfl) ?_
   refine Lv (.bool false) (fun a ha=>akj (ha.ev rfl) (ha.ev rfl) (decide_eq_false (by omega))) ?_
   refine Lv (.bool false) (fun a ha=>run_move (ha.ev rfl)) ?_
   refine Lg (.string ⟨r.toArray⟩) (fun a ha=>run_move (ha.ev rfl)) ?_
   refine Lg (.int .i64 (j:Int)) (fun a ha=>run_move (ha.ev rfl)) ?_
   refine Lg (.int .u8 (b.toNat:Int)) (fun a ha=>afD (ha.ev rfl) (ha.ev rfl) bsn rfl hb rfl) ?_
   refine Lg (.bool false) (fun a ha=>afd (ha.ev rfl) (ha.ev rfl) (decide_eq_false (by omega))) ?_
   refine Lv (.bool false) (fun a ha=>abE (ha.ev rfl) (ha.ev rfl)) ?_
   refine jn ?_
   refine JC.abl rfl ?_
   refine JC.abu (fun _ _ h=>h) ?_
   refine JC.seq ?_
   refine JC.draw HS [10] (by kernel_rfl) (fun w31 HS => ?_)
   refine Da (.agg #[.bool s9,.slice A9 n9 c9]) 0 1 rfl HS.b0 rfl rfl bsr bso ?_
   refine Dv (.string ⟨r.toArray⟩) 3 rfl HS.b0 (fun a ha w=>run_move (ha.ev rfl)) ?_
   refine Dv (.int .i64 (j:Int)) 4 rfl HS.b0 (fun a ha w=>run_move (ha.ev rfl)) ?_
   refine Dv (.int .u8 (b.toNat:Int)) 5 rfl HS.b0 (fun a ha w=>afD (ha.ev rfl) (ha.ev rfl) bsn rfl hb rfl) ?_
   refine Dv (.int .u8 ((b.toNat - 48:Nat):Int)) 6 rfl HS.b0 (fun a ha w=>a5f (ha.ev rfl) (ha.ev rfl) (a5m hbd)) ?_
   refine Dv (.int .i64 ((b.toNat - 48:Nat):Int)) 7 rfl HS.b0 (fun a ha w=>a5b (ha.ev rfl) btv btw (by rw [IntKind.wrap_i64]; omega)) ?_
   refine D1c 1 rfl rfl rfl bsy (aos HT HB HS  (by omega) (by omega)) (fun brH bsb bgH => ?_)
   obtain ⟨brg,bpp,bqg,bpF,rfl,HS⟩:=bgH
   refine ⟨HS.b0,?_⟩
   refine D1c 2 rfl rfl rfl bsE (aN2 HT HB HS (HS.at_ 1 rfl) (HS.at_ 0 rfl) (by omega)) (fun brI bsc bgI => ?_)
   obtain ⟨brh,bpq,bqh,bpG,rfl,HS⟩:=bgI
   refine ⟨HS.b0,?_⟩
   refine D1c 8 rfl rfl rfl bsy (aos HT HB HS  (by omega) (by omega)) (fun brJ bsd bgJ => ?_)
   obtain ⟨bri,bpr,bqi,bpH,rfl,HS⟩:=bgJ
   refine ⟨HS.b0,?_⟩
   refine D1c 9 rfl rfl rfl btx (a4Y HT HB HS (HS.at_ 1 rfl) (HS.at_ 0 rfl) (by omega)) (fun brL bse bgK => ?_)
   obtain ⟨bff,bbr,bd1,bbZ,rfl,HS⟩:=bgK
   refine ⟨HS.b0,?_⟩
   refine D1s 10 [.bool bff,.slice bbr bd1 bbZ] HS 1 rfl rfl rfl rfl bso (fun _ HS=>⟨(aoq (s:=10) rfl rfl),?_⟩)
   refine JR.next (by kernel_rfl) (fun _ _ h=>h) ?_
   refine JC.draw HS [3] (by kernel_rfl) (fun w33 HS => ?_)
   refine Da (.agg #[.bool s11,.slice A11 n11 c11]) 0 0 rfl HS.b0 rfl rfl bsr bso ?_
   refine D1c 1 rfl rfl rfl bsy (aos HT HB HS  (by omega) (by omega)) (fun brM bsf bgL => ?_)
   obtain ⟨brj,bps,bqj,bpI,rfl,HS⟩:=bgL
   refine ⟨HS.b0,?_⟩
   refine D1c 2 rfl rfl rfl bsE (aN2 HT HB HS (HS.at_ 6 rfl) (HS.at_ 0 rfl) (by omega)) (fun brN bsg bgM => ?_)
   obtain ⟨bfg,bbs,bd2,bb4,rfl,HS⟩:=bgM
   refine ⟨HS.b0,?_⟩
   refine D1s 3 [.bool bfg,.slice bbs bd2 bb4] HS 0 rfl rfl rfl rfl bso (fun _ HS=>⟨(aoq (s:=3) rfl rfl),?_⟩)
   refine JR.a2X (by kernel_rfl) (fun _ _ h=>h) ?_
   refine JC.region ?_
   refine Lv (.int .i64 ((j+1:Nat):Int)) (fun a ha=>azn (ha.ev rfl) (ha.ev rfl) (by rw [IntKind.wrap_i64]; omega)) ?_
   refine Lv (.int .i64 ((j+1:Nat):Int)) (fun a ha=>run_move (ha.ev rfl)) ?_
   exact JL.round ((j+1),bff,bbr,bd1,bbZ,bfg,bbs,bd2,bb4) (by dsimp only; omega) (akz.out ⟨rfl,rfl,rfl,rfl,rfl,rfl,rfl,rfl,rfl,rfl,rfl,rfl,rfl,rfl,rfl,rfl,rfl,rfl,rfl,rfl,rfl,rfl,rfl,rfl,rfl,rfl,rfl,rfl,rfl,rfl,rfl,rfl,rfl,rfl,rfl,rfl,rfl,rfl,rfl,rfl,rfl,rfl,trivial⟩) ⟨by omega,(HS.a4T 0 8 2 0 rfl rfl rfl (fun _ h=>FI.tw h (a5i hb) (aNM hz (.inr trivial) (hdt (j+1) (by omega)) (by omega))) rfl (fun _ h=>FI.tw h (Int.pow_succ _ _).symm (azQ (by omega))))⟩
set_option maxHeartbeats 1600000 in
theorem bmL (HT:Tz W0) (HB:Tab W0) {f r:List UInt8} {z c n:Int}  (HS:St W0 U Ps w)  (h45 : ∀ x,f[0]? = some x→x.toNat≠45) (hp:RP f z c) (hl:r.length≤300) (hc0:c=0) (hz0:0≤z) (hr0:0 < r.length) (a4E:n≤64) (hz:z.natAbs < pw 32) (hdt : ∀ j,j≤r.length→aan (r.take j) < 10 ^ j) (hdig : ∀ (j:Nat) (b:UInt8),r[j]? = some b→48≤b.toNat∧b.toNat≤57):aba Tryz.prog 116 [.string ⟨f.toArray⟩,.string ⟨r.toArray⟩,.int .i64 n] w (aj8 W0 U Ps (Rat.divInt ((z*10 ^ r.length+(aan r:Int))) ((10:Int) ^ r.length)) 200 (.int .i64 0)):=by
 refine ake btt rfl btu rfl ?_
 refine JC.seq ?_
 refine JC.region ?_
 refine JL.alloc (vs:=abd) HS rfl bsp rfl rfl (fun g1 w1 HS => ?_)
 refine Lv (.int .i64 0) (fun a ha=>run_assign (ha.ev rfl)) ?_
 refine jn ?_
 refine JC.seq ?_
 refine JC.region ?_
 refine Lv (.string ⟨f.toArray⟩) (fun a ha=>run_move (ha.ev rfl)) ?_
 refine Lv (.int .i64 (f.length:Int)) (fun a ha=>ae9 (ha.ev rfl) bsn rfl) ?_
 refine Lv (.bool (decide ((f.length:Int) > 0))) (fun a ha=>afd (ha.ev rfl) (ha.ev rfl) rfl) ?_
 cases hsp2:(decide ((f.length:Int) > 0))
 ·skip
  refine Lv (.bool false) (fun a ha=>run_move (ha.ev rfl)) ?_
  refine Lp ?_
  refine Lp ?_
  refine Lp ?_
  refine Lv (.bool false) (fun a ha=>abE (ha.ev rfl) (ha.ev rfl)) ?_
  refine Lv (.bool false) (fun a ha=>run_assign (ha.ev rfl)) ?_
  refine jn ?_
  refine JC.seq ?_
  refine JC.seq ?_
  refine JC.region ?_
  refine Lv (.bool false) (fun a ha=>run_move (ha.ev rfl)) ?_
  refine jn ?_
  refine JC.abl rfl ?_
  refine JC.abu (fun _ _ h=>h) ?_
  refine JC.seq ?_
  refine JC.region ?_
  refine Lv (.string ⟨f.toArray⟩) (fun a ha=>run_move (ha.ev rfl)) ?_
  refine JL.call rfl rfl bsA (hp HS) (fun v3 w3 HR3 => ?_)
  obtain ⟨s3,A3,n3,c3,rfl,HS⟩:=HR3
  refine Lv (.tuple #[.agg #[.bool s3,.slice A3 n3 c3],.int .i64 c]) (fun a ha=>run_move (ha.ev rfl)) ?_
  refine Lv (.agg #[.bool s3,.slice A3 n3 c3]) (fun a ha=>aa6 (ha.ev rfl) rfl) ?_
  refine Lv (.int .i64 c) (fun a ha=>aa6 (ha.ev rfl) rfl) ?_
  refine JL.alloc (vs:=[.bool false,.slice none 0 0]) HS rfl bsv rfl rfl (fun g4 w4 HS => ?_)
  refine JL.store HS rfl rfl (i:=0) rfl bso rfl rfl rfl (vs':=[.bool s3,.slice A3 n3 c3]) rfl rfl (fun w5 HS => ?_)
  refine Lv (.int .i64 c) (fun a ha=>run_assign (ha.ev rfl)) ?_
  refine jn ?_
  refine JC.seq ?_
  refine JC.seq ?_
  refine JC.region ?_
  refine Lv (.int .i64 c) (fun a ha=>run_move (ha.ev rfl)) ?_
  refine Lv (.bool false) (fun a ha=>azp (ha.ev rfl) (ha.ev rfl) (by rw [hc0]; rfl)) ?_
  refine Lv (.bool false) (fun a ha=>run_move (ha.ev rfl)) ?_
  refine Lg (.agg #[.bool s3,.slice A3 n3 c3]) (fun a ha=>atD (ha.ev rfl) bsr bso (HS.box _ (.head _)) rfl rfl) ?_
  refine JL.ajo rfl rfl rfl rfl rfl rfl bsI (a1b HT HB HS (HS.at_ 0 rfl) (by omega)) (fun v6 w6 HR6 => ?_)
  obtain ⟨rfl,HS⟩:=HR6
  refine Lg (.bool false) (fun a ha=>akj (ha.ev rfl) (ha.ev rfl) ((a2a _).trans (decide_eq_false (show ¬ z < 0 by omega)))) ?_
  refine Lv (.bool false) (fun a ha=>abE (ha.ev rfl) (ha.ev rfl)) ?_
  refine Lv (.bool false) (fun a ha=>run_move (ha.ev rfl)) ?_
  refine Lg (.string ⟨r.toArray⟩) (fun a ha=>run_move (ha.ev rfl)) ?_
  refine Lg (.int .i64 (r.length:Int)) (fun a ha=>ae9 (ha.ev rfl) bsn rfl) ?_
  refine Lg (.bool false) (fun a ha=>aj6 (ha.ev rfl) (ha.ev rfl) (a4L hr0)) ?_
  refine Lv (.bool false) (fun a ha=>abE (ha.ev rfl) (ha.ev rfl)) ?_
  refine Lv (.bool false) (fun a ha=>run_move (ha.ev rfl)) ?_
  refine Lg (.int .i64 n) (fun a ha=>run_move (ha.ev rfl)) ?_
  refine Lg (.bool false) (fun a ha=>afd (ha.ev rfl) (ha.ev rfl) (decide_eq_false (by omega))) ?_
  refine Lv (.bool false) (fun a ha=>abE (ha.ev rfl) (ha.ev rfl)) ?_
  refine jn ?_
  refine JC.abl rfl ?_
  refine JC.abu (fun _ _ h=>h) ?_
  refine JC.seq ?_
  refine JC.region ?_
  refine JL.call rfl rfl bs8 (a2x HT HB HS  ) (fun v7 w7 HR7 => ?_)
  obtain ⟨s7,A7,n7,c7,rfl,HS⟩:=HR7
  refine JL.alloc (vs:=[.bool false,.slice none 0 0]) HS rfl bsv rfl rfl (fun g8 w8 HS => ?_)
  refine JL.store HS rfl rfl (i:=0) rfl bso rfl rfl rfl (vs':=[.bool s7,.slice A7 n7 c7]) rfl rfl (fun w9 HS => ?_)
  refine jn ?_
  refine JC.seq ?_
  refine JC.seq ?_
  refine JC.region ?_
  refine Lv (.string ⟨r.toArray⟩) (fun a ha=>run_move (ha.ev rfl)) ?_
  refine Lv (.int .i64 (r.length:Int)) (fun a ha=>ae9 (ha.ev rfl) bsn rfl) ?_
  refine Lv (.int .i64 0) (fun a ha=>run_move (ha.ev rfl)) ?_
  refine jn ?_
  refine JC.block ?_
  refine JC.sub (T':=[(0,.string ⟨f.toArray⟩),(1,.string ⟨r.toArray⟩),(2,.int .i64 n),(6,.pointer (some ⟨g1,0,none⟩)),(8,.bool false),(9,.pointer (some ⟨g4,0,none⟩)),(10,.int .i64 c),(11,.pointer (some ⟨g8,0,none⟩)),(13,.string ⟨f.toArray⟩),(14,.int .i64 (f.length:Int)),(15,.bool false),(16,.bool false),(20,.bool false),(21,.bool false),(24,.tuple #[.agg #[.bool s3,.slice A3 n3 c3],.int .i64 c]),(25,.string ⟨f.toArray⟩),(26,.tuple #[.agg #[.bool s3,.slice A3 n3 c3],.int .i64 c]),(27,.agg #[.bool s3,.slice A3 n3 c3]),(28,.int .i64 c),(29,.int .i64 c),(30,.bool false),(31,.bool false),(32,.agg #[.bool s3,.slice A3 n3 c3]),(33,.int .i64 (afm z)),(34,.bool false),(35,.bool false),(36,.bool false),(37,.string ⟨r.toArray⟩),(38,.int .i64 (r.length:Int)),(39,.bool false),(40,.bool false),(41,.bool false),(42,.int .i64 n),(43,.bool false),(44,.bool false),(46,.agg #[.bool s7,.slice A7 n7 c7]),(47,.string ⟨r.toArray⟩),(48,.int .i64 (r.length:Int)),(49,.int .i64 0)]) (akz.out ⟨rfl,rfl,rfl,rfl,rfl,rfl,rfl,rfl,rfl,rfl,rfl,rfl,rfl,rfl,rfl,rfl,rfl,rfl,rfl,rfl,rfl,rfl,rfl,rfl,rfl,rfl,rfl,rfl,rfl,rfl,rfl,rfl,rfl,rfl,rfl,rfl,rfl,rfl,rfl,trivial⟩) ?_
  refine JC.loop (ι:=iy0) (fun ⟨j,s9,A9,n9,c9,s11,A11,n11,c11⟩=>r.length - j) (fun ⟨j,s9,A9,n9,c9,s11,A11,n11,c11⟩=>[(0,.string ⟨f.toArray⟩),(1,.string ⟨r.toArray⟩),(2,.int .i64 n),(6,.pointer (some ⟨g1,0,none⟩)),(8,.bool false),(9,.pointer (some ⟨g4,0,none⟩)),(10,.int .i64 c),(11,.pointer (some ⟨g8,0,none⟩)),(13,.string ⟨f.toArray⟩),(14,.int .i64 (f.length:Int)),(15,.bool false),(16,.bool false),(20,.bool false),(21,.bool false),(24,.tuple #[.agg #[.bool s3,.slice A3 n3 c3],.int .i64 c]),(25,.string ⟨f.toArray⟩),(26,.tuple #[.agg #[.bool s3,.slice A3 n3 c3],.int .i64 c]),(27,.agg #[.bool s3,.slice A3 n3 c3]),(28,.int .i64 c),(29,.int .i64 c),(30,.bool false),(31,.bool false),(32,.agg #[.bool s3,.slice A3 n3 c3]),(33,.int .i64 (afm z)),(34,.bool false),(35,.bool false),(36,.bool false),(37,.string ⟨r.toArray⟩),(38,.int .i64 (r.length:Int)),(39,.bool false),(40,.bool false),(41,.bool false),(42,.int .i64 n),(43,.bool false),(44,.bool false),(46,.agg #[.bool s7,.slice A7 n7 c7]),(47,.string ⟨r.toArray⟩),(48,.int .i64 (r.length:Int)),(49,.int .i64 (j:Int))]) (fun ⟨j,s9,A9,n9,c9,s11,A11,n11,c11⟩ w=>(j≤r.length)∧St W0 (⟨g8,39,[.bool s11,.slice A11 n11 c11]⟩ :: ⟨g4,39,[.bool s9,.slice A9 n9 c9]⟩ :: ⟨g1,24,abd⟩ :: U) (FI (.agg #[.bool s9,.slice A9 n9 c9]) (z*10 ^ j+(aan (r.take j):Int)) 80 :: FI (.agg #[.bool s11,.slice A11 n11 c11]) ((10:Int) ^ j) 40 :: FI (.agg #[.bool s7,.slice A7 n7 c7]) 1 2 :: FI (.agg #[.bool s3,.slice A3 n3 c3]) z 32 :: Ps) w) ?_ (0,s3,A3,n3,c3,s7,A7,n7,c7) _ ⟨Nat.zero_le _,((HS.atF 0 rfl (fun _ h=>FI.tw h (Int.pow_zero _).symm (azQ (by omega)))).atF 2 rfl (fun _ h=>FI.tw h (by simp [aan]) (aNM (j:=0) hz (.inr trivial) (by simp [aan]) (by omega))))⟩
  skip
  rintro ⟨j,s9,A9,n9,c9,s11,A11,n11,c11⟩ wl1 ⟨a3h,HS⟩
  refine JC.sub (T':=[(0,.string ⟨f.toArray⟩),(1,.string ⟨r.toArray⟩),(2,.int .i64 n),(6,.pointer (some ⟨g1,0,none⟩)),(8,.bool false),(9,.pointer (some ⟨g4,0,none⟩)),(10,.int .i64 c),(11,.pointer (some ⟨g8,0,none⟩)),(13,.string ⟨f.toArray⟩),(14,.int .i64 (f.length:Int)),(15,.bool false),(16,.bool false),(20,.bool false),(21,.bool false),(24,.tuple #[.agg #[.bool s3,.slice A3 n3 c3],.int .i64 c]),(25,.string ⟨f.toArray⟩),(26,.tuple #[.agg #[.bool s3,.slice A3 n3 c3],.int .i64 c]),(27,.agg #[.bool s3,.slice A3 n3 c3]),(28,.int .i64 c),(29,.int .i64 c),(30,.bool false),(31,.bool false),(32,.agg #[.bool s3,.slice A3 n3 c3]),(33,.int .i64 (afm z)),(34,.bool false),(35,.bool false),(36,.bool false),(37,.string ⟨r.toArray⟩),(38,.int .i64 (r.length:Int)),(39,.bool false),(40,.bool false),(41,.bool false),(42,.int .i64 n),(43,.bool false),(44,.bool false),(46,.agg #[.bool s7,.slice A7 n7 c7]),(47,.string ⟨r.toArray⟩),(48,.int .i64 (r.length:Int)),(49,.int .i64 (j:Int))]) (fun _ _ h=>h) ?_
  have HS:St W0 (⟨g8,39,[.bool s11,.slice A11 n11 c11]⟩ :: ⟨g4,39,[.bool s9,.slice A9 n9 c9]⟩ :: ⟨g1,24,abd⟩ :: U) (FI (.agg #[.bool s9,.slice A9 n9 c9]) (z*10 ^ j+(aan (r.take j):Int)) 80 :: FI (.agg #[.bool s11,.slice A11 n11 c11]) ((10:Int) ^ j) 40 :: FI (.agg #[.bool s7,.slice A7 n7 c7]) 1 2 :: FI (.agg #[.bool s3,.slice A3 n3 c3]) z 32 :: Ps) wl1:=HS
  refine JC.seq ?_
  refine JC.region ?_
  refine Lv (.bool (decide ((j:Int) < (r.length:Int)))) (fun a ha=>akj (ha.ev rfl) (ha.ev rfl) rfl) ?_
  refine jn ?_
  refine JC.seq ?_
  cases a2m:(decide ((j:Int) < (r.length:Int)))
  ·skip
   have hd10:=of_decide_eq_false a2m
   refine JC.abl rfl ?_
   obtain rfl:j=r.length:=by omega
   refine JC.exit (fun _ _ h=>h) (fun _ _ h=>h) ?_
   refine JC.seq ?_
   refine JC.seq ?_
   refine JC.region ?_
   refine Lv (.bool false) (fun a ha=>run_move (ha.ev rfl)) ?_
   refine jn ?_
   refine JC.abl rfl ?_
   refine JC.abu (fun _ _ h=>h) ?_
   refine JC.seq ?_
   refine JC.region ?_
   refine JL.load (.agg #[.bool s9,.slice A9 n9 c9]) HS 1 rfl rfl rfl bsr bso rfl rfl ?_
   refine JL.load (.agg #[.bool s11,.slice A11 n11 c11]) HS 0 rfl rfl rfl bsr bso rfl rfl ?_
   refine JL.call rfl rfl btg (a3X HT HB HS (HS.at_ 0 rfl) (HS.at_ 1 rfl) (by omega) (show (10:Int) ^ r.length≠0 from Int.ne_of_gt (Int.pow_pos (by decide)))) (fun v11 w11 a5I => ?_)
   obtain ⟨s11,A11,n11,c11,B11,m11,d11,rfl,HS⟩:=a5I
   refine JL.store HS rfl rfl (i:=2) rfl bsm rfl rfl rfl (vs':=(btU s11 A11 n11 c11 B11 m11 d11)) rfl rfl (fun w12 HS => ?_)
   refine Lv (.int .i64 0) (fun a ha=>run_assign (ha.ev rfl)) ?_
   refine jn ?_
   refine JC.ret (fun a ha => ?_)
   repeat (first | refine aev ?_ | refine aeu ?_)
   refine aff (v:=(btT s11 A11 n11 c11 B11 m11 d11)) (v' := .int .i64 0) ha Tryz.results116 (.agg rfl bsq bsm (HS.box _ (.tail _ (.tail _ (.head _)))) rfl rfl) (.tmp rfl) ⟨_,rfl,?_⟩
   exact ⟨_,_,_,_,_,_,_,rfl,HS.out 3 5 0 rfl rfl rfl (fun _ h=>h.as (by rw [List.take_length]) (by omega))⟩
  ·skip
   have hd10:=of_decide_eq_true a2m
   refine JC.acZ rfl ?_
   refine JC.abu (fun _ _ h=>h) ?_
   refine JC.seq ?_
   refine JC.block ?_
   refine JC.seq ?_
   refine JC.region ?_
   refine Lv (.int .i64 (j:Int)) (fun a ha=>run_move (ha.ev rfl)) ?_
   refine Lv (.int .i64 (j:Int)) (fun a ha=>run_assign (ha.ev rfl)) ?_
   refine jn ?_
   refine JC.seq ?_
   refine JC.seq ?_
   obtain ⟨b,hb⟩ : ∃ b,r[j]? = some b:=⟨_,List.getElem?_eq_getElem (show j < r.length by omega)⟩
   have hbd:=hdig j b hb
   refine JC.region ?_
   refine Lv (.string ⟨r.toArray⟩) (fun a ha=>run_move (ha.ev rfl)) ?_
   refine Lv (.int .i64 (j:Int)) (fun a ha=>run_move (ha.ev rfl)) ?_
   refine Lv (.int .u8 (b.toNat:Int)) (fun a ha=>afD (ha.ev rfl) (ha.ev rfl) bsn rfl hb rfl) ?_
   refine Lv (.bool false) (fun a ha=>akj (ha.ev rfl) (ha.ev rfl) (decide_eq_false (by omega))) ?_
   refine Lv (.bool false) (fun a ha=>run_move (ha.ev rfl)) ?_
   refine Lg (.string ⟨r.toArray⟩) (fun a ha=>run_move (ha.ev rfl)) ?_
   refine Lg (.int .i64 (j:Int)) (fun a ha=>run_move (ha.ev rfl)) ?_
   refine Lg (.int .u8 (b.toNat:Int)) (fun a ha=>afD (ha.ev rfl) (ha.ev rfl) bsn rfl hb rfl) ?_
   refine Lg (.bool false) (fun a ha=>afd (ha.ev rfl) (ha.ev rfl) (decide_eq_false (by omega))) ?_
   refine Lv (.bool false) (fun a ha=>abE (ha.ev rfl) (ha.ev rfl)) ?_
   refine jn ?_
   refine JC.abl rfl ?_
   refine JC.abu (fun _ _ h=>h) ?_
   refine JC.seq ?_
   refine JC.draw HS [10] (by kernel_rfl) (fun w13 HS => ?_)
   refine Da (.agg #[.bool s9,.slice A9 n9 c9]) 0 1 rfl HS.b0 rfl rfl bsr bso ?_
   refine Dv (.string ⟨r.toArray⟩) 3 rfl HS.b0 (fun a ha w=>run_move (ha.ev rfl)) ?_
   refine Dv (.int .i64 (j:Int)) 4 rfl HS.b0 (fun a ha w=>run_move (ha.ev rfl)) ?_
   refine Dv (.int .u8 (b.toNat:Int)) 5 rfl HS.b0 (fun a ha w=>afD (ha.ev rfl) (ha.ev rfl) bsn rfl hb rfl) ?_
   refine Dv (.int .u8 ((b.toNat - 48:Nat):Int)) 6 rfl HS.b0 (fun a ha w=>a5f (ha.ev rfl) (ha.ev rfl) (a5m hbd)) ?_
   refine Dv (.int .i64 ((b.toNat - 48:Nat):Int)) 7 rfl HS.b0 (fun a ha w=>a5b (ha.ev rfl) btv btw (by rw [IntKind.wrap_i64]; omega)) ?_
   refine D1c 1 rfl rfl rfl bsy (aos HT HB HS  (by omega) (by omega)) (fun bro brT bgh => ?_)
   obtain ⟨bq7,bpg,bp7,bpw,rfl,HS⟩:=bgh
   refine ⟨HS.b0,?_⟩
   refine D1c 2 rfl rfl rfl bsE (aN2 HT HB HS (HS.at_ 1 rfl) (HS.at_ 0 rfl) (by omega)) (fun brp brU bgi => ?_)
   obtain ⟨bq8,bph,bp8,bpx,rfl,HS⟩:=bgi
   refine ⟨HS.b0,?_⟩
   refine D1c 8 rfl rfl rfl bsy (aos HT HB HS  (by omega) (by omega)) (fun brq brV bgj => ?_)
   obtain ⟨bq9,bpi,bp9,bpy,rfl,HS⟩:=bgj
   refine ⟨HS.b0,?_⟩
   refine D1c 9 rfl rfl rfl btx (a4Y HT HB HS (HS.at_ 1 rfl) (HS.at_ 0 rfl) (by omega)) (fun brr brW bgk => ?_)
   obtain ⟨be',bbl,bdW,bbU,rfl,HS⟩:=bgk
   refine ⟨HS.b0,?_⟩
   refine D1s 10 [.bool be',.slice bbl bdW bbU] HS 1 rfl rfl rfl rfl bso (fun _ HS=>⟨(aoq (s:=10) rfl rfl),?_⟩)
   refine JR.next (by kernel_rfl) (fun _ _ h=>h) ?_
   refine JC.draw HS [3] (by kernel_rfl) (fun w15 HS => ?_)
   refine Da (.agg #[.bool s11,.slice A11 n11 c11]) 0 0 rfl HS.b0 rfl rfl bsr bso ?_
   refine D1c 1 rfl rfl rfl bsy (aos HT HB HS  (by omega) (by omega)) (fun bfG bfM a5M => ?_)
   obtain ⟨bnB,bf1,bkX,bhv,rfl,HS⟩:=a5M
   refine ⟨HS.b0,?_⟩
   refine D1c 2 rfl rfl rfl bsE (aN2 HT HB HS (HS.at_ 6 rfl) (HS.at_ 0 rfl) (by omega)) (fun boO bo5 a8T => ?_)
   obtain ⟨ba1,a8H,bau,a9q,rfl,HS⟩:=a8T
   refine ⟨HS.b0,?_⟩
   refine D1s 3 [.bool ba1,.slice a8H bau a9q] HS 0 rfl rfl rfl rfl bso (fun _ HS=>⟨(aoq (s:=3) rfl rfl),?_⟩)
   refine JR.a2X (by kernel_rfl) (fun _ _ h=>h) ?_
   refine JC.region ?_
   refine Lv (.int .i64 ((j+1:Nat):Int)) (fun a ha=>azn (ha.ev rfl) (ha.ev rfl) (by rw [IntKind.wrap_i64]; omega)) ?_
   refine Lv (.int .i64 ((j+1:Nat):Int)) (fun a ha=>run_move (ha.ev rfl)) ?_
   exact JL.round ((j+1),be',bbl,bdW,bbU,ba1,a8H,bau,a9q) (by dsimp only; omega) (akz.out ⟨rfl,rfl,rfl,rfl,rfl,rfl,rfl,rfl,rfl,rfl,rfl,rfl,rfl,rfl,rfl,rfl,rfl,rfl,rfl,rfl,rfl,rfl,rfl,rfl,rfl,rfl,rfl,rfl,rfl,rfl,rfl,rfl,rfl,rfl,rfl,rfl,rfl,rfl,rfl,trivial⟩) ⟨by omega,(HS.a4T 0 8 2 0 rfl rfl rfl (fun _ h=>FI.tw h (a5i hb) (aNM hz (.inr trivial) (hdt (j+1) (by omega)) (by omega))) rfl (fun _ h=>FI.tw h (Int.pow_succ _ _).symm (azQ (by omega))))⟩
 ·skip
  have hd2:=of_decide_eq_true hsp2
  obtain ⟨x0,hx0⟩ : ∃ x,f[0]? = some x:=⟨_,List.getElem?_eq_getElem (show 0 < f.length by omega)⟩
  have a6u:=h45 x0 hx0
  refine Lv (.bool true) (fun a ha=>run_move (ha.ev rfl)) ?_
  refine Lg (.string ⟨f.toArray⟩) (fun a ha=>run_move (ha.ev rfl)) ?_
  refine Lg (.int .u8 (x0.toNat:Int)) (fun a ha=>afD (ha.ev rfl) (ha.ev rfl) bsn rfl hx0 rfl) ?_
  refine Lg (.bool false) (fun a ha=>aj6 (ha.ev rfl) (ha.ev rfl) (baw a6u)) ?_
  refine Lv (.bool false) (fun a ha=>ae7 (ha.ev rfl) (ha.ev rfl)) ?_
  refine Lv (.bool false) (fun a ha=>run_assign (ha.ev rfl)) ?_
  refine jn ?_
  refine JC.seq ?_
  refine JC.seq ?_
  refine JC.region ?_
  refine Lv (.bool false) (fun a ha=>run_move (ha.ev rfl)) ?_
  refine jn ?_
  refine JC.abl rfl ?_
  refine JC.abu (fun _ _ h=>h) ?_
  refine JC.seq ?_
  refine JC.region ?_
  refine Lv (.string ⟨f.toArray⟩) (fun a ha=>run_move (ha.ev rfl)) ?_
  refine JL.call rfl rfl bsA (hp HS) (fun v17 w17 a8U => ?_)
  obtain ⟨s17,A17,n17,c17,rfl,HS⟩:=a8U
  refine Lv (.tuple #[.agg #[.bool s17,.slice A17 n17 c17],.int .i64 c]) (fun a ha=>run_move (ha.ev rfl)) ?_
  refine Lv (.agg #[.bool s17,.slice A17 n17 c17]) (fun a ha=>aa6 (ha.ev rfl) rfl) ?_
  refine Lv (.int .i64 c) (fun a ha=>aa6 (ha.ev rfl) rfl) ?_
  refine JL.alloc (vs:=[.bool false,.slice none 0 0]) HS rfl bsv rfl rfl (fun g18 w18 HS => ?_)
  refine JL.store HS rfl rfl (i:=0) rfl bso rfl rfl rfl (vs':=[.bool s17,.slice A17 n17 c17]) rfl rfl (fun w19 HS => ?_)
  refine Lv (.int .i64 c) (fun a ha=>run_assign (ha.ev rfl)) ?_
  refine jn ?_
  refine JC.seq ?_
  refine JC.seq ?_
  refine JC.region ?_
  refine Lv (.int .i64 c) (fun a ha=>run_move (ha.ev rfl)) ?_
  refine Lv (.bool false) (fun a ha=>azp (ha.ev rfl) (ha.ev rfl) (by rw [hc0]; rfl)) ?_
  refine Lv (.bool false) (fun a ha=>run_move (ha.ev rfl)) ?_
  refine Lg (.agg #[.bool s17,.slice A17 n17 c17]) (fun a ha=>atD (ha.ev rfl) bsr bso (HS.box _ (.head _)) rfl rfl) ?_
  refine JL.ajo rfl rfl rfl rfl rfl rfl bsI (a1b HT HB HS (HS.at_ 0 rfl) (by omega)) (fun v20 w20 a8Y => ?_)
  obtain ⟨rfl,HS⟩:=a8Y
  refine Lg (.bool false) (fun a ha=>akj (ha.ev rfl) (ha.ev rfl) ((a2a _).trans (decide_eq_false (show ¬ z < 0 by omega)))) ?_
  refine Lv (.bool false) (fun a ha=>abE (ha.ev rfl) (ha.ev rfl)) ?_
  refine Lv (.bool false) (fun a ha=>run_move (ha.ev rfl)) ?_
  refine Lg (.string ⟨r.toArray⟩) (fun a ha=>run_move (ha.ev rfl)) ?_
  refine Lg (.int .i64 (r.length:Int)) (fun a ha=>ae9 (ha.ev rfl) bsn rfl) ?_
  refine Lg (.bool false) (fun a ha=>aj6 (ha.ev rfl) (ha.ev rfl) (a4L hr0)) ?_
  refine Lv (.bool false) (fun a ha=>abE (ha.ev rfl) (ha.ev rfl)) ?_
  refine Lv (.bool false) (fun a ha=>run_move (ha.ev rfl)) ?_
  refine Lg (.int .i64 n) (fun a ha=>run_move (ha.ev rfl)) ?_
  refine Lg (.bool false) (fun a ha=>afd (ha.ev rfl) (ha.ev rfl) (decide_eq_false (by omega))) ?_
  refine Lv (.bool false) (fun a ha=>abE (ha.ev rfl) (ha.ev rfl)) ?_
  refine jn ?_
  refine JC.abl rfl ?_
  refine JC.abu (fun _ _ h=>h) ?_
  refine JC.seq ?_
  refine JC.region ?_
  refine JL.call rfl rfl bs8 (a2x HT HB HS  ) (fun v21 w21 a8Z => ?_)
  obtain ⟨s21,A21,n21,c21,rfl,HS⟩:=a8Z
  refine JL.alloc (vs:=[.bool false,.slice none 0 0]) HS rfl bsv rfl rfl (fun g22 w22 HS => ?_)
  refine JL.store HS rfl rfl (i:=0) rfl bso rfl rfl rfl (vs':=[.bool s21,.slice A21 n21 c21]) rfl rfl (fun w23 HS => ?_)
  refine jn ?_
  refine JC.seq ?_
  refine JC.seq ?_
  refine JC.region ?_
  refine Lv (.string ⟨r.toArray⟩) (fun a ha=>run_move (ha.ev rfl)) ?_
  refine Lv (.int .i64 (r.length:Int)) (fun a ha=>ae9 (ha.ev rfl) bsn rfl) ?_
  refine Lv (.int .i64 0) (fun a ha=>run_move (ha.ev rfl)) ?_
  refine jn ?_
  refine JC.block ?_
  refine JC.sub (T':=[(0,.string ⟨f.toArray⟩),(1,.string ⟨r.toArray⟩),(2,.int .i64 n),(6,.pointer (some ⟨g1,0,none⟩)),(8,.bool false),(9,.pointer (some ⟨g18,0,none⟩)),(10,.int .i64 c),(11,.pointer (some ⟨g22,0,none⟩)),(13,.string ⟨f.toArray⟩),(14,.int .i64 (f.length:Int)),(15,.bool true),(16,.bool true),(17,.string ⟨f.toArray⟩),(18,.int .u8 (x0.toNat:Int)),(19,.bool false),(20,.bool false),(21,.bool false),(24,.tuple #[.agg #[.bool s17,.slice A17 n17 c17],.int .i64 c]),(25,.string ⟨f.toArray⟩),(26,.tuple #[.agg #[.bool s17,.slice A17 n17 c17],.int .i64 c]),(27,.agg #[.bool s17,.slice A17 n17 c17]),(28,.int .i64 c),(29,.int .i64 c),(30,.bool false),(31,.bool false),(32,.agg #[.bool s17,.slice A17 n17 c17]),(33,.int .i64 (afm z)),(34,.bool false),(35,.bool false),(36,.bool false),(37,.string ⟨r.toArray⟩),(38,.int .i64 (r.length:Int)),(39,.bool false),(40,.bool false),(41,.bool false),(42,.int .i64 n),(43,.bool false),(44,.bool false),(46,.agg #[.bool s21,.slice A21 n21 c21]),(47,.string ⟨r.toArray⟩),(48,.int .i64 (r.length:Int)),(49,.int .i64 0)]) (akz.out ⟨rfl,rfl,rfl,rfl,rfl,rfl,rfl,rfl,rfl,rfl,rfl,rfl,rfl,rfl,rfl,rfl,rfl,rfl,rfl,rfl,rfl,rfl,rfl,rfl,rfl,rfl,rfl,rfl,rfl,rfl,rfl,rfl,rfl,rfl,rfl,rfl,rfl,rfl,rfl,rfl,rfl,rfl,trivial⟩) ?_
  refine JC.loop (ι:=iy0) (fun ⟨j,s9,A9,n9,c9,s11,A11,n11,c11⟩=>r.length - j) (fun ⟨j,s9,A9,n9,c9,s11,A11,n11,c11⟩=>[(0,.string ⟨f.toArray⟩),(1,.string ⟨r.toArray⟩),(2,.int .i64 n),(6,.pointer (some ⟨g1,0,none⟩)),(8,.bool false),(9,.pointer (some ⟨g18,0,none⟩)),(10,.int .i64 c),(11,.pointer (some ⟨g22,0,none⟩)),(13,.string ⟨f.toArray⟩),(14,.int .i64 (f.length:Int)),(15,.bool true),(16,.bool true),(17,.string ⟨f.toArray⟩),(18,.int .u8 (x0.toNat:Int)),(19,.bool false),(20,.bool false),(21,.bool false),(24,.tuple #[.agg #[.bool s17,.slice A17 n17 c17],.int .i64 c]),(25,.string ⟨f.toArray⟩),(26,.tuple #[.agg #[.bool s17,.slice A17 n17 c17],.int .i64 c]),(27,.agg #[.bool s17,.slice A17 n17 c17]),(28,.int .i64 c),(29,.int .i64 c),(30,.bool false),(31,.bool false),(32,.agg #[.bool s17,.slice A17 n17 c17]),(33,.int .i64 (afm z)),(34,.bool false),(35,.bool false),(36,.bool false),(37,.string ⟨r.toArray⟩),(38,.int .i64 (r.length:Int)),(39,.bool false),(40,.bool false),(41,.bool false),(42,.int .i64 n),(43,.bool false),(44,.bool false),(46,.agg #[.bool s21,.slice A21 n21 c21]),(47,.string ⟨r.toArray⟩),(48,.int .i64 (r.length:Int)),(49,.int .i64 (j:Int))]) (fun ⟨j,s9,A9,n9,c9,s11,A11,n11,c11⟩ w=>(j≤r.length)∧St W0 (⟨g22,39,[.bool s11,.slice A11 n11 c11]⟩ :: ⟨g18,39,[.bool s9,.slice A9 n9 c9]⟩ :: ⟨g1,24,abd⟩ :: U) (FI (.agg #[.bool s9,.slice A9 n9 c9]) (z*10 ^ j+(aan (r.take j):Int)) 80 :: FI (.agg #[.bool s11,.slice A11 n11 c11]) ((10:Int) ^ j) 40 :: FI (.agg #[.bool s21,.slice A21 n21 c21]) 1 2 :: FI (.agg #[.bool s17,.slice A17 n17 c17]) z 32 :: Ps) w) ?_ (0,s17,A17,n17,c17,s21,A21,n21,c21) _ ⟨Nat.zero_le _,((HS.atF 0 rfl (fun _ h=>FI.tw h (Int.pow_zero _).symm (azQ (by omega)))).atF 2 rfl (fun _ h=>FI.tw h (by simp [aan]) (aNM (j:=0) hz (.inr trivial) (by simp [aan]) (by omega))))⟩
  skip
  rintro ⟨j,s9,A9,n9,c9,s11,A11,n11,c11⟩ wl2 ⟨bjR,HS⟩
  refine JC.sub (T':=[(0,.string ⟨f.toArray⟩),(1,.string ⟨r.toArray⟩),(2,.int .i64 n),(6,.pointer (some ⟨g1,0,none⟩)),(8,.bool false),(9,.pointer (some ⟨g18,0,none⟩)),(10,.int .i64 c),(11,.pointer (some ⟨g22,0,none⟩)),(13,.string ⟨f.toArray⟩),(14,.int .i64 (f.length:Int)),(15,.bool true),(16,.bool true),(17,.string ⟨f.toArray⟩),(18,.int .u8 (x0.toNat:Int)),(19,.bool false),(20,.bool false),(21,.bool false),(24,.tuple #[.agg #[.bool s17,.slice A17 n17 c17],.int .i64 c]),(25,.string ⟨f.toArray⟩),(26,.tuple #[.agg #[.bool s17,.slice A17 n17 c17],.int .i64 c]),(27,.agg #[.bool s17,.slice A17 n17 c17]),(28,.int .i64 c),(29,.int .i64 c),(30,.bool false),(31,.bool false),(32,.agg #[.bool s17,.slice A17 n17 c17]),(33,.int .i64 (afm z)),(34,.bool false),(35,.bool false),(36,.bool false),(37,.string ⟨r.toArray⟩),(38,.int .i64 (r.length:Int)),(39,.bool false),(40,.bool false),(41,.bool false),(42,.int .i64 n),(43,.bool false),(44,.bool false),(46,.agg #[.bool s21,.slice A21 n21 c21]),(47,.string ⟨r.toArray⟩),(48,.int .i64 (r.length:Int)),(49,.int .i64 (j:Int))]) (fun _ _ h=>h) ?_
  have HS:St W0 (⟨g22,39,[.bool s11,.slice A11 n11 c11]⟩ :: ⟨g18,39,[.bool s9,.slice A9 n9 c9]⟩ :: ⟨g1,24,abd⟩ :: U) (FI (.agg #[.bool s9,.slice A9 n9 c9]) (z*10 ^ j+(aan (r.take j):Int)) 80 :: FI (.agg #[.bool s11,.slice A11 n11 c11]) ((10:Int) ^ j) 40 :: FI (.agg #[.bool s21,.slice A21 n21 c21]) 1 2 :: FI (.agg #[.bool s17,.slice A17 n17 c17]) z 32 :: Ps) wl2:=HS
  refine JC.seq ?_
  refine JC.region ?_
  refine Lv (.bool (decide ((j:Int) < (r.length:Int)))) (fun a ha=>akj (ha.ev rfl) (ha.ev rfl) rfl) ?_
  refine jn ?_
  refine JC.seq ?_
  cases bdm:(decide ((j:Int) < (r.length:Int)))
  ·skip
   have hd24:=of_decide_eq_false bdm
   refine JC.abl rfl ?_
   obtain rfl:j=r.length:=by omega
   refine JC.exit (fun _ _ h=>h) (fun _ _ h=>h) ?_
   refine JC.seq ?_
   refine JC.seq ?_
   refine JC.region ?_
   refine Lv (.bool false) (fun a ha=>run_move (ha.ev rfl)) ?_
   refine jn ?_
   refine JC.abl rfl ?_
   refine JC.abu (fun _ _ h=>h) ?_
   refine JC.seq ?_
   refine JC.region ?_
   refine JL.load (.agg #[.bool s9,.slice A9 n9 c9]) HS 1 rfl rfl rfl bsr bso rfl rfl ?_
   refine JL.load (.agg #[.bool s11,.slice A11 n11 c11]) HS 0 rfl rfl rfl bsr bso rfl rfl ?_
   refine JL.call rfl rfl btg (a3X HT HB HS (HS.at_ 0 rfl) (HS.at_ 1 rfl) (by omega) (show (10:Int) ^ r.length≠0 from Int.ne_of_gt (Int.pow_pos (by decide)))) (fun v25 w25 bgw => ?_)
   obtain ⟨s25,A25,n25,c25,B25,m25,d25,rfl,HS⟩:=bgw
   refine JL.store HS rfl rfl (i:=2) rfl bsm rfl rfl rfl (vs':=(btU s25 A25 n25 c25 B25 m25 d25)) rfl rfl (fun w26 HS => ?_)
   refine Lv (.int .i64 0) (fun a ha=>run_assign (ha.ev rfl)) ?_
   refine jn ?_
   refine JC.ret (fun a ha => ?_)
   repeat (first | refine aev ?_ | refine aeu ?_)
   refine aff (v:=(btT s25 A25 n25 c25 B25 m25 d25)) (v' := .int .i64 0) ha Tryz.results116 (.agg rfl bsq bsm (HS.box _ (.tail _ (.tail _ (.head _)))) rfl rfl) (.tmp rfl) ⟨_,rfl,?_⟩
   exact ⟨_,_,_,_,_,_,_,rfl,HS.out 3 5 0 rfl rfl rfl (fun _ h=>h.as (by rw [List.take_length]) (by omega))⟩
  ·skip
   have hd24:=of_decide_eq_true bdm
   refine JC.acZ rfl ?_
   refine JC.abu (fun _ _ h=>h) ?_
   refine JC.seq ?_
   refine JC.block ?_
   refine JC.seq ?_
   refine JC.region ?_
   refine Lv (.int .i64 (j:Int)) (fun a ha=>run_move (ha.ev rfl)) ?_
   refine Lv (.int .i64 (j:Int)) (fun a ha=>run_assign (ha.ev rfl)) ?_
   refine jn ?_
   refine JC.seq ?_
   refine JC.seq ?_
   obtain ⟨b,hb⟩ : ∃ b,r[j]? = some b:=⟨_,List.getElem?_eq_getElem (show j < r.length by omega)⟩
   have hbd:=hdig j b hb
   refine JC.region ?_
   refine Lv (.string ⟨r.toArray⟩) (fun a ha=>run_move (ha.ev rfl)) ?_
   refine Lv (.int .i64 (j:Int)) (fun a ha=>run_move (ha.ev rfl)) ?_
   refine Lv (.int .u8 (b.toNat:Int)) (fun a ha=>afD (ha.ev rfl) (ha.ev rfl) bsn rfl hb rfl) ?_
   refine Lv (.bool false) (fun a ha=>akj (ha.ev rfl) (ha.ev rfl) (decide_eq_false (by omega))) ?_
   refine Lv (.bool false) (fun a ha=>run_move (ha.ev rfl)) ?_
   refine Lg (.string ⟨r.toArray⟩) (fun a ha=>run_move (ha.ev rfl)) ?_
   refine Lg (.int .i64 (j:Int)) (fun a ha=>run_move (ha.ev rfl)) ?_
   refine Lg (.int .u8 (b.toNat:Int)) (fun a ha=>afD (ha.ev rfl) (ha.ev rfl) bsn rfl hb rfl) ?_
   refine Lg (.bool false) (fun a ha=>afd (ha.ev rfl) (ha.ev rfl) (decide_eq_false (by omega))) ?_
   refine Lv (.bool false) (fun a ha=>abE (ha.ev rfl) (ha.ev rfl)) ?_
   refine jn ?_
   refine JC.abl rfl ?_
   refine JC.abu (fun _ _ h=>h) ?_
   refine JC.seq ?_
   refine JC.draw HS [10] (by kernel_rfl) (fun w27 HS => ?_)
   refine Da (.agg #[.bool s9,.slice A9 n9 c9]) 0 1 rfl HS.b0 rfl rfl bsr bso ?_
   refine Dv (.string ⟨r.toArray⟩) 3 rfl HS.b0 (fun a ha w=>run_move (ha.ev rfl)) ?_
   refine Dv (.int .i64 (j:Int)) 4 rfl HS.b0 (fun a ha w=>run_move (ha.ev rfl)) ?_
   refine Dv (.int .u8 (b.toNat:Int)) 5 rfl HS.b0 (fun a ha w=>afD (ha.ev rfl) (ha.ev rfl) bsn rfl hb rfl) ?_
   refine Dv (.int .u8 ((b.toNat - 48:Nat):Int)) 6 rfl HS.b0 (fun a ha w=>a5f (ha.ev rfl) (ha.ev rfl) (a5m hbd)) ?_
   refine Dv (.int .i64 ((b.toNat - 48:Nat):Int)) 7 rfl HS.b0 (fun a ha w=>a5b (ha.ev rfl) btv btw (by rw [IntKind.wrap_i64]; omega)) ?_
   refine D1c 1 rfl rfl rfl bsy (aos HT HB HS  (by omega) (by omega)) (fun boS bo9 a81 => ?_)
   obtain ⟨brc,bpl,bqc,bpB,rfl,HS⟩:=a81
   refine ⟨HS.b0,?_⟩
   refine D1c 2 rfl rfl rfl bsE (aN2 HT HB HS (HS.at_ 1 rfl) (HS.at_ 0 rfl) (by omega)) (fun brz br4 bgx => ?_)
   obtain ⟨brd,bpm,bqd,bpC,rfl,HS⟩:=bgx
   refine ⟨HS.b0,?_⟩
   refine D1c 8 rfl rfl rfl bsy (aos HT HB HS  (by omega) (by omega)) (fun brC br7 bgA => ?_)
   obtain ⟨bre,bpn,bqe,bpD,rfl,HS⟩:=bgA
   refine ⟨HS.b0,?_⟩
   refine D1c 9 rfl rfl rfl btx (a4Y HT HB HS (HS.at_ 1 rfl) (HS.at_ 0 rfl) (by omega)) (fun brD br8 bgB => ?_)
   obtain ⟨bfd,bbp,bdZ,bbX,rfl,HS⟩:=bgB
   refine ⟨HS.b0,?_⟩
   refine D1s 10 [.bool bfd,.slice bbp bdZ bbX] HS 1 rfl rfl rfl rfl bso (fun _ HS=>⟨(aoq (s:=10) rfl rfl),?_⟩)
   refine JR.next (by kernel_rfl) (fun _ _ h=>h) ?_
   refine JC.draw HS [3] (by kernel_rfl) (fun w29 HS => ?_)
   refine Da (.agg #[.bool s11,.slice A11 n11 c11]) 0 0 rfl HS.b0 rfl rfl bsr bso ?_
   refine D1c 1 rfl rfl rfl bsy (aos HT HB HS  (by omega) (by omega)) (fun brF br' bgF => ?_)
   obtain ⟨brf,bpo,bqf,bpE,rfl,HS⟩:=bgF
   refine ⟨HS.b0,?_⟩
   refine D1c 2 rfl rfl rfl bsE (aN2 HT HB HS (HS.at_ 6 rfl) (HS.at_ 0 rfl) (by omega)) (fun brG bsa bgG => ?_)
   obtain ⟨bfe,bbq,bd0,bbY,rfl,HS⟩:=bgG
   refine ⟨HS.b0,?_⟩
   refine D1s 3 [.bool bfe,.slice bbq bd0 bbY] HS 0 rfl rfl rfl rfl bso (fun _ HS=>⟨(aoq (s:=3) rfl rfl),?_⟩)
   refine JR.a2X (by kernel_rfl) (fun _ _ h=>h) ?_
   refine JC.region ?_
   refine Lv (.int .i64 ((j+1:Nat):Int)) (fun a ha=>azn (ha.ev rfl) (ha.ev rfl) (by rw [IntKind.wrap_i64]; omega)) ?_
   refine Lv (.int .i64 ((j+1:Nat):Int)) (fun a ha=>run_move (ha.ev rfl)) ?_
   exact JL.round ((j+1),bfd,bbp,bdZ,bbX,bfe,bbq,bd0,bbY) (by dsimp only; omega) (akz.out ⟨rfl,rfl,rfl,rfl,rfl,rfl,rfl,rfl,rfl,rfl,rfl,rfl,rfl,rfl,rfl,rfl,rfl,rfl,rfl,rfl,rfl,rfl,rfl,rfl,rfl,rfl,rfl,rfl,rfl,rfl,rfl,rfl,rfl,rfl,rfl,rfl,rfl,rfl,rfl,rfl,rfl,rfl,trivial⟩) ⟨by omega,(HS.a4T 0 8 2 0 rfl rfl rfl (fun _ h=>FI.tw h (a5i hb) (aNM hz (.inr trivial) (hdt (j+1) (by omega)) (by omega))) rfl (fun _ h=>FI.tw h (Int.pow_succ _ _).symm (azQ (by omega))))⟩
set_option maxHeartbeats 1600000 in
theorem bmG (HT:Tz W0) (HB:Tab W0) {f r:List UInt8} {z c n:Int} {m:Nat}  (HS:St W0 U Ps w)   (hp:RP f z c) (hl:r.length≤300) (hc0:c=0) (hz0:0≤z) (hr0:0 < r.length) (a4E:n≤64) (hz:z.natAbs < pw 32) (hdt : ∀ j,j≤m→aan (r.take j) < 10 ^ j) (hm:m < r.length) (hdig : ∀ (j:Nat) (b:UInt8),j < m→r[j]? = some b→48≤b.toNat∧b.toNat≤57) (hbad : ∀ b,r[m]? = some b→¬ (48≤b.toNat∧b.toNat≤57)):aba Tryz.prog 116 [.string ⟨(45 :: f).toArray⟩,.string ⟨r.toArray⟩,.int .i64 n] w (aj8 W0 U Ps 0 200 (.int .i64 2)):=by
 refine ake btt rfl btu rfl ?_
 refine JC.seq ?_
 refine JC.region ?_
 refine JL.alloc (vs:=abd) HS rfl bsp rfl rfl (fun g1 w1 HS => ?_)
 refine Lv (.int .i64 0) (fun a ha=>run_assign (ha.ev rfl)) ?_
 refine jn ?_
 refine JC.seq ?_
 refine JC.region ?_
 refine Lv (.string ⟨(45 :: f).toArray⟩) (fun a ha=>run_move (ha.ev rfl)) ?_
 refine Lv (.int .i64 ((45 :: f).length:Int)) (fun a ha=>ae9 (ha.ev rfl) bsn rfl) ?_
 refine Lv (.bool true) (fun a ha=>afd (ha.ev rfl) (ha.ev rfl) (decide_eq_true (by simp))) ?_
 refine Lv (.bool true) (fun a ha=>run_move (ha.ev rfl)) ?_
 refine Lg (.string ⟨(45 :: f).toArray⟩) (fun a ha=>run_move (ha.ev rfl)) ?_
 refine Lg (.int .u8 45) (fun a ha=>afD (ha.ev rfl) (ha.ev rfl) bsn rfl rfl rfl) ?_
 refine Lg (.bool true) (fun a ha=>aj6 (ha.ev rfl) (ha.ev rfl) (by decide)) ?_
 refine Lv (.bool true) (fun a ha=>ae7 (ha.ev rfl) (ha.ev rfl)) ?_
 refine Lv (.bool true) (fun a ha=>run_assign (ha.ev rfl)) ?_
 refine jn ?_
 refine JC.seq ?_
 refine JC.seq ?_
 refine JC.region ?_
 refine Lv (.bool true) (fun a ha=>run_move (ha.ev rfl)) ?_
 refine jn ?_
 refine JC.acZ rfl ?_
 refine JC.region ?_
 refine Lv (.string ⟨(45 :: f).toArray⟩) (fun a ha=>run_move (ha.ev rfl)) ?_
 refine Lv (.string ⟨f.toArray⟩) (fun a ha=>a5e (ha.ev rfl) (ha.ev rfl) bsn rfl (by simp) rfl) ?_
 refine Lv (.string ⟨f.toArray⟩) (fun a ha=>run_assign (ha.ev rfl)) ?_
 refine jn ?_
 refine JC.seq ?_
 refine JC.region ?_
 refine Lv (.string ⟨f.toArray⟩) (fun a ha=>run_move (ha.ev rfl)) ?_
 refine JL.call rfl rfl bsA (hp HS) (fun v2 w2 HR2 => ?_)
 obtain ⟨s2,A2,n2,c2,rfl,HS⟩:=HR2
 refine Lv (.tuple #[.agg #[.bool s2,.slice A2 n2 c2],.int .i64 c]) (fun a ha=>run_move (ha.ev rfl)) ?_
 refine Lv (.agg #[.bool s2,.slice A2 n2 c2]) (fun a ha=>aa6 (ha.ev rfl) rfl) ?_
 refine Lv (.int .i64 c) (fun a ha=>aa6 (ha.ev rfl) rfl) ?_
 refine JL.alloc (vs:=[.bool false,.slice none 0 0]) HS rfl bsv rfl rfl (fun g3 w3 HS => ?_)
 refine JL.store HS rfl rfl (i:=0) rfl bso rfl rfl rfl (vs':=[.bool s2,.slice A2 n2 c2]) rfl rfl (fun w4 HS => ?_)
 refine Lv (.int .i64 c) (fun a ha=>run_assign (ha.ev rfl)) ?_
 refine jn ?_
 refine JC.seq ?_
 refine JC.seq ?_
 refine JC.region ?_
 refine Lv (.int .i64 c) (fun a ha=>run_move (ha.ev rfl)) ?_
 refine Lv (.bool false) (fun a ha=>azp (ha.ev rfl) (ha.ev rfl) (by rw [hc0]; rfl)) ?_
 refine Lv (.bool false) (fun a ha=>run_move (ha.ev rfl)) ?_
 refine Lg (.agg #[.bool s2,.slice A2 n2 c2]) (fun a ha=>atD (ha.ev rfl) bsr bso (HS.box _ (.head _)) rfl rfl) ?_
 refine JL.ajo rfl rfl rfl rfl rfl rfl bsI (a1b HT HB HS (HS.at_ 0 rfl) (by omega)) (fun v5 w5 HR5 => ?_)
 obtain ⟨rfl,HS⟩:=HR5
 refine Lg (.bool false) (fun a ha=>akj (ha.ev rfl) (ha.ev rfl) ((a2a _).trans (decide_eq_false (show ¬ z < 0 by omega)))) ?_
 refine Lv (.bool false) (fun a ha=>abE (ha.ev rfl) (ha.ev rfl)) ?_
 refine Lv (.bool false) (fun a ha=>run_move (ha.ev rfl)) ?_
 refine Lg (.string ⟨r.toArray⟩) (fun a ha=>run_move (ha.ev rfl)) ?_
 refine Lg (.int .i64 (r.length:Int)) (fun a ha=>ae9 (ha.ev rfl) bsn rfl) ?_
 refine Lg (.bool false) (fun a ha=>aj6 (ha.ev rfl) (ha.ev rfl) (a4L hr0)) ?_
 refine Lv (.bool false) (fun a ha=>abE (ha.ev rfl) (ha.ev rfl)) ?_
 refine Lv (.bool false) (fun a ha=>run_move (ha.ev rfl)) ?_
 refine Lg (.int .i64 n) (fun a ha=>run_move (ha.ev rfl)) ?_
 refine Lg (.bool false) (fun a ha=>afd (ha.ev rfl) (ha.ev rfl) (decide_eq_false (by omega))) ?_
 refine Lv (.bool false) (fun a ha=>abE (ha.ev rfl) (ha.ev rfl)) ?_
 refine jn ?_
 refine JC.abl rfl ?_
 refine JC.abu (fun _ _ h=>h) ?_
 refine JC.seq ?_
 refine JC.region ?_
 refine JL.call rfl rfl bs8 (a2x HT HB HS  ) (fun v6 w6 HR6 => ?_)
 obtain ⟨s6,A6,n6,c6,rfl,HS⟩:=HR6
 refine JL.alloc (vs:=[.bool false,.slice none 0 0]) HS rfl bsv rfl rfl (fun g7 w7 HS => ?_)
 refine JL.store HS rfl rfl (i:=0) rfl bso rfl rfl rfl (vs':=[.bool s6,.slice A6 n6 c6]) rfl rfl (fun w8 HS => ?_)
 refine jn ?_
 refine JC.seq ?_
 refine JC.seq ?_
 refine JC.region ?_
 refine Lv (.string ⟨r.toArray⟩) (fun a ha=>run_move (ha.ev rfl)) ?_
 refine Lv (.int .i64 (r.length:Int)) (fun a ha=>ae9 (ha.ev rfl) bsn rfl) ?_
 refine Lv (.int .i64 0) (fun a ha=>run_move (ha.ev rfl)) ?_
 refine jn ?_
 refine JC.block ?_
 refine JC.sub (T':=[(0,.string ⟨f.toArray⟩),(1,.string ⟨r.toArray⟩),(2,.int .i64 n),(6,.pointer (some ⟨g1,0,none⟩)),(8,.bool true),(9,.pointer (some ⟨g3,0,none⟩)),(10,.int .i64 c),(11,.pointer (some ⟨g7,0,none⟩)),(13,.string ⟨(45 :: f).toArray⟩),(14,.int .i64 ((45 :: f).length:Int)),(15,.bool true),(16,.bool true),(17,.string ⟨(45 :: f).toArray⟩),(18,.int .u8 45),(19,.bool true),(20,.bool true),(21,.bool true),(22,.string ⟨(45 :: f).toArray⟩),(23,.string ⟨f.toArray⟩),(24,.tuple #[.agg #[.bool s2,.slice A2 n2 c2],.int .i64 c]),(25,.string ⟨f.toArray⟩),(26,.tuple #[.agg #[.bool s2,.slice A2 n2 c2],.int .i64 c]),(27,.agg #[.bool s2,.slice A2 n2 c2]),(28,.int .i64 c),(29,.int .i64 c),(30,.bool false),(31,.bool false),(32,.agg #[.bool s2,.slice A2 n2 c2]),(33,.int .i64 (afm z)),(34,.bool false),(35,.bool false),(36,.bool false),(37,.string ⟨r.toArray⟩),(38,.int .i64 (r.length:Int)),(39,.bool false),(40,.bool false),(41,.bool false),(42,.int .i64 n),(43,.bool false),(44,.bool false),(46,.agg #[.bool s6,.slice A6 n6 c6]),(47,.string ⟨r.toArray⟩),(48,.int .i64 (r.length:Int)),(49,.int .i64 0)]) (akz.out ⟨rfl,rfl,rfl,rfl,rfl,rfl,rfl,rfl,rfl,rfl,rfl,rfl,rfl,rfl,rfl,rfl,rfl,rfl,rfl,rfl,rfl,rfl,rfl,rfl,rfl,rfl,rfl,rfl,rfl,rfl,rfl,rfl,rfl,rfl,rfl,rfl,rfl,rfl,rfl,rfl,rfl,rfl,rfl,rfl,trivial⟩) ?_
 refine JC.loop (ι:=iy0) (fun ⟨j,s9,A9,n9,c9,s11,A11,n11,c11⟩=>r.length - j) (fun ⟨j,s9,A9,n9,c9,s11,A11,n11,c11⟩=>[(0,.string ⟨f.toArray⟩),(1,.string ⟨r.toArray⟩),(2,.int .i64 n),(6,.pointer (some ⟨g1,0,none⟩)),(8,.bool true),(9,.pointer (some ⟨g3,0,none⟩)),(10,.int .i64 c),(11,.pointer (some ⟨g7,0,none⟩)),(13,.string ⟨(45 :: f).toArray⟩),(14,.int .i64 ((45 :: f).length:Int)),(15,.bool true),(16,.bool true),(17,.string ⟨(45 :: f).toArray⟩),(18,.int .u8 45),(19,.bool true),(20,.bool true),(21,.bool true),(22,.string ⟨(45 :: f).toArray⟩),(23,.string ⟨f.toArray⟩),(24,.tuple #[.agg #[.bool s2,.slice A2 n2 c2],.int .i64 c]),(25,.string ⟨f.toArray⟩),(26,.tuple #[.agg #[.bool s2,.slice A2 n2 c2],.int .i64 c]),(27,.agg #[.bool s2,.slice A2 n2 c2]),(28,.int .i64 c),(29,.int .i64 c),(30,.bool false),(31,.bool false),(32,.agg #[.bool s2,.slice A2 n2 c2]),(33,.int .i64 (afm z)),(34,.bool false),(35,.bool false),(36,.bool false),(37,.string ⟨r.toArray⟩),(38,.int .i64 (r.length:Int)),(39,.bool false),(40,.bool false),(41,.bool false),(42,.int .i64 n),(43,.bool false),(44,.bool false),(46,.agg #[.bool s6,.slice A6 n6 c6]),(47,.string ⟨r.toArray⟩),(48,.int .i64 (r.length:Int)),(49,.int .i64 (j:Int))]) (fun ⟨j,s9,A9,n9,c9,s11,A11,n11,c11⟩ w=>(j≤m)∧St W0 (⟨g7,39,[.bool s11,.slice A11 n11 c11]⟩ :: ⟨g3,39,[.bool s9,.slice A9 n9 c9]⟩ :: ⟨g1,24,abd⟩ :: U) (FI (.agg #[.bool s9,.slice A9 n9 c9]) (z*10 ^ j+(aan (r.take j):Int)) 80 :: FI (.agg #[.bool s11,.slice A11 n11 c11]) ((10:Int) ^ j) 40 :: FI (.agg #[.bool s6,.slice A6 n6 c6]) 1 2 :: FI (.agg #[.bool s2,.slice A2 n2 c2]) z 32 :: Ps) w) ?_ (0,s2,A2,n2,c2,s6,A6,n6,c6) _ ⟨Nat.zero_le _,((HS.atF 0 rfl (fun _ h=>FI.tw h (Int.pow_zero _).symm (azQ (by omega)))).atF 2 rfl (fun _ h=>FI.tw h (by simp [aan]) (aNM (j:=0) hz (.inr trivial) (by simp [aan]) (by omega))))⟩
 skip
 rintro ⟨j,s9,A9,n9,c9,s11,A11,n11,c11⟩ wl1 ⟨a3h,HS⟩
 refine JC.sub (T':=[(0,.string ⟨f.toArray⟩),(1,.string ⟨r.toArray⟩),(2,.int .i64 n),(6,.pointer (some ⟨g1,0,none⟩)),(8,.bool true),(9,.pointer (some ⟨g3,0,none⟩)),(10,.int .i64 c),(11,.pointer (some ⟨g7,0,none⟩)),(13,.string ⟨(45 :: f).toArray⟩),(14,.int .i64 ((45 :: f).length:Int)),(15,.bool true),(16,.bool true),(17,.string ⟨(45 :: f).toArray⟩),(18,.int .u8 45),(19,.bool true),(20,.bool true),(21,.bool true),(22,.string ⟨(45 :: f).toArray⟩),(23,.string ⟨f.toArray⟩),(24,.tuple #[.agg #[.bool s2,.slice A2 n2 c2],.int .i64 c]),(25,.string ⟨f.toArray⟩),(26,.tuple #[.agg #[.bool s2,.slice A2 n2 c2],.int .i64 c]),(27,.agg #[.bool s2,.slice A2 n2 c2]),(28,.int .i64 c),(29,.int .i64 c),(30,.bool false),(31,.bool false),(32,.agg #[.bool s2,.slice A2 n2 c2]),(33,.int .i64 (afm z)),(34,.bool false),(35,.bool false),(36,.bool false),(37,.string ⟨r.toArray⟩),(38,.int .i64 (r.length:Int)),(39,.bool false),(40,.bool false),(41,.bool false),(42,.int .i64 n),(43,.bool false),(44,.bool false),(46,.agg #[.bool s6,.slice A6 n6 c6]),(47,.string ⟨r.toArray⟩),(48,.int .i64 (r.length:Int)),(49,.int .i64 (j:Int))]) (fun _ _ h=>h) ?_
 have HS:St W0 (⟨g7,39,[.bool s11,.slice A11 n11 c11]⟩ :: ⟨g3,39,[.bool s9,.slice A9 n9 c9]⟩ :: ⟨g1,24,abd⟩ :: U) (FI (.agg #[.bool s9,.slice A9 n9 c9]) (z*10 ^ j+(aan (r.take j):Int)) 80 :: FI (.agg #[.bool s11,.slice A11 n11 c11]) ((10:Int) ^ j) 40 :: FI (.agg #[.bool s6,.slice A6 n6 c6]) 1 2 :: FI (.agg #[.bool s2,.slice A2 n2 c2]) z 32 :: Ps) wl1:=HS
 refine JC.seq ?_
 refine JC.region ?_
 refine Lv (.bool true) (fun a ha=>akj (ha.ev rfl) (ha.ev rfl) (decide_eq_true (by omega))) ?_
 refine jn ?_
 refine JC.seq ?_
 refine JC.acZ rfl ?_
 refine JC.abu (fun _ _ h=>h) ?_
 refine JC.seq ?_
 refine JC.block ?_
 refine JC.seq ?_
 refine JC.region ?_
 refine Lv (.int .i64 (j:Int)) (fun a ha=>run_move (ha.ev rfl)) ?_
 refine Lv (.int .i64 (j:Int)) (fun a ha=>run_assign (ha.ev rfl)) ?_
 refine jn ?_
 refine JC.seq ?_
 by_cases hc9:j=m
 ·skip
  refine JC.seq ?_
  obtain ⟨b,hb⟩ : ∃ b,r[j]? = some b:=⟨_,List.getElem?_eq_getElem (show j < r.length by omega)⟩
  have hbd:=hbad b (by rw [← hc9]; exact hb)
  refine JC.region ?_
  refine Lv (.string ⟨r.toArray⟩) (fun a ha=>run_move (ha.ev rfl)) ?_
  refine Lv (.int .i64 (j:Int)) (fun a ha=>run_move (ha.ev rfl)) ?_
  refine Lv (.int .u8 (b.toNat:Int)) (fun a ha=>afD (ha.ev rfl) (ha.ev rfl) bsn rfl hb rfl) ?_
  refine Lv (.bool (decide ((b.toNat:Int) < 48))) (fun a ha=>akj (ha.ev rfl) (ha.ev rfl) rfl) ?_
  cases a2m:(decide ((b.toNat:Int) < 48))
  ·skip
   refine Lv (.bool false) (fun a ha=>run_move (ha.ev rfl)) ?_
   refine Lg (.string ⟨r.toArray⟩) (fun a ha=>run_move (ha.ev rfl)) ?_
   refine Lg (.int .i64 (j:Int)) (fun a ha=>run_move (ha.ev rfl)) ?_
   refine Lg (.int .u8 (b.toNat:Int)) (fun a ha=>afD (ha.ev rfl) (ha.ev rfl) bsn rfl hb rfl) ?_
   refine Lg (.bool (decide ((b.toNat:Int) > 57))) (fun a ha=>afd (ha.ev rfl) (ha.ev rfl) rfl) ?_
   refine Lv (.bool (decide ((b.toNat:Int) > 57))) (fun a ha=>abE (ha.ev rfl) (ha.ev rfl)) ?_
   refine jn ?_
   cases a90:(decide ((b.toNat:Int) > 57))
   ·skip
    exact absurd hbd (by have e1:=of_decide_eq_false a2m; have e2:=of_decide_eq_false a90; omega)
   ·skip
    refine JC.acZ rfl ?_
    refine JC.seq ?_
    refine JC.region ?_
    refine Lv abe (fun a ha=>acY.run_build (vs:=[]) (by simp only [List.map_cons,List.map_nil]) bsu bsp ahx rfl) ?_
    refine JL.store HS rfl rfl (i:=2) rfl bsm rfl rfl rfl (vs':=abd) rfl rfl (fun w12 HS => ?_)
    refine Lv (.int .i64 2) (fun a ha=>run_assign (ha.ev rfl)) ?_
    refine jn ?_
    refine JC.ret (fun a ha => ?_)
    repeat (first | refine aev ?_ | refine aeu ?_)
    refine aff (v:=abe) (v' := .int .i64 2) ha Tryz.results116 (.agg rfl bsq bsm (HS.box _ (.tail _ (.tail _ (.head _)))) rfl rfl) (.tmp rfl) ⟨_,rfl,?_⟩
    exact ⟨_,_,_,_,_,_,_,rfl,(HS.add (FV.stable _ _ _ _) ((FV.zero 0 _).as rfl (by omega))).alm 3 4 rfl rfl⟩
  ·skip
   refine Lv (.bool true) (fun a ha=>run_move (ha.ev rfl)) ?_
   refine Lp ?_
   refine Lp ?_
   refine Lp ?_
   refine Lp ?_
   refine Lv (.bool true) (fun a ha=>ae7 (ha.ev rfl) (ha.ev rfl)) ?_
   refine jn ?_
   refine JC.acZ rfl ?_
   refine JC.seq ?_
   refine JC.region ?_
   refine Lv abe (fun a ha=>acY.run_build (vs:=[]) (by simp only [List.map_cons,List.map_nil]) bsu bsp ahx rfl) ?_
   refine JL.store HS rfl rfl (i:=2) rfl bsm rfl rfl rfl (vs':=abd) rfl rfl (fun w13 HS => ?_)
   refine Lv (.int .i64 2) (fun a ha=>run_assign (ha.ev rfl)) ?_
   refine jn ?_
   refine JC.ret (fun a ha => ?_)
   repeat (first | refine aev ?_ | refine aeu ?_)
   refine aff (v:=abe) (v' := .int .i64 2) ha Tryz.results116 (.agg rfl bsq bsm (HS.box _ (.tail _ (.tail _ (.head _)))) rfl rfl) (.tmp rfl) ⟨_,rfl,?_⟩
   exact ⟨_,_,_,_,_,_,_,rfl,(HS.add (FV.stable _ _ _ _) ((FV.zero 0 _).as rfl (by omega))).alm 3 4 rfl rfl⟩
 ·skip
  refine JC.seq ?_
  obtain ⟨b,hb⟩ : ∃ b,r[j]? = some b:=⟨_,List.getElem?_eq_getElem (show j < r.length by omega)⟩
  have hbd:=hdig j b (by omega) hb
  refine JC.region ?_
  refine Lv (.string ⟨r.toArray⟩) (fun a ha=>run_move (ha.ev rfl)) ?_
  refine Lv (.int .i64 (j:Int)) (fun a ha=>run_move (ha.ev rfl)) ?_
  refine Lv (.int .u8 (b.toNat:Int)) (fun a ha=>afD (ha.ev rfl) (ha.ev rfl) bsn rfl hb rfl) ?_
  refine Lv (.bool false) (fun a ha=>akj (ha.ev rfl) (ha.ev rfl) (decide_eq_false (by omega))) ?_
  refine Lv (.bool false) (fun a ha=>run_move (ha.ev rfl)) ?_
  refine Lg (.string ⟨r.toArray⟩) (fun a ha=>run_move (ha.ev rfl)) ?_
  refine Lg (.int .i64 (j:Int)) (fun a ha=>run_move (ha.ev rfl)) ?_
  refine Lg (.int .u8 (b.toNat:Int)) (fun a ha=>afD (ha.ev rfl) (ha.ev rfl) bsn rfl hb rfl) ?_
  refine Lg (.bool false) (fun a ha=>afd (ha.ev rfl) (ha.ev rfl) (decide_eq_false (by omega))) ?_
  refine Lv (.bool false) (fun a ha=>abE (ha.ev rfl) (ha.ev rfl)) ?_
  refine jn ?_
  refine JC.abl rfl ?_
  refine JC.abu (fun _ _ h=>h) ?_
  refine JC.seq ?_
  refine JC.draw HS [10] (by kernel_rfl) (fun w14 HS => ?_)
  refine Da (.agg #[.bool s9,.slice A9 n9 c9]) 0 1 rfl HS.b0 rfl rfl bsr bso ?_
  refine Dv (.string ⟨r.toArray⟩) 3 rfl HS.b0 (fun a ha w=>run_move (ha.ev rfl)) ?_
  refine Dv (.int .i64 (j:Int)) 4 rfl HS.b0 (fun a ha w=>run_move (ha.ev rfl)) ?_
  refine Dv (.int .u8 (b.toNat:Int)) 5 rfl HS.b0 (fun a ha w=>afD (ha.ev rfl) (ha.ev rfl) bsn rfl hb rfl) ?_
  refine Dv (.int .u8 ((b.toNat - 48:Nat):Int)) 6 rfl HS.b0 (fun a ha w=>a5f (ha.ev rfl) (ha.ev rfl) (a5m hbd)) ?_
  refine Dv (.int .i64 ((b.toNat - 48:Nat):Int)) 7 rfl HS.b0 (fun a ha w=>a5b (ha.ev rfl) btv btw (by rw [IntKind.wrap_i64]; omega)) ?_
  refine D1c 1 rfl rfl rfl bsy (aos HT HB HS  (by omega) (by omega)) (fun boK bo1 a8P => ?_)
  obtain ⟨bny,bfY,bkU,bhs,rfl,HS⟩:=a8P
  refine ⟨HS.b0,?_⟩
  refine D1c 2 rfl rfl rfl bsE (aN2 HT HB HS (HS.at_ 1 rfl) (HS.at_ 0 rfl) (by omega)) (fun boL bo2 a8Q => ?_)
  obtain ⟨bnz,bfZ,bkV,bht,rfl,HS⟩:=a8Q
  refine ⟨HS.b0,?_⟩
  refine D1c 8 rfl rfl rfl bsy (aos HT HB HS  (by omega) (by omega)) (fun boM bo3 a8R => ?_)
  obtain ⟨bnA,bf0,bkW,bhu,rfl,HS⟩:=a8R
  refine ⟨HS.b0,?_⟩
  refine D1c 9 rfl rfl rfl btx (a4Y HT HB HS (HS.at_ 1 rfl) (HS.at_ 0 rfl) (by omega)) (fun boN bo4 a8S => ?_)
  obtain ⟨a6R,a5t,a6F,a5X,rfl,HS⟩:=a8S
  refine ⟨HS.b0,?_⟩
  refine D1s 10 [.bool a6R,.slice a5t a6F a5X] HS 1 rfl rfl rfl rfl bso (fun _ HS=>⟨(aoq (s:=10) rfl rfl),?_⟩)
  refine JR.next (by kernel_rfl) (fun _ _ h=>h) ?_
  refine JC.draw HS [3] (by kernel_rfl) (fun w16 HS => ?_)
  refine Da (.agg #[.bool s11,.slice A11 n11 c11]) 0 0 rfl HS.b0 rfl rfl bsr bso ?_
  refine D1c 1 rfl rfl rfl bsy (aos HT HB HS  (by omega) (by omega)) (fun boP bo6 a8V => ?_)
  obtain ⟨bnC,bf2,bkY,bhw,rfl,HS⟩:=a8V
  refine ⟨HS.b0,?_⟩
  refine D1c 2 rfl rfl rfl bsE (aN2 HT HB HS (HS.at_ 6 rfl) (HS.at_ 0 rfl) (by omega)) (fun boQ bo7 a8W => ?_)
  obtain ⟨a6S,a5u,a6G,a5Y,rfl,HS⟩:=a8W
  refine ⟨HS.b0,?_⟩
  refine D1s 3 [.bool a6S,.slice a5u a6G a5Y] HS 0 rfl rfl rfl rfl bso (fun _ HS=>⟨(aoq (s:=3) rfl rfl),?_⟩)
  refine JR.a2X (by kernel_rfl) (fun _ _ h=>h) ?_
  refine JC.region ?_
  refine Lv (.int .i64 ((j+1:Nat):Int)) (fun a ha=>azn (ha.ev rfl) (ha.ev rfl) (by rw [IntKind.wrap_i64]; omega)) ?_
  refine Lv (.int .i64 ((j+1:Nat):Int)) (fun a ha=>run_move (ha.ev rfl)) ?_
  exact JL.round ((j+1),a6R,a5t,a6F,a5X,a6S,a5u,a6G,a5Y) (by dsimp only; omega) (akz.out ⟨rfl,rfl,rfl,rfl,rfl,rfl,rfl,rfl,rfl,rfl,rfl,rfl,rfl,rfl,rfl,rfl,rfl,rfl,rfl,rfl,rfl,rfl,rfl,rfl,rfl,rfl,rfl,rfl,rfl,rfl,rfl,rfl,rfl,rfl,rfl,rfl,rfl,rfl,rfl,rfl,rfl,rfl,rfl,rfl,trivial⟩) ⟨by omega,(HS.a4T 0 8 2 0 rfl rfl rfl (fun _ h=>FI.tw h (a5i hb) (aNM hz (.inr trivial) (hdt (j+1) (by omega)) (by omega))) rfl (fun _ h=>FI.tw h (Int.pow_succ _ _).symm (azQ (by omega))))⟩
set_option maxHeartbeats 1600000 in
theorem bmK (HT:Tz W0) (HB:Tab W0) {f r:List UInt8} {z c n:Int}  (HS:St W0 U Ps w)   (hp:RP f z c) (hl:r.length≤300) (hc0:c=0) (hz0:0≤z) (hr0:0 < r.length) (a4E:n≤64) (hz:z.natAbs < pw 32) (hdt : ∀ j,j≤r.length→aan (r.take j) < 10 ^ j) (hdig : ∀ (j:Nat) (b:UInt8),r[j]? = some b→48≤b.toNat∧b.toNat≤57):aba Tryz.prog 116 [.string ⟨(45 :: f).toArray⟩,.string ⟨r.toArray⟩,.int .i64 n] w (aj8 W0 U Ps (Rat.divInt (-(z*10 ^ r.length+(aan r:Int))) ((10:Int) ^ r.length)) 200 (.int .i64 0)):=by
 refine ake btt rfl btu rfl ?_
 refine JC.seq ?_
 refine JC.region ?_
 refine JL.alloc (vs:=abd) HS rfl bsp rfl rfl (fun g1 w1 HS => ?_)
 refine Lv (.int .i64 0) (fun a ha=>run_assign (ha.ev rfl)) ?_
 refine jn ?_
 refine JC.seq ?_
 refine JC.region ?_
 refine Lv (.string ⟨(45 :: f).toArray⟩) (fun a ha=>run_move (ha.ev rfl)) ?_
 refine Lv (.int .i64 ((45 :: f).length:Int)) (fun a ha=>ae9 (ha.ev rfl) bsn rfl) ?_
 refine Lv (.bool true) (fun a ha=>afd (ha.ev rfl) (ha.ev rfl) (decide_eq_true (by simp))) ?_
 refine Lv (.bool true) (fun a ha=>run_move (ha.ev rfl)) ?_
 refine Lg (.string ⟨(45 :: f).toArray⟩) (fun a ha=>run_move (ha.ev rfl)) ?_
 refine Lg (.int .u8 45) (fun a ha=>afD (ha.ev rfl) (ha.ev rfl) bsn rfl rfl rfl) ?_
 refine Lg (.bool true) (fun a ha=>aj6 (ha.ev rfl) (ha.ev rfl) (by decide)) ?_
 refine Lv (.bool true) (fun a ha=>ae7 (ha.ev rfl) (ha.ev rfl)) ?_
 refine Lv (.bool true) (fun a ha=>run_assign (ha.ev rfl)) ?_
 refine jn ?_
 refine JC.seq ?_
 refine JC.seq ?_
 refine JC.region ?_
 refine Lv (.bool true) (fun a ha=>run_move (ha.ev rfl)) ?_
 refine jn ?_
 refine JC.acZ rfl ?_
 refine JC.region ?_
 refine Lv (.string ⟨(45 :: f).toArray⟩) (fun a ha=>run_move (ha.ev rfl)) ?_
 refine Lv (.string ⟨f.toArray⟩) (fun a ha=>a5e (ha.ev rfl) (ha.ev rfl) bsn rfl (by simp) rfl) ?_
 refine Lv (.string ⟨f.toArray⟩) (fun a ha=>run_assign (ha.ev rfl)) ?_
 refine jn ?_
 refine JC.seq ?_
 refine JC.region ?_
 refine Lv (.string ⟨f.toArray⟩) (fun a ha=>run_move (ha.ev rfl)) ?_
 refine JL.call rfl rfl bsA (hp HS) (fun v2 w2 HR2 => ?_)
 obtain ⟨s2,A2,n2,c2,rfl,HS⟩:=HR2
 refine Lv (.tuple #[.agg #[.bool s2,.slice A2 n2 c2],.int .i64 c]) (fun a ha=>run_move (ha.ev rfl)) ?_
 refine Lv (.agg #[.bool s2,.slice A2 n2 c2]) (fun a ha=>aa6 (ha.ev rfl) rfl) ?_
 refine Lv (.int .i64 c) (fun a ha=>aa6 (ha.ev rfl) rfl) ?_
 refine JL.alloc (vs:=[.bool false,.slice none 0 0]) HS rfl bsv rfl rfl (fun g3 w3 HS => ?_)
 refine JL.store HS rfl rfl (i:=0) rfl bso rfl rfl rfl (vs':=[.bool s2,.slice A2 n2 c2]) rfl rfl (fun w4 HS => ?_)
 refine Lv (.int .i64 c) (fun a ha=>run_assign (ha.ev rfl)) ?_
 refine jn ?_
 refine JC.seq ?_
 refine JC.seq ?_
 refine JC.region ?_
 refine Lv (.int .i64 c) (fun a ha=>run_move (ha.ev rfl)) ?_
 refine Lv (.bool false) (fun a ha=>azp (ha.ev rfl) (ha.ev rfl) (by rw [hc0]; rfl)) ?_
 refine Lv (.bool false) (fun a ha=>run_move (ha.ev rfl)) ?_
 refine Lg (.agg #[.bool s2,.slice A2 n2 c2]) (fun a ha=>atD (ha.ev rfl) bsr bso (HS.box _ (.head _)) rfl rfl) ?_
 refine JL.ajo rfl rfl rfl rfl rfl rfl bsI (a1b HT HB HS (HS.at_ 0 rfl) (by omega)) (fun v5 w5 HR5 => ?_)
 obtain ⟨rfl,HS⟩:=HR5
 refine Lg (.bool false) (fun a ha=>akj (ha.ev rfl) (ha.ev rfl) ((a2a _).trans (decide_eq_false (show ¬ z < 0 by omega)))) ?_
 refine Lv (.bool false) (fun a ha=>abE (ha.ev rfl) (ha.ev rfl)) ?_
 refine Lv (.bool false) (fun a ha=>run_move (ha.ev rfl)) ?_
 refine Lg (.string ⟨r.toArray⟩) (fun a ha=>run_move (ha.ev rfl)) ?_
 refine Lg (.int .i64 (r.length:Int)) (fun a ha=>ae9 (ha.ev rfl) bsn rfl) ?_
 refine Lg (.bool false) (fun a ha=>aj6 (ha.ev rfl) (ha.ev rfl) (a4L hr0)) ?_
 refine Lv (.bool false) (fun a ha=>abE (ha.ev rfl) (ha.ev rfl)) ?_
 refine Lv (.bool false) (fun a ha=>run_move (ha.ev rfl)) ?_
 refine Lg (.int .i64 n) (fun a ha=>run_move (ha.ev rfl)) ?_
 refine Lg (.bool false) (fun a ha=>afd (ha.ev rfl) (ha.ev rfl) (decide_eq_false (by omega))) ?_
 refine Lv (.bool false) (fun a ha=>abE (ha.ev rfl) (ha.ev rfl)) ?_
 refine jn ?_
 refine JC.abl rfl ?_
 refine JC.abu (fun _ _ h=>h) ?_
 refine JC.seq ?_
 refine JC.region ?_
 refine JL.call rfl rfl bs8 (a2x HT HB HS  ) (fun v6 w6 HR6 => ?_)
 obtain ⟨s6,A6,n6,c6,rfl,HS⟩:=HR6
 refine JL.alloc (vs:=[.bool false,.slice none 0 0]) HS rfl bsv rfl rfl (fun g7 w7 HS => ?_)
 refine JL.store HS rfl rfl (i:=0) rfl bso rfl rfl rfl (vs':=[.bool s6,.slice A6 n6 c6]) rfl rfl (fun w8 HS => ?_)
 refine jn ?_
 refine JC.seq ?_
 refine JC.seq ?_
 refine JC.region ?_
 refine Lv (.string ⟨r.toArray⟩) (fun a ha=>run_move (ha.ev rfl)) ?_
 refine Lv (.int .i64 (r.length:Int)) (fun a ha=>ae9 (ha.ev rfl) bsn rfl) ?_
 refine Lv (.int .i64 0) (fun a ha=>run_move (ha.ev rfl)) ?_
 refine jn ?_
 refine JC.block ?_
 refine JC.sub (T':=[(0,.string ⟨f.toArray⟩),(1,.string ⟨r.toArray⟩),(2,.int .i64 n),(6,.pointer (some ⟨g1,0,none⟩)),(8,.bool true),(9,.pointer (some ⟨g3,0,none⟩)),(10,.int .i64 c),(11,.pointer (some ⟨g7,0,none⟩)),(13,.string ⟨(45 :: f).toArray⟩),(14,.int .i64 ((45 :: f).length:Int)),(15,.bool true),(16,.bool true),(17,.string ⟨(45 :: f).toArray⟩),(18,.int .u8 45),(19,.bool true),(20,.bool true),(21,.bool true),(22,.string ⟨(45 :: f).toArray⟩),(23,.string ⟨f.toArray⟩),(24,.tuple #[.agg #[.bool s2,.slice A2 n2 c2],.int .i64 c]),(25,.string ⟨f.toArray⟩),(26,.tuple #[.agg #[.bool s2,.slice A2 n2 c2],.int .i64 c]),(27,.agg #[.bool s2,.slice A2 n2 c2]),(28,.int .i64 c),(29,.int .i64 c),(30,.bool false),(31,.bool false),(32,.agg #[.bool s2,.slice A2 n2 c2]),(33,.int .i64 (afm z)),(34,.bool false),(35,.bool false),(36,.bool false),(37,.string ⟨r.toArray⟩),(38,.int .i64 (r.length:Int)),(39,.bool false),(40,.bool false),(41,.bool false),(42,.int .i64 n),(43,.bool false),(44,.bool false),(46,.agg #[.bool s6,.slice A6 n6 c6]),(47,.string ⟨r.toArray⟩),(48,.int .i64 (r.length:Int)),(49,.int .i64 0)]) (akz.out ⟨rfl,rfl,rfl,rfl,rfl,rfl,rfl,rfl,rfl,rfl,rfl,rfl,rfl,rfl,rfl,rfl,rfl,rfl,rfl,rfl,rfl,rfl,rfl,rfl,rfl,rfl,rfl,rfl,rfl,rfl,rfl,rfl,rfl,rfl,rfl,rfl,rfl,rfl,rfl,rfl,rfl,rfl,rfl,rfl,trivial⟩) ?_
 refine JC.loop (ι:=iy0) (fun ⟨j,s9,A9,n9,c9,s11,A11,n11,c11⟩=>r.length - j) (fun ⟨j,s9,A9,n9,c9,s11,A11,n11,c11⟩=>[(0,.string ⟨f.toArray⟩),(1,.string ⟨r.toArray⟩),(2,.int .i64 n),(6,.pointer (some ⟨g1,0,none⟩)),(8,.bool true),(9,.pointer (some ⟨g3,0,none⟩)),(10,.int .i64 c),(11,.pointer (some ⟨g7,0,none⟩)),(13,.string ⟨(45 :: f).toArray⟩),(14,.int .i64 ((45 :: f).length:Int)),(15,.bool true),(16,.bool true),(17,.string ⟨(45 :: f).toArray⟩),(18,.int .u8 45),(19,.bool true),(20,.bool true),(21,.bool true),(22,.string ⟨(45 :: f).toArray⟩),(23,.string ⟨f.toArray⟩),(24,.tuple #[.agg #[.bool s2,.slice A2 n2 c2],.int .i64 c]),(25,.string ⟨f.toArray⟩),(26,.tuple #[.agg #[.bool s2,.slice A2 n2 c2],.int .i64 c]),(27,.agg #[.bool s2,.slice A2 n2 c2]),(28,.int .i64 c),(29,.int .i64 c),(30,.bool false),(31,.bool false),(32,.agg #[.bool s2,.slice A2 n2 c2]),(33,.int .i64 (afm z)),(34,.bool false),(35,.bool false),(36,.bool false),(37,.string ⟨r.toArray⟩),(38,.int .i64 (r.length:Int)),(39,.bool false),(40,.bool false),(41,.bool false),(42,.int .i64 n),(43,.bool false),(44,.bool false),(46,.agg #[.bool s6,.slice A6 n6 c6]),(47,.string ⟨r.toArray⟩),(48,.int .i64 (r.length:Int)),(49,.int .i64 (j:Int))]) (fun ⟨j,s9,A9,n9,c9,s11,A11,n11,c11⟩ w=>(j≤r.length)∧St W0 (⟨g7,39,[.bool s11,.slice A11 n11 c11]⟩ :: ⟨g3,39,[.bool s9,.slice A9 n9 c9]⟩ :: ⟨g1,24,abd⟩ :: U) (FI (.agg #[.bool s9,.slice A9 n9 c9]) (z*10 ^ j+(aan (r.take j):Int)) 80 :: FI (.agg #[.bool s11,.slice A11 n11 c11]) ((10:Int) ^ j) 40 :: FI (.agg #[.bool s6,.slice A6 n6 c6]) 1 2 :: FI (.agg #[.bool s2,.slice A2 n2 c2]) z 32 :: Ps) w) ?_ (0,s2,A2,n2,c2,s6,A6,n6,c6) _ ⟨Nat.zero_le _,((HS.atF 0 rfl (fun _ h=>FI.tw h (Int.pow_zero _).symm (azQ (by omega)))).atF 2 rfl (fun _ h=>FI.tw h (by simp [aan]) (aNM (j:=0) hz (.inr trivial) (by simp [aan]) (by omega))))⟩
 skip
 rintro ⟨j,s9,A9,n9,c9,s11,A11,n11,c11⟩ wl1 ⟨a3h,HS⟩
 refine JC.sub (T':=[(0,.string ⟨f.toArray⟩),(1,.string ⟨r.toArray⟩),(2,.int .i64 n),(6,.pointer (some ⟨g1,0,none⟩)),(8,.bool true),(9,.pointer (some ⟨g3,0,none⟩)),(10,.int .i64 c),(11,.pointer (some ⟨g7,0,none⟩)),(13,.string ⟨(45 :: f).toArray⟩),(14,.int .i64 ((45 :: f).length:Int)),(15,.bool true),(16,.bool true),(17,.string ⟨(45 :: f).toArray⟩),(18,.int .u8 45),(19,.bool true),(20,.bool true),(21,.bool true),(22,.string ⟨(45 :: f).toArray⟩),(23,.string ⟨f.toArray⟩),(24,.tuple #[.agg #[.bool s2,.slice A2 n2 c2],.int .i64 c]),(25,.string ⟨f.toArray⟩),(26,.tuple #[.agg #[.bool s2,.slice A2 n2 c2],.int .i64 c]),(27,.agg #[.bool s2,.slice A2 n2 c2]),(28,.int .i64 c),(29,.int .i64 c),(30,.bool false),(31,.bool false),(32,.agg #[.bool s2,.slice A2 n2 c2]),(33,.int .i64 (afm z)),(34,.bool false),(35,.bool false),(36,.bool false),(37,.string ⟨r.toArray⟩),(38,.int .i64 (r.length:Int)),(39,.bool false),(40,.bool false),(41,.bool false),(42,.int .i64 n),(43,.bool false),(44,.bool false),(46,.agg #[.bool s6,.slice A6 n6 c6]),(47,.string ⟨r.toArray⟩),(48,.int .i64 (r.length:Int)),(49,.int .i64 (j:Int))]) (fun _ _ h=>h) ?_
 have HS:St W0 (⟨g7,39,[.bool s11,.slice A11 n11 c11]⟩ :: ⟨g3,39,[.bool s9,.slice A9 n9 c9]⟩ :: ⟨g1,24,abd⟩ :: U) (FI (.agg #[.bool s9,.slice A9 n9 c9]) (z*10 ^ j+(aan (r.take j):Int)) 80 :: FI (.agg #[.bool s11,.slice A11 n11 c11]) ((10:Int) ^ j) 40 :: FI (.agg #[.bool s6,.slice A6 n6 c6]) 1 2 :: FI (.agg #[.bool s2,.slice A2 n2 c2]) z 32 :: Ps) wl1:=HS
 refine JC.seq ?_
 refine JC.region ?_
 refine Lv (.bool (decide ((j:Int) < (r.length:Int)))) (fun a ha=>akj (ha.ev rfl) (ha.ev rfl) rfl) ?_
 refine jn ?_
 refine JC.seq ?_
 cases a1O:(decide ((j:Int) < (r.length:Int)))
 ·skip
  have hd9:=of_decide_eq_false a1O
  refine JC.abl rfl ?_
  obtain rfl:j=r.length:=by omega
  refine JC.exit (fun _ _ h=>h) (fun _ _ h=>h) ?_
  refine JC.seq ?_
  refine JC.seq ?_
  refine JC.region ?_
  refine Lv (.bool true) (fun a ha=>run_move (ha.ev rfl)) ?_
  refine jn ?_
  refine JC.acZ rfl ?_
  refine JC.region ?_
  refine JL.load (.agg #[.bool s9,.slice A9 n9 c9]) HS 1 rfl rfl rfl bsr bso rfl rfl ?_
  refine JL.call rfl rfl Tryz.call167 (bnb HT HB HS (HS.at_ 0 rfl) (by omega)) (fun v10 w10 a8N => ?_)
  obtain ⟨s10,A10,n10,c10,rfl,HS⟩:=a8N
  refine JL.store HS rfl rfl (i:=1) rfl bso rfl rfl rfl (vs':=[.bool s10,.slice A10 n10 c10]) rfl rfl (fun w11 HS => ?_)
  refine jn ?_
  refine JC.seq ?_
  refine JC.region ?_
  refine JL.load (.agg #[.bool s10,.slice A10 n10 c10]) HS 1 rfl rfl rfl bsr bso rfl rfl ?_
  refine JL.load (.agg #[.bool s11,.slice A11 n11 c11]) HS 0 rfl rfl rfl bsr bso rfl rfl ?_
  refine JL.call rfl rfl btg (a3X HT HB HS (HS.at_ 0 rfl) (HS.at_ 2 rfl) (by omega) (show (10:Int) ^ r.length≠0 from Int.ne_of_gt (Int.pow_pos (by decide)))) (fun v12 w12 a2L => ?_)
  obtain ⟨s12,A12,n12,c12,B12,m12,d12,rfl,HS⟩:=a2L
  refine JL.store HS rfl rfl (i:=2) rfl bsm rfl rfl rfl (vs':=(btU s12 A12 n12 c12 B12 m12 d12)) rfl rfl (fun w13 HS => ?_)
  refine Lv (.int .i64 0) (fun a ha=>run_assign (ha.ev rfl)) ?_
  refine jn ?_
  refine JC.ret (fun a ha => ?_)
  repeat (first | refine aev ?_ | refine aeu ?_)
  refine aff (v:=(btT s12 A12 n12 c12 B12 m12 d12)) (v' := .int .i64 0) ha Tryz.results116 (.agg rfl bsq bsm (HS.box _ (.tail _ (.tail _ (.head _)))) rfl rfl) (.tmp rfl) ⟨_,rfl,?_⟩
  exact ⟨_,_,_,_,_,_,_,rfl,HS.out 3 6 0 rfl rfl rfl (fun _ h=>h.as (by rw [List.take_length]) (by omega))⟩
 ·skip
  have hd9:=of_decide_eq_true a1O
  refine JC.acZ rfl ?_
  refine JC.abu (fun _ _ h=>h) ?_
  refine JC.seq ?_
  refine JC.block ?_
  refine JC.seq ?_
  refine JC.region ?_
  refine Lv (.int .i64 (j:Int)) (fun a ha=>run_move (ha.ev rfl)) ?_
  refine Lv (.int .i64 (j:Int)) (fun a ha=>run_assign (ha.ev rfl)) ?_
  refine jn ?_
  refine JC.seq ?_
  refine JC.seq ?_
  obtain ⟨b,hb⟩ : ∃ b,r[j]? = some b:=⟨_,List.getElem?_eq_getElem (show j < r.length by omega)⟩
  have hbd:=hdig j b hb
  refine JC.region ?_
  refine Lv (.string ⟨r.toArray⟩) (fun a ha=>run_move (ha.ev rfl)) ?_
  refine Lv (.int .i64 (j:Int)) (fun a ha=>run_move (ha.ev rfl)) ?_
  refine Lv (.int .u8 (b.toNat:Int)) (fun a ha=>afD (ha.ev rfl) (ha.ev rfl) bsn rfl hb rfl) ?_
  refine Lv (.bool false) (fun a ha=>akj (ha.ev rfl) (ha.ev rfl) (decide_eq_false (by omega))) ?_
  refine Lv (.bool false) (fun a ha=>run_move (ha.ev rfl)) ?_
  refine Lg (.string ⟨r.toArray⟩) (fun a ha=>run_move (ha.ev rfl)) ?_
  refine Lg (.int .i64 (j:Int)) (fun a ha=>run_move (ha.ev rfl)) ?_
  refine Lg (.int .u8 (b.toNat:Int)) (fun a ha=>afD (ha.ev rfl) (ha.ev rfl) bsn rfl hb rfl) ?_
  refine Lg (.bool false) (fun a ha=>afd (ha.ev rfl) (ha.ev rfl) (decide_eq_false (by omega))) ?_
  refine Lv (.bool false) (fun a ha=>abE (ha.ev rfl) (ha.ev rfl)) ?_
  refine jn ?_
  refine JC.abl rfl ?_
  refine JC.abu (fun _ _ h=>h) ?_
  refine JC.seq ?_
  refine JC.draw HS [10] (by kernel_rfl) (fun w14 HS => ?_)
  refine Da (.agg #[.bool s9,.slice A9 n9 c9]) 0 1 rfl HS.b0 rfl rfl bsr bso ?_
  refine Dv (.string ⟨r.toArray⟩) 3 rfl HS.b0 (fun a ha w=>run_move (ha.ev rfl)) ?_
  refine Dv (.int .i64 (j:Int)) 4 rfl HS.b0 (fun a ha w=>run_move (ha.ev rfl)) ?_
  refine Dv (.int .u8 (b.toNat:Int)) 5 rfl HS.b0 (fun a ha w=>afD (ha.ev rfl) (ha.ev rfl) bsn rfl hb rfl) ?_
  refine Dv (.int .u8 ((b.toNat - 48:Nat):Int)) 6 rfl HS.b0 (fun a ha w=>a5f (ha.ev rfl) (ha.ev rfl) (a5m hbd)) ?_
  refine Dv (.int .i64 ((b.toNat - 48:Nat):Int)) 7 rfl HS.b0 (fun a ha w=>a5b (ha.ev rfl) btv btw (by rw [IntKind.wrap_i64]; omega)) ?_
  refine D1c 1 rfl rfl rfl bsy (aos HT HB HS  (by omega) (by omega)) (fun boK bo1 a8P => ?_)
  obtain ⟨bny,bfY,bkU,bhs,rfl,HS⟩:=a8P
  refine ⟨HS.b0,?_⟩
  refine D1c 2 rfl rfl rfl bsE (aN2 HT HB HS (HS.at_ 1 rfl) (HS.at_ 0 rfl) (by omega)) (fun boL bo2 a8Q => ?_)
  obtain ⟨bnz,bfZ,bkV,bht,rfl,HS⟩:=a8Q
  refine ⟨HS.b0,?_⟩
  refine D1c 8 rfl rfl rfl bsy (aos HT HB HS  (by omega) (by omega)) (fun boM bo3 a8R => ?_)
  obtain ⟨bnA,bf0,bkW,bhu,rfl,HS⟩:=a8R
  refine ⟨HS.b0,?_⟩
  refine D1c 9 rfl rfl rfl btx (a4Y HT HB HS (HS.at_ 1 rfl) (HS.at_ 0 rfl) (by omega)) (fun boN bo4 a8S => ?_)
  obtain ⟨a6R,a5t,a6F,a5X,rfl,HS⟩:=a8S
  refine ⟨HS.b0,?_⟩
  refine D1s 10 [.bool a6R,.slice a5t a6F a5X] HS 1 rfl rfl rfl rfl bso (fun _ HS=>⟨(aoq (s:=10) rfl rfl),?_⟩)
  refine JR.next (by kernel_rfl) (fun _ _ h=>h) ?_
  refine JC.draw HS [3] (by kernel_rfl) (fun w16 HS => ?_)
  refine Da (.agg #[.bool s11,.slice A11 n11 c11]) 0 0 rfl HS.b0 rfl rfl bsr bso ?_
  refine D1c 1 rfl rfl rfl bsy (aos HT HB HS  (by omega) (by omega)) (fun boP bo6 a8V => ?_)
  obtain ⟨bnC,bf2,bkY,bhw,rfl,HS⟩:=a8V
  refine ⟨HS.b0,?_⟩
  refine D1c 2 rfl rfl rfl bsE (aN2 HT HB HS (HS.at_ 6 rfl) (HS.at_ 0 rfl) (by omega)) (fun boQ bo7 a8W => ?_)
  obtain ⟨a6S,a5u,a6G,a5Y,rfl,HS⟩:=a8W
  refine ⟨HS.b0,?_⟩
  refine D1s 3 [.bool a6S,.slice a5u a6G a5Y] HS 0 rfl rfl rfl rfl bso (fun _ HS=>⟨(aoq (s:=3) rfl rfl),?_⟩)
  refine JR.a2X (by kernel_rfl) (fun _ _ h=>h) ?_
  refine JC.region ?_
  refine Lv (.int .i64 ((j+1:Nat):Int)) (fun a ha=>azn (ha.ev rfl) (ha.ev rfl) (by rw [IntKind.wrap_i64]; omega)) ?_
  refine Lv (.int .i64 ((j+1:Nat):Int)) (fun a ha=>run_move (ha.ev rfl)) ?_
  exact JL.round ((j+1),a6R,a5t,a6F,a5X,a6S,a5u,a6G,a5Y) (by dsimp only; omega) (akz.out ⟨rfl,rfl,rfl,rfl,rfl,rfl,rfl,rfl,rfl,rfl,rfl,rfl,rfl,rfl,rfl,rfl,rfl,rfl,rfl,rfl,rfl,rfl,rfl,rfl,rfl,rfl,rfl,rfl,rfl,rfl,rfl,rfl,rfl,rfl,rfl,rfl,rfl,rfl,rfl,rfl,rfl,rfl,rfl,rfl,trivial⟩) ⟨by omega,(HS.a4T 0 8 2 0 rfl rfl rfl (fun _ h=>FI.tw h (a5i hb) (aNM hz (.inr trivial) (hdt (j+1) (by omega)) (by omega))) rfl (fun _ h=>FI.tw h (Int.pow_succ _ _).symm (azQ (by omega))))⟩
end
end Go.Proofs.YtbihljnjaondcaaGreatDoor
