/- Walk of the law FractionReturns. -/
import Derived.Test.YtdecmhcojdnokaaGreatDoorFawake
import Derived.Test.YtdecmhcojdnokaaGreatDoorFrts
import Derived.Test.YtdecmhcojdnokaaGreatDoorFback
import Derived.Deep.RegionHeld3
namespace Go.Proofs.YtdecmhcojdnokaaGreatDoor
open Go Go.RowKit Lw
set_option maxRecDepth 100000 in
set_option maxHeartbeats 6000000 in
theorem freturns_any (s1 b1 : Bool) (A1 B1 : Option Addr) (n1 c1 m1 d1 k1 : Nat) (q1 : Rat) (w : World) (ht : Tz w) (hb : Tab w) (hx : Mx w)
    (f1 : Fop w ⟨.agg #[.bool s1, .slice A1 n1 c1, .slice B1 m1 d1], q1, k1, b1⟩) :
    Calls Tryz.prog 10 #[.agg #[.bool s1, .slice A1 n1 c1, .slice B1 m1 d1]] w fun e w' => e = .returned (.bool true) ∧ Below w.heap.size w w' := by
  have HT := Lib.hid ht
  have HB := Lib.hid hb
  have HX := Lib.hid hx
  have hE0 := fstart1 ht hb f1 (.cells #[.bool s1, .slice A1 n1 c1, .slice B1 m1 d1] 24)
  have hg := heap_alloc_new (w.alloc (.cells #[.bool s1, .slice A1 n1 c1, .slice B1 m1 d1] 24)) (.cells #[.bool s1, .slice A1 n1 c1, .slice B1 m1 d1] 24)
  rw [World.size_alloc] at hg
  have hs := fun W hg => fshort_any [⟨s1, A1, n1, c1, B1, m1, d1⟩] (w.heap.size + 1) 1 24 W hg rfl (by omega)
  have HS := Lib.hid (hs _ hg)
  have HE0 := Lib.hid hE0
  clear hE0 hg hs ht hb hx f1
  go_enter Tryz.func10, Tryz.ntmps10
  go_wp2_with fail
  refine HS.out.mono ?_
  rintro e w1 ⟨rfl, hb1⟩
  have HE1 := Lib.hid (HE0.out.next hb1)
  clear HE0 HS hb1
  cases hf : ffew [⟨s1, A1, n1, c1, B1, m1, d1⟩]
  · go_wp2_with fail
    refine (fawake_any _ (HT.out.next HE1.out.below) (HB.out.next HE1.out.below) (HX.out.next HE1.out.below)).mono ?_
    rintro e w2 ⟨rfl, hb2⟩
    have hbb := below_next HE1.out.below hb2 (Nat.le_refl _)
    clear HE1 hb2
    go_wp2_with fail
    go_ret
    exact ⟨rfl, hbb⟩
  · have HE2 := Lib.hid (fcut1 HE1.out hf)
    clear hf HE1
    go_wp2_with fail
    refine (fawake_any _ (HT.out.next HE2.out.below) (HB.out.next HE2.out.below) (HX.out.next HE2.out.below)).mono ?_
    rintro e w2 ⟨rfl, hb2⟩
    have HE := HE2.out.next hb2
    clear HE2 hb2 HT HB
    have HK := Lib.hid (known_lt HE (.head _))
    have C1 := Lib.hid (show cmpQ q1 q1 = 0 from cmpQ_zero.2 rfl)
    have HD := Lib.hid (show (0 : Int) < (q1.den : Int) by have := q1.den_pos; omega)
    obtain ⟨q0, q1, q2, q3, q4, q5⟩ := HE.c3 (.head _)
    go_wp2_with fail
    refine (ftext_v HE (.head _) (by omega)).mono ?_
    clear HE
    rintro e w3 ⟨rfl, HE⟩
    clear q0 q1 q2 q3 q4 q5
    have hx := HX.out.next HE.below
    clear HX
    go_wp2_with fail
    refine (fparse_f (K := 13) HE hx (Nat.lt_of_lt_of_le HK.out.1 (pw_le (by omega))) HK.out.2 (by omega)).mono ?_
    clear HE hx HK
    rintro e w4 ⟨s2, A2, n2, c2, B2, m2, d2, rfl, HE⟩
    replace HE := HE.box3 (.bool s2) (.slice A2 n2 c2) (.slice B2 m2 d2)
    obtain ⟨q6, q7, q8, q9, q10, q11⟩ := HE.c3 (.tail _ (.head _))
    go_wp2_with fail
    refine (fparts_v HE (.tail _ (.head _)) (by omega)).mono ?_
    clear HE
    rintro e w5 ⟨s3, A3, n3, c3, s4, A4, n4, c4, rfl, HE⟩
    replace HE := (HE.box2 (.bool s3) (.slice A3 n3 c3)).box2 (.bool s4) (.slice A4 n4 c4)
    simp only [World.size_alloc] at HE
    clear q6 q7 q8 q9 q10 q11
    obtain ⟨q12, q13, q14, q15⟩ := HE.c2 (.head _)
    obtain ⟨q16, q17, q18, q19⟩ := HE.c2 (.tail _ (.head _))
    go_wp2_with fail
    refine (frompos_f HE (.head _) (.tail _ (.head _)) (by omega) HD.out).mono ?_
    rw [Rat.num_divInt_den]
    clear HE
    rintro e w6 ⟨s5, A5, n5, c5, B5, m5, d5, rfl, HE⟩
    replace HE := HE.box3 (.bool s5) (.slice A5 n5 c5) (.slice B5 m5 d5)
    clear q12 q13 q14 q15 q16 q17 q18 q19
    obtain ⟨q20, q21, q22, q23, q24, q25⟩ := HE.c3 (.head _)
    obtain ⟨q26, q27, q28, q29, q30, q31⟩ := HE.c3 (.tail _ (.head _))
    obtain ⟨q32, q33, q34, q35, q36, q37⟩ := HE.c3 (.tail _ (.tail _ (.head _)))
    go_wp2_with fail
    refine (fvalid_v HE (.tail _ (.head _)) (by omega)).mono ?_
    clear HE
    rintro e w7 ⟨rfl, HE⟩
    clear q20 q21 q22 q23 q24 q25 q26 q27 q28 q29 q30 q31 q32 q33 q34 q35 q36 q37
    obtain ⟨q38, q39, q40, q41, q42, q43⟩ := HE.c3 (.head _)
    obtain ⟨q44, q45, q46, q47, q48, q49⟩ := HE.c3 (.tail _ (.head _))
    obtain ⟨q50, q51, q52, q53, q54, q55⟩ := HE.c3 (.tail _ (.tail _ (.head _)))
    go_wp2_with fail
    refine (fcmp_v HE (.tail _ (.head _)) (.tail _ (.tail _ (.head _))) (by omega)).mono ?_
    rw [C1.out]
    clear HE
    rintro e w8 ⟨rfl, HE⟩
    clear q38 q39 q40 q41 q42 q43 q44 q45 q46 q47 q48 q49 q50 q51 q52 q53 q54 q55
    obtain ⟨q56, q57, q58, q59, q60, q61⟩ := HE.c3 (.head _)
    obtain ⟨q62, q63, q64, q65, q66, q67⟩ := HE.c3 (.tail _ (.head _))
    obtain ⟨q68, q69, q70, q71, q72, q73⟩ := HE.c3 (.tail _ (.tail _ (.head _)))
    go_wp2_with fail
    refine (fsame_t HE (.tail _ (.head _)) (.head _) (by omega) rfl).mono ?_
    clear HE
    rintro e w9 ⟨rfl, HE⟩
    clear q56 q57 q58 q59 q60 q61 q62 q63 q64 q65 q66 q67 q68 q69 q70 q71 q72 q73
    go_wp2_with fail
    go_ret
    exact ⟨rfl, HE.below⟩
end Go.Proofs.YtdecmhcojdnokaaGreatDoor
