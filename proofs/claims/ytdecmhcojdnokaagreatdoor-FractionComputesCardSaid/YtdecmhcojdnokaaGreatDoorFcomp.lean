/- Walk of the law FractionComputes. -/
import Derived.Test.YtdecmhcojdnokaaGreatDoorFawake
import Derived.Test.YtdecmhcojdnokaaGreatDoorFrefv
import Derived.Deep.RegionHeld3
namespace Go.Proofs.YtdecmhcojdnokaaGreatDoor
open Go Go.RowKit Lw
set_option maxRecDepth 100000 in
set_option maxHeartbeats 6000000 in
theorem fcomputes_any (s1 s2 b1 b2 : Bool) (A1 A2 B1 B2 : Option Addr) (n1 n2 c1 c2 m1 m2 d1 d2 k1 k2 : Nat) (q1 q2 : Rat) (w : World) (ht : Tz w) (hb : Tab w) (hx : Mx w)
    (f1 : Fop w ⟨.agg #[.bool s1, .slice A1 n1 c1, .slice B1 m1 d1], q1, k1, b1⟩) (f2 : Fop w ⟨.agg #[.bool s2, .slice A2 n2 c2, .slice B2 m2 d2], q2, k2, b2⟩) :
    Calls Tryz.prog 4 #[.agg #[.bool s1, .slice A1 n1 c1, .slice B1 m1 d1], .agg #[.bool s2, .slice A2 n2 c2, .slice B2 m2 d2]] w fun e w' => e = .returned (.bool true) ∧ Below w.heap.size w w' := by
  have HT := Lib.hid ht
  have HB := Lib.hid hb
  have HX := Lib.hid hx
  have hE0 := fstart2 ht hb f1 f2 (.cells #[.bool s1, .slice A1 n1 c1, .slice B1 m1 d1, .bool s2, .slice A2 n2 c2, .slice B2 m2 d2] 24)
  have hg := heap_alloc_new ((w.alloc (.cells #[.bool s1, .slice A1 n1 c1, .slice B1 m1 d1] 24)).alloc (.cells #[.bool s2, .slice A2 n2 c2, .slice B2 m2 d2] 24)) (.cells #[.bool s1, .slice A1 n1 c1, .slice B1 m1 d1, .bool s2, .slice A2 n2 c2, .slice B2 m2 d2] 24)
  rw [World.size_alloc, World.size_alloc] at hg
  have hs := fun W hg => fshort_any [⟨s1, A1, n1, c1, B1, m1, d1⟩, ⟨s2, A2, n2, c2, B2, m2, d2⟩] (w.heap.size + 1 + 1) 2 24 W hg rfl (by omega)
  have HS := Lib.hid (hs _ hg)
  have HE0 := Lib.hid hE0
  clear hE0 hg hs ht hb hx f1 f2
  go_enter Tryz.func4, Tryz.ntmps4
  go_wp2_with fail
  refine HS.out.mono ?_
  rintro e w1 ⟨rfl, hb1⟩
  have HE1 := Lib.hid (HE0.out.next hb1)
  clear HE0 HS hb1
  cases hf : ffew [⟨s1, A1, n1, c1, B1, m1, d1⟩, ⟨s2, A2, n2, c2, B2, m2, d2⟩]
  · go_wp2_with fail
    refine (fawake_any _ (HT.out.next HE1.out.below) (HB.out.next HE1.out.below) (HX.out.next HE1.out.below)).mono ?_
    rintro e w2 ⟨rfl, hb2⟩
    have hbb := below_next HE1.out.below hb2 (Nat.le_refl _)
    clear HE1 hb2
    go_wp2_with fail
    go_ret
    exact ⟨rfl, hbb⟩
  · have HE2 := Lib.hid (fcut2 HE1.out hf)
    clear hf HE1
    go_wp2_with fail
    refine (fawake_any _ (HT.out.next HE2.out.below) (HB.out.next HE2.out.below) (HX.out.next HE2.out.below)).mono ?_
    rintro e w2 ⟨rfl, hb2⟩
    have HE := HE2.out.next hb2
    clear HE2 hb2 HT HB HX
    by_cases h0 : q2 = 0
    · obtain ⟨q0, q1, q2, q3, q4, q5⟩ := HE.c3 (.head _)
      obtain ⟨q6, q7, q8, q9, q10, q11⟩ := HE.c3 (.tail _ (.head _))
      go_wp2_with fail
      refine (fdivz_v HE (.head _) (.tail _ (.head _)) (by omega) h0).mono ?_
      unfold errV
      clear HE
      rintro e w3 ⟨rfl, HE⟩
      replace HE := (HE.zero 0).box3 (.bool false) (.slice none 0 0) (.slice none 0 0)
      clear q0 q1 q2 q3 q4 q5 q6 q7 q8 q9 q10 q11
      obtain ⟨q12, q13, q14, q15, q16, q17⟩ := HE.c3 (.head _)
      obtain ⟨q18, q19, q20, q21, q22, q23⟩ := HE.c3 (.tail _ (.head _))
      obtain ⟨q24, q25, q26, q27, q28, q29⟩ := HE.c3 (.tail _ (.tail _ (.head _)))
      go_wp2_with fail
      refine (rfdivz_f HE (.tail _ (.head _)) (.tail _ (.tail _ (.head _))) (by omega) h0).mono ?_
      clear HE h0
      rintro e w4 ⟨rfl, HE⟩
      replace HE := HE.box3 (.bool false) (.slice none 0 0) (.slice none 0 0)
      clear q12 q13 q14 q15 q16 q17 q18 q19 q20 q21 q22 q23 q24 q25 q26 q27 q28 q29
      obtain ⟨q30, q31, q32, q33, q34, q35⟩ := HE.c3 (.head _)
      obtain ⟨q36, q37, q38, q39, q40, q41⟩ := HE.c3 (.tail _ (.head _))
      obtain ⟨q42, q43, q44, q45, q46, q47⟩ := HE.c3 (.tail _ (.tail _ (.head _)))
      obtain ⟨q48, q49, q50, q51, q52, q53⟩ := HE.c3 (.tail _ (.tail _ (.tail _ (.head _))))
      go_wp2_with fail
      clear q30 q31 q32 q33 q34 q35 q36 q37 q38 q39 q40 q41 q42 q43 q44 q45 q46 q47 q48 q49 q50 q51 q52 q53
      dsimp only [List.append]
      go_region_held3 (fun w' => w'.cell? ⟨w4.heap.size, 0, none⟩ = some (.bool false) ∧ w'.cell? ⟨w4.heap.size, 1, none⟩ = some (.slice none 0 0) ∧ w'.cell? ⟨w4.heap.size, 2, none⟩ = some (.slice none 0 0) ∧ w'.cell? ⟨w3.heap.size, 0, none⟩ = some (.bool false) ∧ w'.cell? ⟨w3.heap.size, 1, none⟩ = some (.slice none 0 0) ∧ w'.cell? ⟨w3.heap.size, 2, none⟩ = some (.slice none 0 0) ∧ w'.cell? ⟨w.heap.size + 1, 0, none⟩ = some (.bool s2) ∧ w'.cell? ⟨w.heap.size + 1, 1, none⟩ = some (.slice A2 n2 c2) ∧ w'.cell? ⟨w.heap.size + 1, 2, none⟩ = some (.slice B2 m2 d2) ∧ w'.cell? ⟨w.heap.size, 0, none⟩ = some (.bool s1) ∧ w'.cell? ⟨w.heap.size, 1, none⟩ = some (.slice A1 n1 c1) ∧ w'.cell? ⟨w.heap.size, 2, none⟩ = some (.slice B1 m1 d1)) (first | exact ⟨(HE.c3 (.head _)).1, (HE.c3 (.head _)).2.1, (HE.c3 (.head _)).2.2.1, (HE.c3 (.tail _ (.head _))).1, (HE.c3 (.tail _ (.head _))).2.1, (HE.c3 (.tail _ (.head _))).2.2.1, (HE.c3 (.tail _ (.tail _ (.head _)))).1, (HE.c3 (.tail _ (.tail _ (.head _)))).2.1, (HE.c3 (.tail _ (.tail _ (.head _)))).2.2.1, (HE.c3 (.tail _ (.tail _ (.tail _ (.head _))))).1, (HE.c3 (.tail _ (.tail _ (.tail _ (.head _))))).2.1, (HE.c3 (.tail _ (.tail _ (.tail _ (.head _))))).2.2.1⟩ | exact ⟨(HE.drew.c3 (.head _)).1, (HE.drew.c3 (.head _)).2.1, (HE.drew.c3 (.head _)).2.2.1, (HE.drew.c3 (.tail _ (.head _))).1, (HE.drew.c3 (.tail _ (.head _))).2.1, (HE.drew.c3 (.tail _ (.head _))).2.2.1, (HE.drew.c3 (.tail _ (.tail _ (.head _)))).1, (HE.drew.c3 (.tail _ (.tail _ (.head _)))).2.1, (HE.drew.c3 (.tail _ (.tail _ (.head _)))).2.2.1, (HE.drew.c3 (.tail _ (.tail _ (.tail _ (.head _))))).1, (HE.drew.c3 (.tail _ (.tail _ (.tail _ (.head _))))).2.1, (HE.drew.c3 (.tail _ (.tail _ (.tail _ (.head _))))).2.2.1⟩)
        (first
          | (go_at_call 28; refine (fneg_v (by first | exact HE | exact HE.drew) (by repeat (first | exact .head _ | assumption | refine .tail _ ?_)) (by omega)).mono ?_; rintro e wn ⟨u, rfl, HE⟩)
          | (go_at_call 29; refine (rfneg_v (by first | exact HE | exact HE.drew) (by repeat (first | exact .head _ | assumption | refine .tail _ ?_)) (by omega)).mono ?_; rintro e wn ⟨u, rfl, HE⟩)
          | (go_at_call 30; refine (fabs_v (by first | exact HE | exact HE.drew) (by repeat (first | exact .head _ | assumption | refine .tail _ ?_)) (by omega)).mono ?_; rintro e wn ⟨u, rfl, HE⟩)
          | (go_at_call 31; refine (rfabs_v (by first | exact HE | exact HE.drew) (by repeat (first | exact .head _ | assumption | refine .tail _ ?_)) (by omega)).mono ?_; rintro e wn ⟨u, rfl, HE⟩)
          | (go_at_call 32; refine (fsign_v (by first | exact HE | exact HE.drew) (by repeat (first | exact .head _ | assumption | refine .tail _ ?_)) (by omega)).mono ?_; rintro e wn ⟨rfl, HE⟩)
          | (go_at_call 33; refine (rfsign_v (by first | exact HE | exact HE.drew) (by repeat (first | exact .head _ | assumption | refine .tail _ ?_)) (by omega)).mono ?_; rintro e wn ⟨rfl, HE⟩)
          | (go_at_call 34; refine (fadd_v (by first | exact HE | exact HE.drew) (by repeat (first | exact .head _ | assumption | refine .tail _ ?_)) (by repeat (first | exact .head _ | assumption | refine .tail _ ?_)) (by omega)).mono ?_; rintro e wn ⟨u, rfl, HE⟩)
          | (go_at_call 35; refine (rfadd_v (by first | exact HE | exact HE.drew) (by repeat (first | exact .head _ | assumption | refine .tail _ ?_)) (by repeat (first | exact .head _ | assumption | refine .tail _ ?_)) (by omega)).mono ?_; rintro e wn ⟨u, rfl, HE⟩)
          | (go_at_call 36; refine (fsub_v (by first | exact HE | exact HE.drew) (by repeat (first | exact .head _ | assumption | refine .tail _ ?_)) (by repeat (first | exact .head _ | assumption | refine .tail _ ?_)) (by omega)).mono ?_; rintro e wn ⟨u, rfl, HE⟩)
          | (go_at_call 37; refine (rfsub_v (by first | exact HE | exact HE.drew) (by repeat (first | exact .head _ | assumption | refine .tail _ ?_)) (by repeat (first | exact .head _ | assumption | refine .tail _ ?_)) (by omega)).mono ?_; rintro e wn ⟨u, rfl, HE⟩)
          | (go_at_call 38; refine (fmul_v (by first | exact HE | exact HE.drew) (by repeat (first | exact .head _ | assumption | refine .tail _ ?_)) (by repeat (first | exact .head _ | assumption | refine .tail _ ?_)) (by omega)).mono ?_; rintro e wn ⟨u, rfl, HE⟩)
          | (go_at_call 39; refine (rfmul_v (by first | exact HE | exact HE.drew) (by repeat (first | exact .head _ | assumption | refine .tail _ ?_)) (by repeat (first | exact .head _ | assumption | refine .tail _ ?_)) (by omega)).mono ?_; rintro e wn ⟨u, rfl, HE⟩)
          | (go_at_call 42; refine (fmin_v (by first | exact HE | exact HE.drew) (by repeat (first | exact .head _ | assumption | refine .tail _ ?_)) (by repeat (first | exact .head _ | assumption | refine .tail _ ?_)) (by omega)).mono ?_; rintro e wn ⟨u, rfl, HE⟩)
          | (go_at_call 43; refine (rfmin_v (by first | exact HE | exact HE.drew) (by repeat (first | exact .head _ | assumption | refine .tail _ ?_)) (by repeat (first | exact .head _ | assumption | refine .tail _ ?_)) (by omega)).mono ?_; rintro e wn ⟨u, rfl, HE⟩)
          | (go_at_call 44; refine (fmax_v (by first | exact HE | exact HE.drew) (by repeat (first | exact .head _ | assumption | refine .tail _ ?_)) (by repeat (first | exact .head _ | assumption | refine .tail _ ?_)) (by omega)).mono ?_; rintro e wn ⟨u, rfl, HE⟩)
          | (go_at_call 45; refine (rfmax_v (by first | exact HE | exact HE.drew) (by repeat (first | exact .head _ | assumption | refine .tail _ ?_)) (by repeat (first | exact .head _ | assumption | refine .tail _ ?_)) (by omega)).mono ?_; rintro e wn ⟨u, rfl, HE⟩)
          | (go_at_call 40; refine (fcmp_v (by first | exact HE | exact HE.drew) (by repeat (first | exact .head _ | assumption | refine .tail _ ?_)) (by repeat (first | exact .head _ | assumption | refine .tail _ ?_)) (by omega)).mono ?_; rintro e wn ⟨rfl, HE⟩)
          | (go_at_call 41; refine (rfcmp_v (by first | exact HE | exact HE.drew) (by repeat (first | exact .head _ | assumption | refine .tail _ ?_)) (by repeat (first | exact .head _ | assumption | refine .tail _ ?_)) (by omega)).mono ?_; rintro e wn ⟨rfl, HE⟩)
          | (go_at_call 21; refine (fsame_t (by first | exact HE | exact HE.drew) (by repeat (first | exact .head _ | assumption | refine .tail _ ?_)) (by repeat (first | exact .head _ | assumption | refine .tail _ ?_)) (by omega) rfl).mono ?_; rintro e wn ⟨rfl, HE⟩)
          | (go_at_call 24; refine (numerr_any 8 _).mono ?_; rintro e wn ⟨rfl, rfl⟩))
      go_wp2_with fail
      go_ret
      exact ⟨rfl, HE.below⟩
    · obtain ⟨q0, q1, q2, q3, q4, q5⟩ := HE.c3 (.head _)
      obtain ⟨q6, q7, q8, q9, q10, q11⟩ := HE.c3 (.tail _ (.head _))
      go_wp2_with fail
      refine (fdiv_v HE (.head _) (.tail _ (.head _)) (by omega) h0).mono ?_
      clear HE
      rintro e w3 ⟨s3, A3, n3, c3, B3, m3, d3, rfl, HE⟩
      replace HE := HE.box3 (.bool s3) (.slice A3 n3 c3) (.slice B3 m3 d3)
      clear q0 q1 q2 q3 q4 q5 q6 q7 q8 q9 q10 q11
      obtain ⟨q12, q13, q14, q15, q16, q17⟩ := HE.c3 (.head _)
      obtain ⟨q18, q19, q20, q21, q22, q23⟩ := HE.c3 (.tail _ (.head _))
      obtain ⟨q24, q25, q26, q27, q28, q29⟩ := HE.c3 (.tail _ (.tail _ (.head _)))
      go_wp2_with fail
      refine (rfdiv_f HE (.tail _ (.head _)) (.tail _ (.tail _ (.head _))) (by omega) h0).mono ?_
      clear HE h0
      rintro e w4 ⟨s4, A4, n4, c4, B4, m4, d4, rfl, HE⟩
      replace HE := HE.box3 (.bool s4) (.slice A4 n4 c4) (.slice B4 m4 d4)
      clear q12 q13 q14 q15 q16 q17 q18 q19 q20 q21 q22 q23 q24 q25 q26 q27 q28 q29
      obtain ⟨q30, q31, q32, q33, q34, q35⟩ := HE.c3 (.head _)
      obtain ⟨q36, q37, q38, q39, q40, q41⟩ := HE.c3 (.tail _ (.head _))
      obtain ⟨q42, q43, q44, q45, q46, q47⟩ := HE.c3 (.tail _ (.tail _ (.head _)))
      obtain ⟨q48, q49, q50, q51, q52, q53⟩ := HE.c3 (.tail _ (.tail _ (.tail _ (.head _))))
      go_wp2_with fail
      clear q30 q31 q32 q33 q34 q35 q36 q37 q38 q39 q40 q41 q42 q43 q44 q45 q46 q47 q48 q49 q50 q51 q52 q53
      dsimp only [List.append]
      go_region_held3 (fun w' => w'.cell? ⟨w4.heap.size, 0, none⟩ = some (.bool s4) ∧ w'.cell? ⟨w4.heap.size, 1, none⟩ = some (.slice A4 n4 c4) ∧ w'.cell? ⟨w4.heap.size, 2, none⟩ = some (.slice B4 m4 d4) ∧ w'.cell? ⟨w3.heap.size, 0, none⟩ = some (.bool s3) ∧ w'.cell? ⟨w3.heap.size, 1, none⟩ = some (.slice A3 n3 c3) ∧ w'.cell? ⟨w3.heap.size, 2, none⟩ = some (.slice B3 m3 d3) ∧ w'.cell? ⟨w.heap.size + 1, 0, none⟩ = some (.bool s2) ∧ w'.cell? ⟨w.heap.size + 1, 1, none⟩ = some (.slice A2 n2 c2) ∧ w'.cell? ⟨w.heap.size + 1, 2, none⟩ = some (.slice B2 m2 d2) ∧ w'.cell? ⟨w.heap.size, 0, none⟩ = some (.bool s1) ∧ w'.cell? ⟨w.heap.size, 1, none⟩ = some (.slice A1 n1 c1) ∧ w'.cell? ⟨w.heap.size, 2, none⟩ = some (.slice B1 m1 d1)) (first | exact ⟨(HE.c3 (.head _)).1, (HE.c3 (.head _)).2.1, (HE.c3 (.head _)).2.2.1, (HE.c3 (.tail _ (.head _))).1, (HE.c3 (.tail _ (.head _))).2.1, (HE.c3 (.tail _ (.head _))).2.2.1, (HE.c3 (.tail _ (.tail _ (.head _)))).1, (HE.c3 (.tail _ (.tail _ (.head _)))).2.1, (HE.c3 (.tail _ (.tail _ (.head _)))).2.2.1, (HE.c3 (.tail _ (.tail _ (.tail _ (.head _))))).1, (HE.c3 (.tail _ (.tail _ (.tail _ (.head _))))).2.1, (HE.c3 (.tail _ (.tail _ (.tail _ (.head _))))).2.2.1⟩ | exact ⟨(HE.drew.c3 (.head _)).1, (HE.drew.c3 (.head _)).2.1, (HE.drew.c3 (.head _)).2.2.1, (HE.drew.c3 (.tail _ (.head _))).1, (HE.drew.c3 (.tail _ (.head _))).2.1, (HE.drew.c3 (.tail _ (.head _))).2.2.1, (HE.drew.c3 (.tail _ (.tail _ (.head _)))).1, (HE.drew.c3 (.tail _ (.tail _ (.head _)))).2.1, (HE.drew.c3 (.tail _ (.tail _ (.head _)))).2.2.1, (HE.drew.c3 (.tail _ (.tail _ (.tail _ (.head _))))).1, (HE.drew.c3 (.tail _ (.tail _ (.tail _ (.head _))))).2.1, (HE.drew.c3 (.tail _ (.tail _ (.tail _ (.head _))))).2.2.1⟩)
        (first
          | (go_at_call 28; refine (fneg_v (by first | exact HE | exact HE.drew) (by repeat (first | exact .head _ | assumption | refine .tail _ ?_)) (by omega)).mono ?_; rintro e wn ⟨u, rfl, HE⟩)
          | (go_at_call 29; refine (rfneg_v (by first | exact HE | exact HE.drew) (by repeat (first | exact .head _ | assumption | refine .tail _ ?_)) (by omega)).mono ?_; rintro e wn ⟨u, rfl, HE⟩)
          | (go_at_call 30; refine (fabs_v (by first | exact HE | exact HE.drew) (by repeat (first | exact .head _ | assumption | refine .tail _ ?_)) (by omega)).mono ?_; rintro e wn ⟨u, rfl, HE⟩)
          | (go_at_call 31; refine (rfabs_v (by first | exact HE | exact HE.drew) (by repeat (first | exact .head _ | assumption | refine .tail _ ?_)) (by omega)).mono ?_; rintro e wn ⟨u, rfl, HE⟩)
          | (go_at_call 32; refine (fsign_v (by first | exact HE | exact HE.drew) (by repeat (first | exact .head _ | assumption | refine .tail _ ?_)) (by omega)).mono ?_; rintro e wn ⟨rfl, HE⟩)
          | (go_at_call 33; refine (rfsign_v (by first | exact HE | exact HE.drew) (by repeat (first | exact .head _ | assumption | refine .tail _ ?_)) (by omega)).mono ?_; rintro e wn ⟨rfl, HE⟩)
          | (go_at_call 34; refine (fadd_v (by first | exact HE | exact HE.drew) (by repeat (first | exact .head _ | assumption | refine .tail _ ?_)) (by repeat (first | exact .head _ | assumption | refine .tail _ ?_)) (by omega)).mono ?_; rintro e wn ⟨u, rfl, HE⟩)
          | (go_at_call 35; refine (rfadd_v (by first | exact HE | exact HE.drew) (by repeat (first | exact .head _ | assumption | refine .tail _ ?_)) (by repeat (first | exact .head _ | assumption | refine .tail _ ?_)) (by omega)).mono ?_; rintro e wn ⟨u, rfl, HE⟩)
          | (go_at_call 36; refine (fsub_v (by first | exact HE | exact HE.drew) (by repeat (first | exact .head _ | assumption | refine .tail _ ?_)) (by repeat (first | exact .head _ | assumption | refine .tail _ ?_)) (by omega)).mono ?_; rintro e wn ⟨u, rfl, HE⟩)
          | (go_at_call 37; refine (rfsub_v (by first | exact HE | exact HE.drew) (by repeat (first | exact .head _ | assumption | refine .tail _ ?_)) (by repeat (first | exact .head _ | assumption | refine .tail _ ?_)) (by omega)).mono ?_; rintro e wn ⟨u, rfl, HE⟩)
          | (go_at_call 38; refine (fmul_v (by first | exact HE | exact HE.drew) (by repeat (first | exact .head _ | assumption | refine .tail _ ?_)) (by repeat (first | exact .head _ | assumption | refine .tail _ ?_)) (by omega)).mono ?_; rintro e wn ⟨u, rfl, HE⟩)
          | (go_at_call 39; refine (rfmul_v (by first | exact HE | exact HE.drew) (by repeat (first | exact .head _ | assumption | refine .tail _ ?_)) (by repeat (first | exact .head _ | assumption | refine .tail _ ?_)) (by omega)).mono ?_; rintro e wn ⟨u, rfl, HE⟩)
          | (go_at_call 42; refine (fmin_v (by first | exact HE | exact HE.drew) (by repeat (first | exact .head _ | assumption | refine .tail _ ?_)) (by repeat (first | exact .head _ | assumption | refine .tail _ ?_)) (by omega)).mono ?_; rintro e wn ⟨u, rfl, HE⟩)
          | (go_at_call 43; refine (rfmin_v (by first | exact HE | exact HE.drew) (by repeat (first | exact .head _ | assumption | refine .tail _ ?_)) (by repeat (first | exact .head _ | assumption | refine .tail _ ?_)) (by omega)).mono ?_; rintro e wn ⟨u, rfl, HE⟩)
          | (go_at_call 44; refine (fmax_v (by first | exact HE | exact HE.drew) (by repeat (first | exact .head _ | assumption | refine .tail _ ?_)) (by repeat (first | exact .head _ | assumption | refine .tail _ ?_)) (by omega)).mono ?_; rintro e wn ⟨u, rfl, HE⟩)
          | (go_at_call 45; refine (rfmax_v (by first | exact HE | exact HE.drew) (by repeat (first | exact .head _ | assumption | refine .tail _ ?_)) (by repeat (first | exact .head _ | assumption | refine .tail _ ?_)) (by omega)).mono ?_; rintro e wn ⟨u, rfl, HE⟩)
          | (go_at_call 40; refine (fcmp_v (by first | exact HE | exact HE.drew) (by repeat (first | exact .head _ | assumption | refine .tail _ ?_)) (by repeat (first | exact .head _ | assumption | refine .tail _ ?_)) (by omega)).mono ?_; rintro e wn ⟨rfl, HE⟩)
          | (go_at_call 41; refine (rfcmp_v (by first | exact HE | exact HE.drew) (by repeat (first | exact .head _ | assumption | refine .tail _ ?_)) (by repeat (first | exact .head _ | assumption | refine .tail _ ?_)) (by omega)).mono ?_; rintro e wn ⟨rfl, HE⟩)
          | (go_at_call 21; refine (fsame_t (by first | exact HE | exact HE.drew) (by repeat (first | exact .head _ | assumption | refine .tail _ ?_)) (by repeat (first | exact .head _ | assumption | refine .tail _ ?_)) (by omega) rfl).mono ?_; rintro e wn ⟨rfl, HE⟩)
          | (go_at_call 24; refine (numnil_any _).mono ?_; rintro e wn ⟨rfl, rfl⟩))
      go_wp2_with fail
      go_ret
      exact ⟨rfl, HE.below⟩
end Go.Proofs.YtdecmhcojdnokaaGreatDoor
