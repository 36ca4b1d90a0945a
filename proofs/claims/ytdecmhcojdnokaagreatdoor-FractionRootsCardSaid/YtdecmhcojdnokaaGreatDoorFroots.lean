/- Walk of the law FractionRoots. -/
import Derived.Test.YtdecmhcojdnokaaGreatDoorFawake
import Derived.Test.YtdecmhcojdnokaaGreatDoorFrts
import Derived.Test.YtdecmhcojdnokaaGreatDoorFq
import Derived.Deep.RegionWith
import Derived.Deep.DeepCutAuto
import Derived.Deep.RegionHeld3
namespace Go.Proofs.YtdecmhcojdnokaaGreatDoor
open Go Go.RowKit Lw
set_option maxRecDepth 100000 in
set_option maxHeartbeats 6000000 in
theorem froots_any (s1 b1 : Bool) (A1 B1 : Option Addr) (n1 c1 m1 d1 k1 : Nat) (q1 : Rat) (z2 : Int) (w : World) (ht : Tz w) (hb : Tab w) (hx : Mx w)
    (f1 : Fop w ⟨.agg #[.bool s1, .slice A1 n1 c1, .slice B1 m1 d1], q1, k1, b1⟩) (hz : (Lit.int .u8 z2).wf = true) :
    Calls Tryz.prog 9 #[.agg #[.bool s1, .slice A1 n1 c1, .slice B1 m1 d1], .int .u8 z2] w fun e w' => e = .returned (.bool true) ∧ Below w.heap.size w w' := by
  have HT := Lib.hid ht
  have HB := Lib.hid hb
  have HX := Lib.hid hx
  have hz' : 0 ≤ z2 ∧ z2 ≤ 255 := by
    have h2 : IntKind.u8.min ≤ z2 ∧ z2 ≤ IntKind.u8.max := by simpa [Lit.wf] using hz
    have e1 : IntKind.u8.min = 0 := by decide
    have e2 : IntKind.u8.max = 255 := by decide
    rw [e1, e2] at h2
    exact h2
  obtain ⟨zn, rfl⟩ : ∃ zn : Nat, z2 = (zn : Int) := ⟨z2.toNat, by omega⟩
  obtain ⟨m, hm⟩ : ∃ m : Nat, m = zn % 60 := ⟨_, rfl⟩
  obtain ⟨P, hP⟩ : ∃ P : Nat, P = 2 ^ m := ⟨_, rfl⟩
  have hP1 : 0 < P := by rw [hP]; exact Nat.pow_pos (by omega)
  have hP2 : P ≤ 576460752303423488 := by
    have h1 : 2 ^ m ≤ 2 ^ 59 := Nat.pow_le_pow_right (by omega) (by omega)
    omega
  have dd1 : (zn : Int) % 60 = (m : Int) := by omega
  have dd2 : (zn : Int).tmod 60 = (m : Int) := by rw [Int.tmod_eq_emod_of_nonneg (by omega)]; exact dd1
  have dd3 : IntKind.u8.wrap (m : Int) = (m : Int) := by rw [IntKind.wrap_u8]; omega
  have dd4 : IntKind.i64.wrap (m : Int) = (m : Int) := w64 (by omega) (by omega)
  have dd5 : (2 : Int) ^ m = (P : Int) := by rw [hP]; exact (Int.natCast_pow 2 m).symm
  have dd6 : IntKind.i64.wrap (P : Int) = (P : Int) := w64 (by omega) (by omega)
  have hm59 : m ≤ 59 := by omega
  have PQ := Lib.hid (show ((2 ^ m : Nat) : Int) = (P : Int) by rw [hP])
  have PP := Lib.hid (show 0 < P ∧ P ≤ 576460752303423488 from ⟨hP1, hP2⟩)
  clear hz hz' hm hP hP1 hP2
  have hE0 := fstart1 ht hb f1 (.cells #[.bool s1, .slice A1 n1 c1, .slice B1 m1 d1] 24)
  have hg := heap_alloc_new (w.alloc (.cells #[.bool s1, .slice A1 n1 c1, .slice B1 m1 d1] 24)) (.cells #[.bool s1, .slice A1 n1 c1, .slice B1 m1 d1] 24)
  rw [World.size_alloc] at hg
  have hs := fun W hg => fshort_any [⟨s1, A1, n1, c1, B1, m1, d1⟩] (w.heap.size + 1) 1 24 W hg rfl (by omega)
  have HS := Lib.hid (hs _ hg)
  have HE0 := Lib.hid hE0
  clear hE0 hg hs ht hb hx f1
  go_enter Tryz.func9, Tryz.ntmps9
  go_wp2_with fail
  refine HS.out.mono ?_
  rintro e w1 ⟨rfl, hb1⟩
  have HE1 := Lib.hid (HE0.out.next hb1)
  clear HE0 HS hb1
  cases hf : ffew [⟨s1, A1, n1, c1, B1, m1, d1⟩]
  · go_wp2_with fail
    refine (fawake_any _ (HT.out.next HE1.out.below) (HB.out.next HE1.out.below) (HX.out.next HE1.out.below)).mono ?_
    rintro e w2 ⟨rfl, hb2⟩
    have hbb := below_next HE1.out.below hb2 (Nat.le_refl _)
    clear HE1 hb2
    go_wp2_with fail
    go_ret
    exact ⟨rfl, hbb⟩
  · have HE2 := Lib.hid (fcut1 HE1.out hf)
    clear hf HE1
    go_wp2_with fail
    refine (fawake_any _ (HT.out.next HE2.out.below) (HB.out.next HE2.out.below) (HX.out.next HE2.out.below)).mono ?_
    rintro e w2 ⟨rfl, hb2⟩
    have HE := HE2.out.next hb2
    clear HE2 hb2 HT HB HX
    have GF := Lib.hid (roots_facts q1 (P := P) (by have := PP.out; omega))
    have C0 := Lib.hid (show cmpQ (absQ q1) (absQ q1) = 0 from cmpQ_zero.2 rfl)
    have C1 := Lib.hid (show cmpQ q1 q1 = 0 from cmpQ_zero.2 rfl)
    obtain ⟨q0, q1, q2, q3, q4, q5⟩ := HE.c3 (.head _)
    go_wp2_with fail
    refine (fmul_v HE (.head _) (.head _) (by omega)).mono ?_
    clear HE
    rintro e w3 ⟨u, rfl, HE⟩
    clear q0 q1 q2 q3 q4 q5
    go_wp2_with fail
    refine (froot_sqv HE (.head _) (by omega)).mono ?_
    clear HE
    rintro e w4 ⟨s2, A2, n2, c2, B2, m2, d2, rfl, HE⟩
    replace HE := HE.box3 (.bool s2) (.slice A2 n2 c2) (.slice B2 m2 d2)
    obtain ⟨q6, q7, q8, q9, q10, q11⟩ := HE.c3 (.head _)
    obtain ⟨q12, q13, q14, q15, q16, q17⟩ := HE.c3 (.tail _ (.head _))
    go_wp2_with fail
    clear q6 q7 q8 q9 q10 q11 q12 q13 q14 q15 q16 q17
    go_region_held3 (fun w' => w'.cell? ⟨w4.heap.size, 0, none⟩ = some (.bool s2) ∧ w'.cell? ⟨w4.heap.size, 1, none⟩ = some (.slice A2 n2 c2) ∧ w'.cell? ⟨w4.heap.size, 2, none⟩ = some (.slice B2 m2 d2) ∧ w'.cell? ⟨w.heap.size, 0, none⟩ = some (.bool s1) ∧ w'.cell? ⟨w.heap.size, 1, none⟩ = some (.slice A1 n1 c1) ∧ w'.cell? ⟨w.heap.size, 2, none⟩ = some (.slice B1 m1 d1)) (first | exact ⟨(HE.c3 (.head _)).1, (HE.c3 (.head _)).2.1, (HE.c3 (.head _)).2.2.1, (HE.c3 (.tail _ (.head _))).1, (HE.c3 (.tail _ (.head _))).2.1, (HE.c3 (.tail _ (.head _))).2.2.1⟩ | exact ⟨(HE.drew.c3 (.head _)).1, (HE.drew.c3 (.head _)).2.1, (HE.drew.c3 (.head _)).2.2.1, (HE.drew.c3 (.tail _ (.head _))).1, (HE.drew.c3 (.tail _ (.head _))).2.1, (HE.drew.c3 (.tail _ (.head _))).2.2.1⟩)
      (first
        | (go_at_call 30; refine (fabs_v (by first | exact HE | exact HE.drew) (by first | exact .head _ | exact .tail _ (.head _) | exact .tail _ (.tail _ (.head _)) | exact .tail _ (.tail _ (.tail _ (.head _))) | exact .tail _ (.tail _ (.tail _ (.tail _ (.head _)))) | exact .tail _ (.tail _ (.tail _ (.tail _ (.tail _ (.head _))))) | exact .tail _ (.tail _ (.tail _ (.tail _ (.tail _ (.tail _ (.head _)))))) | exact .tail _ (.tail _ (.tail _ (.tail _ (.tail _ (.tail _ (.tail _ (.head _))))))) | exact .tail _ (.tail _ (.tail _ (.tail _ (.tail _ (.tail _ (.tail _ (.tail _ (.head _)))))))) | exact .tail _ (.tail _ (.tail _ (.tail _ (.tail _ (.tail _ (.tail _ (.tail _ (.tail _ (.head _))))))))) | exact .tail _ (.tail _ (.tail _ (.tail _ (.tail _ (.tail _ (.tail _ (.tail _ (.tail _ (.tail _ (.head _)))))))))) | exact .tail _ (.tail _ (.tail _ (.tail _ (.tail _ (.tail _ (.tail _ (.tail _ (.tail _ (.tail _ (.tail _ (.head _))))))))))) | exact .tail _ (.tail _ (.tail _ (.tail _ (.tail _ (.tail _ (.tail _ (.tail _ (.tail _ (.tail _ (.tail _ (.tail _ (.head _)))))))))))) | exact .tail _ (.tail _ (.tail _ (.tail _ (.tail _ (.tail _ (.tail _ (.tail _ (.tail _ (.tail _ (.tail _ (.tail _ (.tail _ (.head _)))))))))))))) (by omega)).mono ?_; rintro e wn ⟨u, rfl, HE⟩)
        | (go_at_call 40; refine (fcmp_v (by first | exact HE | exact HE.drew) (by first | exact .head _ | exact .tail _ (.head _) | exact .tail _ (.tail _ (.head _)) | exact .tail _ (.tail _ (.tail _ (.head _))) | exact .tail _ (.tail _ (.tail _ (.tail _ (.head _)))) | exact .tail _ (.tail _ (.tail _ (.tail _ (.tail _ (.head _))))) | exact .tail _ (.tail _ (.tail _ (.tail _ (.tail _ (.tail _ (.head _)))))) | exact .tail _ (.tail _ (.tail _ (.tail _ (.tail _ (.tail _ (.tail _ (.head _))))))) | exact .tail _ (.tail _ (.tail _ (.tail _ (.tail _ (.tail _ (.tail _ (.tail _ (.head _)))))))) | exact .tail _ (.tail _ (.tail _ (.tail _ (.tail _ (.tail _ (.tail _ (.tail _ (.tail _ (.head _))))))))) | exact .tail _ (.tail _ (.tail _ (.tail _ (.tail _ (.tail _ (.tail _ (.tail _ (.tail _ (.tail _ (.head _)))))))))) | exact .tail _ (.tail _ (.tail _ (.tail _ (.tail _ (.tail _ (.tail _ (.tail _ (.tail _ (.tail _ (.tail _ (.head _))))))))))) | exact .tail _ (.tail _ (.tail _ (.tail _ (.tail _ (.tail _ (.tail _ (.tail _ (.tail _ (.tail _ (.tail _ (.tail _ (.head _)))))))))))) | exact .tail _ (.tail _ (.tail _ (.tail _ (.tail _ (.tail _ (.tail _ (.tail _ (.tail _ (.tail _ (.tail _ (.tail _ (.tail _ (.head _)))))))))))))) (by first | exact .head _ | exact .tail _ (.head _) | exact .tail _ (.tail _ (.head _)) | exact .tail _ (.tail _ (.tail _ (.head _))) | exact .tail _ (.tail _ (.tail _ (.tail _ (.head _)))) | exact .tail _ (.tail _ (.tail _ (.tail _ (.tail _ (.head _))))) | exact .tail _ (.tail _ (.tail _ (.tail _ (.tail _ (.tail _ (.head _)))))) | exact .tail _ (.tail _ (.tail _ (.tail _ (.tail _ (.tail _ (.tail _ (.head _))))))) | exact .tail _ (.tail _ (.tail _ (.tail _ (.tail _ (.tail _ (.tail _ (.tail _ (.head _)))))))) | exact .tail _ (.tail _ (.tail _ (.tail _ (.tail _ (.tail _ (.tail _ (.tail _ (.tail _ (.head _))))))))) | exact .tail _ (.tail _ (.tail _ (.tail _ (.tail _ (.tail _ (.tail _ (.tail _ (.tail _ (.tail _ (.head _)))))))))) | exact .tail _ (.tail _ (.tail _ (.tail _ (.tail _ (.tail _ (.tail _ (.tail _ (.tail _ (.tail _ (.tail _ (.head _))))))))))) | exact .tail _ (.tail _ (.tail _ (.tail _ (.tail _ (.tail _ (.tail _ (.tail _ (.tail _ (.tail _ (.tail _ (.tail _ (.head _)))))))))))) | exact .tail _ (.tail _ (.tail _ (.tail _ (.tail _ (.tail _ (.tail _ (.tail _ (.tail _ (.tail _ (.tail _ (.tail _ (.tail _ (.head _)))))))))))))) (by omega)).mono ?_; rintro e wn ⟨rfl, HE⟩; rw [C0.out]))
    obtain ⟨q18, q19, q20, q21, q22, q23⟩ := HE.c3 (.tail _ (.head _))
    go_wp2_with fail
    refine (froot_anyv HE (.tail _ (.tail _ (.tail _ (.head _)))) (by omega)).mono ?_
    clear HE
    rintro e w5 ⟨s3, A3, n3, c3, B3, m3, d3, ok, r, rfl, hr, HE⟩
    replace HE := HE.box3 (.bool s3) (.slice A3 n3 c3) (.slice B3 m3 d3)
    clear q18 q19 q20 q21 q22 q23
    rcases hr with hr | ⟨rfl, rfl⟩
    · obtain ⟨rfl, hr1, hr2⟩ := hr
      have hr := And.intro trivial (And.intro hr1 hr2)
      clear hr1 hr2
      have hs0 : decide (sgQ r < 0) = false := sgQ_nonneg hr.2.2
      have R1 := Lib.hid hr.2.1
      clear hr
      clear C0
      replace HE := HE.pick (L' := []) (M' := [⟨.agg #[.bool s3, .slice A3 n3 c3, .slice B3 m3 d3], r, 12 + 2 + (12 + 2), true⟩, ⟨.agg #[.bool s1, .slice A1 n1 c1, .slice B1 m1 d1], q1, 12, b1⟩]) (fun _ he => by simp at he) (fun _ he => by rcases List.mem_cons.1 he with rfl | he; exact .head _; rcases List.mem_cons.1 he with rfl | he; exact .tail _ (.tail _ (.tail _ (.tail _ (.head _)))); simp at he)
      obtain ⟨q24, q25, q26, q27, q28, q29⟩ := HE.c3 (.head _)
      obtain ⟨q30, q31, q32, q33, q34, q35⟩ := HE.c3 (.tail _ (.tail _ (.head _)))
      go_wp2_with fail
      clear q24 q25 q26 q27 q28 q29 q30 q31 q32 q33 q34 q35
      refine wp_region_held_drew (S := (fun w' => w'.cell? ⟨w5.heap.size, 0, none⟩ = some (.bool s3) ∧ w'.cell? ⟨w5.heap.size, 1, none⟩ = some (.slice A3 n3 c3) ∧ w'.cell? ⟨w5.heap.size, 2, none⟩ = some (.slice B3 m3 d3) ∧ w'.cell? ⟨w.heap.size, 0, none⟩ = some (.bool s1) ∧ w'.cell? ⟨w.heap.size, 1, none⟩ = some (.slice A1 n1 c1) ∧ w'.cell? ⟨w.heap.size, 2, none⟩ = some (.slice B1 m1 d1))) (by kernel_rfl) (by first | exact ⟨(HE.c3 (.head _)).1, (HE.c3 (.head _)).2.1, (HE.c3 (.head _)).2.2.1, (HE.c3 (.tail _ (.tail _ (.head _)))).1, (HE.c3 (.tail _ (.tail _ (.head _)))).2.1, (HE.c3 (.tail _ (.tail _ (.head _)))).2.2.1⟩ | exact ⟨(HE.drew.c3 (.head _)).1, (HE.drew.c3 (.head _)).2.1, (HE.drew.c3 (.head _)).2.2.1, (HE.drew.c3 (.tail _ (.tail _ (.head _)))).1, (HE.drew.c3 (.tail _ (.tail _ (.head _)))).2.1, (HE.drew.c3 (.tail _ (.tail _ (.head _)))).2.2.1⟩) (fun hHeld => ?_)
      refine wpAnyH_take (i := 0) (oi := ?oi1) (v := ?vv1) ?hoi1 (by kernel_rfl) (by kernel_rfl) (by kernel_rfl) ?hq1 (Or.inl ⟨?hw1, ?hy1⟩) (by assumption) ?rest1
      case hoi1 => (simp only [List.getElem?_toArray, List.getElem?_cons_zero]; rfl)
      case hq1 => exact fun _ _ _ h => h
      case hw1 => rfl
      case hy1 => (intro w hSw; (try dsimp only at hSw); go_simp; try with_reducible rfl)
      (try simp only [Act.put, List.setIfInBounds_toArray, List.set_cons_zero, List.set_cons_succ])
      refine wpAnyH_take (i := 1) (oi := ?oi2) (v := ?vv2) ?hoi2 (by kernel_rfl) (by kernel_rfl) (by kernel_rfl) ?hq2 (Or.inl ⟨?hw2, ?hy2⟩) (by assumption) ?rest2
      case hoi2 => (simp only [List.getElem?_toArray, List.getElem?_cons_succ, List.getElem?_cons_zero]; rfl)
      case hq2 => exact fun _ _ _ h => h
      case hw2 => rfl
      case hy2 => (intro w hSw; (try dsimp only at hSw); go_simp; try with_reducible rfl)
      (try simp only [Act.put, List.setIfInBounds_toArray, List.set_cons_zero, List.set_cons_succ])
      refine wpAnyH_take (i := 2) (oi := ?oi3) (v := ?vv3) ?hoi3 (by kernel_rfl) (by kernel_rfl) (by kernel_rfl) ?hq3 (Or.inl ⟨?hw3, ?hy3⟩) (by assumption) ?rest3
      case hoi3 => (simp only [List.getElem?_toArray, List.getElem?_cons_succ, List.getElem?_cons_zero]; rfl)
      case hq3 => exact fun _ _ _ h => h
      case hw3 => rfl
      case hy3 => (intro w hSw; (try dsimp only at hSw); go_simp; try with_reducible rfl)
      (try simp only [Act.put, List.setIfInBounds_toArray, List.set_cons_zero, List.set_cons_succ])
      refine wpAnyH_ready (rs := [3]) (by kernel_rfl) (by simp) ?_
      refine AllReadyH.cons rfl (fun K hK => ?_) AllReadyH.nil
      go_simp
      (first
        | (go_at_call 32; refine (fsign_v (by first | exact HE | exact HE.drew) (by first | exact .head _ | exact .tail _ (.head _) | exact .tail _ (.tail _ (.head _)) | exact .tail _ (.tail _ (.tail _ (.head _))) | exact .tail _ (.tail _ (.tail _ (.tail _ (.head _)))) | exact .tail _ (.tail _ (.tail _ (.tail _ (.tail _ (.head _))))) | exact .tail _ (.tail _ (.tail _ (.tail _ (.tail _ (.tail _ (.head _)))))) | exact .tail _ (.tail _ (.tail _ (.tail _ (.tail _ (.tail _ (.tail _ (.head _))))))) | exact .tail _ (.tail _ (.tail _ (.tail _ (.tail _ (.tail _ (.tail _ (.tail _ (.head _)))))))) | exact .tail _ (.tail _ (.tail _ (.tail _ (.tail _ (.tail _ (.tail _ (.tail _ (.tail _ (.head _))))))))) | exact .tail _ (.tail _ (.tail _ (.tail _ (.tail _ (.tail _ (.tail _ (.tail _ (.tail _ (.tail _ (.head _)))))))))) | exact .tail _ (.tail _ (.tail _ (.tail _ (.tail _ (.tail _ (.tail _ (.tail _ (.tail _ (.tail _ (.tail _ (.head _))))))))))) | exact .tail _ (.tail _ (.tail _ (.tail _ (.tail _ (.tail _ (.tail _ (.tail _ (.tail _ (.tail _ (.tail _ (.tail _ (.head _)))))))))))) | exact .tail _ (.tail _ (.tail _ (.tail _ (.tail _ (.tail _ (.tail _ (.tail _ (.tail _ (.tail _ (.tail _ (.tail _ (.tail _ (.head _)))))))))))))) (by omega)).mono ?_; rintro e wn ⟨rfl, HE⟩)
        | (go_at_call 38; refine (fmul_v (by first | exact HE | exact HE.drew) (by first | exact .head _ | exact .tail _ (.head _) | exact .tail _ (.tail _ (.head _)) | exact .tail _ (.tail _ (.tail _ (.head _))) | exact .tail _ (.tail _ (.tail _ (.tail _ (.head _)))) | exact .tail _ (.tail _ (.tail _ (.tail _ (.tail _ (.head _))))) | exact .tail _ (.tail _ (.tail _ (.tail _ (.tail _ (.tail _ (.head _)))))) | exact .tail _ (.tail _ (.tail _ (.tail _ (.tail _ (.tail _ (.tail _ (.head _))))))) | exact .tail _ (.tail _ (.tail _ (.tail _ (.tail _ (.tail _ (.tail _ (.tail _ (.head _)))))))) | exact .tail _ (.tail _ (.tail _ (.tail _ (.tail _ (.tail _ (.tail _ (.tail _ (.tail _ (.head _))))))))) | exact .tail _ (.tail _ (.tail _ (.tail _ (.tail _ (.tail _ (.tail _ (.tail _ (.tail _ (.tail _ (.head _)))))))))) | exact .tail _ (.tail _ (.tail _ (.tail _ (.tail _ (.tail _ (.tail _ (.tail _ (.tail _ (.tail _ (.tail _ (.head _))))))))))) | exact .tail _ (.tail _ (.tail _ (.tail _ (.tail _ (.tail _ (.tail _ (.tail _ (.tail _ (.tail _ (.tail _ (.tail _ (.head _)))))))))))) | exact .tail _ (.tail _ (.tail _ (.tail _ (.tail _ (.tail _ (.tail _ (.tail _ (.tail _ (.tail _ (.tail _ (.tail _ (.tail _ (.head _)))))))))))))) (by first | exact .head _ | exact .tail _ (.head _) | exact .tail _ (.tail _ (.head _)) | exact .tail _ (.tail _ (.tail _ (.head _))) | exact .tail _ (.tail _ (.tail _ (.tail _ (.head _)))) | exact .tail _ (.tail _ (.tail _ (.tail _ (.tail _ (.head _))))) | exact .tail _ (.tail _ (.tail _ (.tail _ (.tail _ (.tail _ (.head _)))))) | exact .tail _ (.tail _ (.tail _ (.tail _ (.tail _ (.tail _ (.tail _ (.head _))))))) | exact .tail _ (.tail _ (.tail _ (.tail _ (.tail _ (.tail _ (.tail _ (.tail _ (.head _)))))))) | exact .tail _ (.tail _ (.tail _ (.tail _ (.tail _ (.tail _ (.tail _ (.tail _ (.tail _ (.head _))))))))) | exact .tail _ (.tail _ (.tail _ (.tail _ (.tail _ (.tail _ (.tail _ (.tail _ (.tail _ (.tail _ (.head _)))))))))) | exact .tail _ (.tail _ (.tail _ (.tail _ (.tail _ (.tail _ (.tail _ (.tail _ (.tail _ (.tail _ (.tail _ (.head _))))))))))) | exact .tail _ (.tail _ (.tail _ (.tail _ (.tail _ (.tail _ (.tail _ (.tail _ (.tail _ (.tail _ (.tail _ (.tail _ (.head _)))))))))))) | exact .tail _ (.tail _ (.tail _ (.tail _ (.tail _ (.tail _ (.tail _ (.tail _ (.tail _ (.tail _ (.tail _ (.tail _ (.tail _ (.head _)))))))))))))) (by omega)).mono ?_; rintro e wn ⟨u, rfl, HE⟩)
        | (go_at_call 40; refine (fcmp_v (by first | exact HE | exact HE.drew) (by first | exact .head _ | exact .tail _ (.head _) | exact .tail _ (.tail _ (.head _)) | exact .tail _ (.tail _ (.tail _ (.head _))) | exact .tail _ (.tail _ (.tail _ (.tail _ (.head _)))) | exact .tail _ (.tail _ (.tail _ (.tail _ (.tail _ (.head _))))) | exact .tail _ (.tail _ (.tail _ (.tail _ (.tail _ (.tail _ (.head _)))))) | exact .tail _ (.tail _ (.tail _ (.tail _ (.tail _ (.tail _ (.tail _ (.head _))))))) | exact .tail _ (.tail _ (.tail _ (.tail _ (.tail _ (.tail _ (.tail _ (.tail _ (.head _)))))))) | exact .tail _ (.tail _ (.tail _ (.tail _ (.tail _ (.tail _ (.tail _ (.tail _ (.tail _ (.head _))))))))) | exact .tail _ (.tail _ (.tail _ (.tail _ (.tail _ (.tail _ (.tail _ (.tail _ (.tail _ (.tail _ (.head _)))))))))) | exact .tail _ (.tail _ (.tail _ (.tail _ (.tail _ (.tail _ (.tail _ (.tail _ (.tail _ (.tail _ (.tail _ (.head _))))))))))) | exact .tail _ (.tail _ (.tail _ (.tail _ (.tail _ (.tail _ (.tail _ (.tail _ (.tail _ (.tail _ (.tail _ (.tail _ (.head _)))))))))))) | exact .tail _ (.tail _ (.tail _ (.tail _ (.tail _ (.tail _ (.tail _ (.tail _ (.tail _ (.tail _ (.tail _ (.tail _ (.tail _ (.head _)))))))))))))) (by first | exact .head _ | exact .tail _ (.head _) | exact .tail _ (.tail _ (.head _)) | exact .tail _ (.tail _ (.tail _ (.head _))) | exact .tail _ (.tail _ (.tail _ (.tail _ (.head _)))) | exact .tail _ (.tail _ (.tail _ (.tail _ (.tail _ (.head _))))) | exact .tail _ (.tail _ (.tail _ (.tail _ (.tail _ (.tail _ (.head _)))))) | exact .tail _ (.tail _ (.tail _ (.tail _ (.tail _ (.tail _ (.tail _ (.head _))))))) | exact .tail _ (.tail _ (.tail _ (.tail _ (.tail _ (.tail _ (.tail _ (.tail _ (.head _)))))))) | exact .tail _ (.tail _ (.tail _ (.tail _ (.tail _ (.tail _ (.tail _ (.tail _ (.tail _ (.head _))))))))) | exact .tail _ (.tail _ (.tail _ (.tail _ (.tail _ (.tail _ (.tail _ (.tail _ (.tail _ (.tail _ (.head _)))))))))) | exact .tail _ (.tail _ (.tail _ (.tail _ (.tail _ (.tail _ (.tail _ (.tail _ (.tail _ (.tail _ (.tail _ (.head _))))))))))) | exact .tail _ (.tail _ (.tail _ (.tail _ (.tail _ (.tail _ (.tail _ (.tail _ (.tail _ (.tail _ (.tail _ (.tail _ (.head _)))))))))))) | exact .tail _ (.tail _ (.tail _ (.tail _ (.tail _ (.tail _ (.tail _ (.tail _ (.tail _ (.tail _ (.tail _ (.tail _ (.tail _ (.head _)))))))))))))) (by omega)).mono ?_; rintro e wn ⟨rfl, HE⟩; rw [R1.out, C1.out]))
      (first
        | (refine hK.out _ _ (by first | exact ⟨(HE.c3 (.head _)).1, (HE.c3 (.head _)).2.1, (HE.c3 (.head _)).2.2.1, (HE.c3 (.tail _ (.tail _ (.head _)))).1, (HE.c3 (.tail _ (.tail _ (.head _)))).2.1, (HE.c3 (.tail _ (.tail _ (.head _)))).2.2.1⟩ | exact ⟨(HE.drew.c3 (.head _)).1, (HE.drew.c3 (.head _)).2.1, (HE.drew.c3 (.head _)).2.2.1, (HE.drew.c3 (.tail _ (.tail _ (.head _)))).1, (HE.drew.c3 (.tail _ (.tail _ (.head _)))).2.1, (HE.drew.c3 (.tail _ (.tail _ (.head _)))).2.2.1⟩) (fun hHeld => ?_))
        | (go_wp2_with fail; refine hK.out _ _ (by first | exact ⟨(HE.c3 (.head _)).1, (HE.c3 (.head _)).2.1, (HE.c3 (.head _)).2.2.1, (HE.c3 (.tail _ (.tail _ (.head _)))).1, (HE.c3 (.tail _ (.tail _ (.head _)))).2.1, (HE.c3 (.tail _ (.tail _ (.head _)))).2.2.1⟩ | exact ⟨(HE.drew.c3 (.head _)).1, (HE.drew.c3 (.head _)).2.1, (HE.drew.c3 (.head _)).2.2.1, (HE.drew.c3 (.tail _ (.tail _ (.head _)))).1, (HE.drew.c3 (.tail _ (.tail _ (.head _)))).2.1, (HE.drew.c3 (.tail _ (.tail _ (.head _)))).2.2.1⟩) (fun hHeld => ?_)))
      clear hK K
      (try simp only [Act.put, List.setIfInBounds_toArray, List.set_cons_zero, List.set_cons_succ])
      refine wpAnyH_take (i := 4) (oi := ?oi4) (v := ?vv4) ?hoi4 (by kernel_rfl) (by kernel_rfl) (by kernel_rfl) ?hq4 (Or.inl ⟨?hw4, ?hy4⟩) (by assumption) ?rest4
      case hoi4 => (simp only [List.getElem?_toArray, List.getElem?_cons_succ, List.getElem?_cons_zero]; rfl)
      case hq4 => exact fun _ _ _ h => h
      case hw4 => rfl
      case hy4 => (intro w hSw; (try dsimp only at hSw); go_simp; try with_reducible rfl)
      (try simp only [Act.put, List.setIfInBounds_toArray, List.set_cons_zero, List.set_cons_succ])
      refine wpAnyH_take (i := 5) (oi := ?oi5) (v := ?vv5) ?hoi5 (by kernel_rfl) (by kernel_rfl) (by kernel_rfl) ?hq5 (Or.inl ⟨?hw5, ?hy5⟩) (by assumption) ?rest5
      case hoi5 => (simp only [List.getElem?_toArray, List.getElem?_cons_succ, List.getElem?_cons_zero]; rfl)
      case hq5 => exact fun _ _ _ h => h
      case hw5 => rfl
      case hy5 => (intro w hSw; (try dsimp only at hSw); go_simp; try with_reducible rfl)
      (try simp only [Act.put, List.setIfInBounds_toArray, List.set_cons_zero, List.set_cons_succ])
      refine wpAnyH_take (i := 6) (oi := ?oi6) (v := ?vv6) ?hoi6 (by kernel_rfl) (by kernel_rfl) (by kernel_rfl) ?hq6 (Or.inl ⟨?hw6, ?hy6⟩) (by assumption) ?rest6
      case hoi6 => (simp only [List.getElem?_toArray, List.getElem?_cons_succ, List.getElem?_cons_zero]; rfl)
      case hq6 => exact fun _ _ _ h => h
      case hw6 => rfl
      case hy6 => (intro w hSw; (try dsimp only at hSw); go_simp; try with_reducible rfl)
      (try simp only [Act.put, List.setIfInBounds_toArray, List.set_cons_zero, List.set_cons_succ])
      refine wpAnyH_take (i := 7) (oi := ?oi7) (v := ?vv7) ?hoi7 (by kernel_rfl) (by kernel_rfl) (by kernel_rfl) ?hq7 (Or.inl ⟨?hw7, ?hy7⟩) (by assumption) ?rest7
      case hoi7 => (simp only [List.getElem?_toArray, List.getElem?_cons_succ, List.getElem?_cons_zero]; rfl)
      case hq7 => exact fun _ _ _ h => h
      case hw7 => rfl
      case hy7 => (intro w hSw; (try dsimp only at hSw); go_simp; try with_reducible rfl)
      (try simp only [Act.put, List.setIfInBounds_toArray, List.set_cons_zero, List.set_cons_succ])
      refine wpAnyH_take (i := 9) (oi := ?oi8) (v := ?vv8) ?hoi8 (by kernel_rfl) (by kernel_rfl) (by kernel_rfl) ?hq8 (Or.inl ⟨?hw8, ?hy8⟩) (by assumption) ?rest8
      case hoi8 => (simp only [List.getElem?_toArray, List.getElem?_cons_succ, List.getElem?_cons_zero]; rfl)
      case hq8 => exact fun _ _ _ h => h
      case hw8 => rfl
      case hy8 => (intro w hSw; (try dsimp only at hSw); go_simp; try with_reducible rfl)
      (try simp only [Act.put, List.setIfInBounds_toArray, List.set_cons_zero, List.set_cons_succ])
      refine wpAnyH_ready (rs := [8]) (by kernel_rfl) (by simp) ?_
      refine AllReadyH.cons rfl (fun K hK => ?_) AllReadyH.nil
      go_simp
      (first
        | (go_at_call 32; refine (fsign_v (by first | exact HE | exact HE.drew) (by first | exact .head _ | exact .tail _ (.head _) | exact .tail _ (.tail _ (.head _)) | exact .tail _ (.tail _ (.tail _ (.head _))) | exact .tail _ (.tail _ (.tail _ (.tail _ (.head _)))) | exact .tail _ (.tail _ (.tail _ (.tail _ (.tail _ (.head _))))) | exact .tail _ (.tail _ (.tail _ (.tail _ (.tail _ (.tail _ (.head _)))))) | exact .tail _ (.tail _ (.tail _ (.tail _ (.tail _ (.tail _ (.tail _ (.head _))))))) | exact .tail _ (.tail _ (.tail _ (.tail _ (.tail _ (.tail _ (.tail _ (.tail _ (.head _)))))))) | exact .tail _ (.tail _ (.tail _ (.tail _ (.tail _ (.tail _ (.tail _ (.tail _ (.tail _ (.head _))))))))) | exact .tail _ (.tail _ (.tail _ (.tail _ (.tail _ (.tail _ (.tail _ (.tail _ (.tail _ (.tail _ (.head _)))))))))) | exact .tail _ (.tail _ (.tail _ (.tail _ (.tail _ (.tail _ (.tail _ (.tail _ (.tail _ (.tail _ (.tail _ (.head _))))))))))) | exact .tail _ (.tail _ (.tail _ (.tail _ (.tail _ (.tail _ (.tail _ (.tail _ (.tail _ (.tail _ (.tail _ (.tail _ (.head _)))))))))))) | exact .tail _ (.tail _ (.tail _ (.tail _ (.tail _ (.tail _ (.tail _ (.tail _ (.tail _ (.tail _ (.tail _ (.tail _ (.tail _ (.head _)))))))))))))) (by omega)).mono ?_; rintro e wn ⟨rfl, HE⟩)
        | (go_at_call 38; refine (fmul_v (by first | exact HE | exact HE.drew) (by first | exact .head _ | exact .tail _ (.head _) | exact .tail _ (.tail _ (.head _)) | exact .tail _ (.tail _ (.tail _ (.head _))) | exact .tail _ (.tail _ (.tail _ (.tail _ (.head _)))) | exact .tail _ (.tail _ (.tail _ (.tail _ (.tail _ (.head _))))) | exact .tail _ (.tail _ (.tail _ (.tail _ (.tail _ (.tail _ (.head _)))))) | exact .tail _ (.tail _ (.tail _ (.tail _ (.tail _ (.tail _ (.tail _ (.head _))))))) | exact .tail _ (.tail _ (.tail _ (.tail _ (.tail _ (.tail _ (.tail _ (.tail _ (.head _)))))))) | exact .tail _ (.tail _ (.tail _ (.tail _ (.tail _ (.tail _ (.tail _ (.tail _ (.tail _ (.head _))))))))) | exact .tail _ (.tail _ (.tail _ (.tail _ (.tail _ (.tail _ (.tail _ (.tail _ (.tail _ (.tail _ (.head _)))))))))) | exact .tail _ (.tail _ (.tail _ (.tail _ (.tail _ (.tail _ (.tail _ (.tail _ (.tail _ (.tail _ (.tail _ (.head _))))))))))) | exact .tail _ (.tail _ (.tail _ (.tail _ (.tail _ (.tail _ (.tail _ (.tail _ (.tail _ (.tail _ (.tail _ (.tail _ (.head _)))))))))))) | exact .tail _ (.tail _ (.tail _ (.tail _ (.tail _ (.tail _ (.tail _ (.tail _ (.tail _ (.tail _ (.tail _ (.tail _ (.tail _ (.head _)))))))))))))) (by first | exact .head _ | exact .tail _ (.head _) | exact .tail _ (.tail _ (.head _)) | exact .tail _ (.tail _ (.tail _ (.head _))) | exact .tail _ (.tail _ (.tail _ (.tail _ (.head _)))) | exact .tail _ (.tail _ (.tail _ (.tail _ (.tail _ (.head _))))) | exact .tail _ (.tail _ (.tail _ (.tail _ (.tail _ (.tail _ (.head _)))))) | exact .tail _ (.tail _ (.tail _ (.tail _ (.tail _ (.tail _ (.tail _ (.head _))))))) | exact .tail _ (.tail _ (.tail _ (.tail _ (.tail _ (.tail _ (.tail _ (.tail _ (.head _)))))))) | exact .tail _ (.tail _ (.tail _ (.tail _ (.tail _ (.tail _ (.tail _ (.tail _ (.tail _ (.head _))))))))) | exact .tail _ (.tail _ (.tail _ (.tail _ (.tail _ (.tail _ (.tail _ (.tail _ (.tail _ (.tail _ (.head _)))))))))) | exact .tail _ (.tail _ (.tail _ (.tail _ (.tail _ (.tail _ (.tail _ (.tail _ (.tail _ (.tail _ (.tail _ (.head _))))))))))) | exact .tail _ (.tail _ (.tail _ (.tail _ (.tail _ (.tail _ (.tail _ (.tail _ (.tail _ (.tail _ (.tail _ (.tail _ (.head _)))))))))))) | exact .tail _ (.tail _ (.tail _ (.tail _ (.tail _ (.tail _ (.tail _ (.tail _ (.tail _ (.tail _ (.tail _ (.tail _ (.tail _ (.head _)))))))))))))) (by omega)).mono ?_; rintro e wn ⟨u, rfl, HE⟩)
        | (go_at_call 40; refine (fcmp_v (by first | exact HE | exact HE.drew) (by first | exact .head _ | exact .tail _ (.head _) | exact .tail _ (.tail _ (.head _)) | exact .tail _ (.tail _ (.tail _ (.head _))) | exact .tail _ (.tail _ (.tail _ (.tail _ (.head _)))) | exact .tail _ (.tail _ (.tail _ (.tail _ (.tail _ (.head _))))) | exact .tail _ (.tail _ (.tail _ (.tail _ (.tail _ (.tail _ (.head _)))))) | exact .tail _ (.tail _ (.tail _ (.tail _ (.tail _ (.tail _ (.tail _ (.head _))))))) | exact .tail _ (.tail _ (.tail _ (.tail _ (.tail _ (.tail _ (.tail _ (.tail _ (.head _)))))))) | exact .tail _ (.tail _ (.tail _ (.tail _ (.tail _ (.tail _ (.tail _ (.tail _ (.tail _ (.head _))))))))) | exact .tail _ (.tail _ (.tail _ (.tail _ (.tail _ (.tail _ (.tail _ (.tail _ (.tail _ (.tail _ (.head _)))))))))) | exact .tail _ (.tail _ (.tail _ (.tail _ (.tail _ (.tail _ (.tail _ (.tail _ (.tail _ (.tail _ (.tail _ (.head _))))))))))) | exact .tail _ (.tail _ (.tail _ (.tail _ (.tail _ (.tail _ (.tail _ (.tail _ (.tail _ (.tail _ (.tail _ (.tail _ (.head _)))))))))))) | exact .tail _ (.tail _ (.tail _ (.tail _ (.tail _ (.tail _ (.tail _ (.tail _ (.tail _ (.tail _ (.tail _ (.tail _ (.tail _ (.head _)))))))))))))) (by first | exact .head _ | exact .tail _ (.head _) | exact .tail _ (.tail _ (.head _)) | exact .tail _ (.tail _ (.tail _ (.head _))) | exact .tail _ (.tail _ (.tail _ (.tail _ (.head _)))) | exact .tail _ (.tail _ (.tail _ (.tail _ (.tail _ (.head _))))) | exact .tail _ (.tail _ (.tail _ (.tail _ (.tail _ (.tail _ (.head _)))))) | exact .tail _ (.tail _ (.tail _ (.tail _ (.tail _ (.tail _ (.tail _ (.head _))))))) | exact .tail _ (.tail _ (.tail _ (.tail _ (.tail _ (.tail _ (.tail _ (.tail _ (.head _)))))))) | exact .tail _ (.tail _ (.tail _ (.tail _ (.tail _ (.tail _ (.tail _ (.tail _ (.tail _ (.head _))))))))) | exact .tail _ (.tail _ (.tail _ (.tail _ (.tail _ (.tail _ (.tail _ (.tail _ (.tail _ (.tail _ (.head _)))))))))) | exact .tail _ (.tail _ (.tail _ (.tail _ (.tail _ (.tail _ (.tail _ (.tail _ (.tail _ (.tail _ (.tail _ (.head _))))))))))) | exact .tail _ (.tail _ (.tail _ (.tail _ (.tail _ (.tail _ (.tail _ (.tail _ (.tail _ (.tail _ (.tail _ (.tail _ (.head _)))))))))))) | exact .tail _ (.tail _ (.tail _ (.tail _ (.tail _ (.tail _ (.tail _ (.tail _ (.tail _ (.tail _ (.tail _ (.tail _ (.tail _ (.head _)))))))))))))) (by omega)).mono ?_; rintro e wn ⟨rfl, HE⟩; rw [R1.out, C1.out]))
      (first
        | (refine hK.out _ _ (by first | exact ⟨(HE.c3 (.head _)).1, (HE.c3 (.head _)).2.1, (HE.c3 (.head _)).2.2.1, (HE.c3 (.tail _ (.tail _ (.head _)))).1, (HE.c3 (.tail _ (.tail _ (.head _)))).2.1, (HE.c3 (.tail _ (.tail _ (.head _)))).2.2.1⟩ | exact ⟨(HE.drew.c3 (.head _)).1, (HE.drew.c3 (.head _)).2.1, (HE.drew.c3 (.head _)).2.2.1, (HE.drew.c3 (.tail _ (.tail _ (.head _)))).1, (HE.drew.c3 (.tail _ (.tail _ (.head _)))).2.1, (HE.drew.c3 (.tail _ (.tail _ (.head _)))).2.2.1⟩) (fun hHeld => ?_))
        | (go_wp2_with fail; refine hK.out _ _ (by first | exact ⟨(HE.c3 (.head _)).1, (HE.c3 (.head _)).2.1, (HE.c3 (.head _)).2.2.1, (HE.c3 (.tail _ (.tail _ (.head _)))).1, (HE.c3 (.tail _ (.tail _ (.head _)))).2.1, (HE.c3 (.tail _ (.tail _ (.head _)))).2.2.1⟩ | exact ⟨(HE.drew.c3 (.head _)).1, (HE.drew.c3 (.head _)).2.1, (HE.drew.c3 (.head _)).2.2.1, (HE.drew.c3 (.tail _ (.tail _ (.head _)))).1, (HE.drew.c3 (.tail _ (.tail _ (.head _)))).2.1, (HE.drew.c3 (.tail _ (.tail _ (.head _)))).2.2.1⟩) (fun hHeld => ?_)))
      clear hK K
      (try simp only [Act.put, List.setIfInBounds_toArray, List.set_cons_zero, List.set_cons_succ])
      refine wpAnyH_ready (rs := [10]) (by kernel_rfl) (by simp) ?_
      refine AllReadyH.cons rfl (fun K hK => ?_) AllReadyH.nil
      go_simp
      (first
        | (go_at_call 32; refine (fsign_v (by first | exact HE | exact HE.drew) (by first | exact .head _ | exact .tail _ (.head _) | exact .tail _ (.tail _ (.head _)) | exact .tail _ (.tail _ (.tail _ (.head _))) | exact .tail _ (.tail _ (.tail _ (.tail _ (.head _)))) | exact .tail _ (.tail _ (.tail _ (.tail _ (.tail _ (.head _))))) | exact .tail _ (.tail _ (.tail _ (.tail _ (.tail _ (.tail _ (.head _)))))) | exact .tail _ (.tail _ (.tail _ (.tail _ (.tail _ (.tail _ (.tail _ (.head _))))))) | exact .tail _ (.tail _ (.tail _ (.tail _ (.tail _ (.tail _ (.tail _ (.tail _ (.head _)))))))) | exact .tail _ (.tail _ (.tail _ (.tail _ (.tail _ (.tail _ (.tail _ (.tail _ (.tail _ (.head _))))))))) | exact .tail _ (.tail _ (.tail _ (.tail _ (.tail _ (.tail _ (.tail _ (.tail _ (.tail _ (.tail _ (.head _)))))))))) | exact .tail _ (.tail _ (.tail _ (.tail _ (.tail _ (.tail _ (.tail _ (.tail _ (.tail _ (.tail _ (.tail _ (.head _))))))))))) | exact .tail _ (.tail _ (.tail _ (.tail _ (.tail _ (.tail _ (.tail _ (.tail _ (.tail _ (.tail _ (.tail _ (.tail _ (.head _)))))))))))) | exact .tail _ (.tail _ (.tail _ (.tail _ (.tail _ (.tail _ (.tail _ (.tail _ (.tail _ (.tail _ (.tail _ (.tail _ (.tail _ (.head _)))))))))))))) (by omega)).mono ?_; rintro e wn ⟨rfl, HE⟩)
        | (go_at_call 38; refine (fmul_v (by first | exact HE | exact HE.drew) (by first | exact .head _ | exact .tail _ (.head _) | exact .tail _ (.tail _ (.head _)) | exact .tail _ (.tail _ (.tail _ (.head _))) | exact .tail _ (.tail _ (.tail _ (.tail _ (.head _)))) | exact .tail _ (.tail _ (.tail _ (.tail _ (.tail _ (.head _))))) | exact .tail _ (.tail _ (.tail _ (.tail _ (.tail _ (.tail _ (.head _)))))) | exact .tail _ (.tail _ (.tail _ (.tail _ (.tail _ (.tail _ (.tail _ (.head _))))))) | exact .tail _ (.tail _ (.tail _ (.tail _ (.tail _ (.tail _ (.tail _ (.tail _ (.head _)))))))) | exact .tail _ (.tail _ (.tail _ (.tail _ (.tail _ (.tail _ (.tail _ (.tail _ (.tail _ (.head _))))))))) | exact .tail _ (.tail _ (.tail _ (.tail _ (.tail _ (.tail _ (.tail _ (.tail _ (.tail _ (.tail _ (.head _)))))))))) | exact .tail _ (.tail _ (.tail _ (.tail _ (.tail _ (.tail _ (.tail _ (.tail _ (.tail _ (.tail _ (.tail _ (.head _))))))))))) | exact .tail _ (.tail _ (.tail _ (.tail _ (.tail _ (.tail _ (.tail _ (.tail _ (.tail _ (.tail _ (.tail _ (.tail _ (.head _)))))))))))) | exact .tail _ (.tail _ (.tail _ (.tail _ (.tail _ (.tail _ (.tail _ (.tail _ (.tail _ (.tail _ (.tail _ (.tail _ (.tail _ (.head _)))))))))))))) (by first | exact .head _ | exact .tail _ (.head _) | exact .tail _ (.tail _ (.head _)) | exact .tail _ (.tail _ (.tail _ (.head _))) | exact .tail _ (.tail _ (.tail _ (.tail _ (.head _)))) | exact .tail _ (.tail _ (.tail _ (.tail _ (.tail _ (.head _))))) | exact .tail _ (.tail _ (.tail _ (.tail _ (.tail _ (.tail _ (.head _)))))) | exact .tail _ (.tail _ (.tail _ (.tail _ (.tail _ (.tail _ (.tail _ (.head _))))))) | exact .tail _ (.tail _ (.tail _ (.tail _ (.tail _ (.tail _ (.tail _ (.tail _ (.head _)))))))) | exact .tail _ (.tail _ (.tail _ (.tail _ (.tail _ (.tail _ (.tail _ (.tail _ (.tail _ (.head _))))))))) | exact .tail _ (.tail _ (.tail _ (.tail _ (.tail _ (.tail _ (.tail _ (.tail _ (.tail _ (.tail _ (.head _)))))))))) | exact .tail _ (.tail _ (.tail _ (.tail _ (.tail _ (.tail _ (.tail _ (.tail _ (.tail _ (.tail _ (.tail _ (.head _))))))))))) | exact .tail _ (.tail _ (.tail _ (.tail _ (.tail _ (.tail _ (.tail _ (.tail _ (.tail _ (.tail _ (.tail _ (.tail _ (.head _)))))))))))) | exact .tail _ (.tail _ (.tail _ (.tail _ (.tail _ (.tail _ (.tail _ (.tail _ (.tail _ (.tail _ (.tail _ (.tail _ (.tail _ (.head _)))))))))))))) (by omega)).mono ?_; rintro e wn ⟨u, rfl, HE⟩)
        | (go_at_call 40; refine (fcmp_v (by first | exact HE | exact HE.drew) (by first | exact .head _ | exact .tail _ (.head _) | exact .tail _ (.tail _ (.head _)) | exact .tail _ (.tail _ (.tail _ (.head _))) | exact .tail _ (.tail _ (.tail _ (.tail _ (.head _)))) | exact .tail _ (.tail _ (.tail _ (.tail _ (.tail _ (.head _))))) | exact .tail _ (.tail _ (.tail _ (.tail _ (.tail _ (.tail _ (.head _)))))) | exact .tail _ (.tail _ (.tail _ (.tail _ (.tail _ (.tail _ (.tail _ (.head _))))))) | exact .tail _ (.tail _ (.tail _ (.tail _ (.tail _ (.tail _ (.tail _ (.tail _ (.head _)))))))) | exact .tail _ (.tail _ (.tail _ (.tail _ (.tail _ (.tail _ (.tail _ (.tail _ (.tail _ (.head _))))))))) | exact .tail _ (.tail _ (.tail _ (.tail _ (.tail _ (.tail _ (.tail _ (.tail _ (.tail _ (.tail _ (.head _)))))))))) | exact .tail _ (.tail _ (.tail _ (.tail _ (.tail _ (.tail _ (.tail _ (.tail _ (.tail _ (.tail _ (.tail _ (.head _))))))))))) | exact .tail _ (.tail _ (.tail _ (.tail _ (.tail _ (.tail _ (.tail _ (.tail _ (.tail _ (.tail _ (.tail _ (.tail _ (.head _)))))))))))) | exact .tail _ (.tail _ (.tail _ (.tail _ (.tail _ (.tail _ (.tail _ (.tail _ (.tail _ (.tail _ (.tail _ (.tail _ (.tail _ (.head _)))))))))))))) (by first | exact .head _ | exact .tail _ (.head _) | exact .tail _ (.tail _ (.head _)) | exact .tail _ (.tail _ (.tail _ (.head _))) | exact .tail _ (.tail _ (.tail _ (.tail _ (.head _)))) | exact .tail _ (.tail _ (.tail _ (.tail _ (.tail _ (.head _))))) | exact .tail _ (.tail _ (.tail _ (.tail _ (.tail _ (.tail _ (.head _)))))) | exact .tail _ (.tail _ (.tail _ (.tail _ (.tail _ (.tail _ (.tail _ (.head _))))))) | exact .tail _ (.tail _ (.tail _ (.tail _ (.tail _ (.tail _ (.tail _ (.tail _ (.head _)))))))) | exact .tail _ (.tail _ (.tail _ (.tail _ (.tail _ (.tail _ (.tail _ (.tail _ (.tail _ (.head _))))))))) | exact .tail _ (.tail _ (.tail _ (.tail _ (.tail _ (.tail _ (.tail _ (.tail _ (.tail _ (.tail _ (.head _)))))))))) | exact .tail _ (.tail _ (.tail _ (.tail _ (.tail _ (.tail _ (.tail _ (.tail _ (.tail _ (.tail _ (.tail _ (.head _))))))))))) | exact .tail _ (.tail _ (.tail _ (.tail _ (.tail _ (.tail _ (.tail _ (.tail _ (.tail _ (.tail _ (.tail _ (.tail _ (.head _)))))))))))) | exact .tail _ (.tail _ (.tail _ (.tail _ (.tail _ (.tail _ (.tail _ (.tail _ (.tail _ (.tail _ (.tail _ (.tail _ (.tail _ (.head _)))))))))))))) (by omega)).mono ?_; rintro e wn ⟨rfl, HE⟩; rw [R1.out, C1.out]))
      (first
        | (refine hK.out _ _ (by first | exact ⟨(HE.c3 (.head _)).1, (HE.c3 (.head _)).2.1, (HE.c3 (.head _)).2.2.1, (HE.c3 (.tail _ (.tail _ (.head _)))).1, (HE.c3 (.tail _ (.tail _ (.head _)))).2.1, (HE.c3 (.tail _ (.tail _ (.head _)))).2.2.1⟩ | exact ⟨(HE.drew.c3 (.head _)).1, (HE.drew.c3 (.head _)).2.1, (HE.drew.c3 (.head _)).2.2.1, (HE.drew.c3 (.tail _ (.tail _ (.head _)))).1, (HE.drew.c3 (.tail _ (.tail _ (.head _)))).2.1, (HE.drew.c3 (.tail _ (.tail _ (.head _)))).2.2.1⟩) (fun hHeld => ?_))
        | (go_wp2_with fail; refine hK.out _ _ (by first | exact ⟨(HE.c3 (.head _)).1, (HE.c3 (.head _)).2.1, (HE.c3 (.head _)).2.2.1, (HE.c3 (.tail _ (.tail _ (.head _)))).1, (HE.c3 (.tail _ (.tail _ (.head _)))).2.1, (HE.c3 (.tail _ (.tail _ (.head _)))).2.2.1⟩ | exact ⟨(HE.drew.c3 (.head _)).1, (HE.drew.c3 (.head _)).2.1, (HE.drew.c3 (.head _)).2.2.1, (HE.drew.c3 (.tail _ (.tail _ (.head _)))).1, (HE.drew.c3 (.tail _ (.tail _ (.head _)))).2.1, (HE.drew.c3 (.tail _ (.tail _ (.head _)))).2.2.1⟩) (fun hHeld => ?_)))
      clear hK K
      (try simp only [Act.put, List.setIfInBounds_toArray, List.set_cons_zero, List.set_cons_succ])
      refine wpAnyH_take (i := 11) (oi := ?oi9) (v := ?vv9) ?hoi9 (by kernel_rfl) (by kernel_rfl) (by kernel_rfl) ?hq9 (Or.inl ⟨?hw9, ?hy9⟩) (by assumption) ?rest9
      case hoi9 => (simp only [List.getElem?_toArray, List.getElem?_cons_succ, List.getElem?_cons_zero]; rfl)
      case hq9 => exact fun _ _ _ h => h
      case hw9 => rfl
      case hy9 => (intro w hSw; (try dsimp only at hSw); go_simp; try with_reducible rfl)
      (try simp only [Act.put, List.setIfInBounds_toArray, List.set_cons_zero, List.set_cons_succ])
      refine wpAnyH_take (i := 12) (oi := ?oi10) (v := ?vv10) ?hoi10 (by kernel_rfl) (by kernel_rfl) (by kernel_rfl) ?hq10 (Or.inl ⟨?hw10, ?hy10⟩) (by assumption) ?rest10
      case hoi10 => (simp only [List.getElem?_toArray, List.getElem?_cons_succ, List.getElem?_cons_zero]; rfl)
      case hq10 => exact fun _ _ _ h => h
      case hw10 => rfl
      case hy10 => (intro w hSw; (try dsimp only at hSw); go_simp; try with_reducible rfl)
      (try simp only [Act.put, List.setIfInBounds_toArray, List.set_cons_zero, List.set_cons_succ])
      refine wpAnyH_take (i := 13) (oi := ?oi11) (v := ?vv11) ?hoi11 (by kernel_rfl) (by kernel_rfl) (by kernel_rfl) ?hq11 (Or.inl ⟨?hw11, ?hy11⟩) (by assumption) ?rest11
      case hoi11 => (simp only [List.getElem?_toArray, List.getElem?_cons_succ, List.getElem?_cons_zero]; rfl)
      case hq11 => exact fun _ _ _ h => h
      case hw11 => rfl
      case hy11 => (intro w hSw; (try dsimp only at hSw); go_simp; try with_reducible rfl)
      (try simp only [Act.put, List.setIfInBounds_toArray, List.set_cons_zero, List.set_cons_succ])
      refine wpAnyH_take (i := 14) (oi := ?oi12) (v := ?vv12) ?hoi12 (by kernel_rfl) (by kernel_rfl) (by kernel_rfl) ?hq12 (Or.inl ⟨?hw12, ?hy12⟩) (by assumption) ?rest12
      case hoi12 => (simp only [List.getElem?_toArray, List.getElem?_cons_succ, List.getElem?_cons_zero]; rfl)
      case hq12 => exact fun _ _ _ h => h
      case hw12 => rfl
      case hy12 => (intro w hSw; (try dsimp only at hSw); go_simp; try with_reducible rfl)
      (try simp only [Act.put, List.setIfInBounds_toArray, List.set_cons_zero, List.set_cons_succ])
      refine wpAnyH_take (i := 15) (oi := ?oi13) (v := ?vv13) ?hoi13 (by kernel_rfl) (by kernel_rfl) (by kernel_rfl) ?hq13 (Or.inl ⟨?hw13, ?hy13⟩) (by assumption) ?rest13
      case hoi13 => (simp only [List.getElem?_toArray, List.getElem?_cons_succ, List.getElem?_cons_zero]; rfl)
      case hq13 => exact fun _ _ _ h => h
      case hw13 => rfl
      case hy13 => (intro w hSw; (try dsimp only at hSw); go_simp; try with_reducible rfl)
      (try simp only [Act.put, List.setIfInBounds_toArray, List.set_cons_zero, List.set_cons_succ])
      refine wpAnyH_take (i := 16) (oi := ?oi14) (v := ?vv14) ?hoi14 (by kernel_rfl) (by kernel_rfl) (by kernel_rfl) ?hq14 (Or.inl ⟨?hw14, ?hy14⟩) (by assumption) ?rest14
      case hoi14 => (simp only [List.getElem?_toArray, List.getElem?_cons_succ, List.getElem?_cons_zero]; rfl)
      case hq14 => exact fun _ _ _ h => h
      case hw14 => rfl
      case hy14 => (intro w hSw; (try dsimp only at hSw); go_simp; try with_reducible rfl)
      (try simp only [Act.put, List.setIfInBounds_toArray, List.set_cons_zero, List.set_cons_succ])
      refine wpAnyH_take (i := 17) (oi := ?oi15) (v := ?vv15) ?hoi15 (by kernel_rfl) (by kernel_rfl) (by kernel_rfl) ?hq15 (Or.inl ⟨?hw15, ?hy15⟩) (by assumption) ?rest15
      case hoi15 => (simp only [List.getElem?_toArray, List.getElem?_cons_succ, List.getElem?_cons_zero]; rfl)
      case hq15 => exact fun _ _ _ h => h
      case hw15 => rfl
      case hy15 => (intro w hSw; (try dsimp only at hSw); go_simp; try with_reducible rfl)
      (try simp only [Act.put, List.setIfInBounds_toArray, List.set_cons_zero, List.set_cons_succ])
      refine wpAnyH_take (i := 18) (oi := ?oi16) (v := ?vv16) ?hoi16 (by kernel_rfl) (by kernel_rfl) (by kernel_rfl) ?hq16 (Or.inr ⟨?hw16, ?hy16⟩) (by assumption) ?rest16
      case hoi16 => (simp only [List.getElem?_toArray, List.getElem?_cons_succ, List.getElem?_cons_zero]; rfl)
      case hq16 => exact fun _ _ _ h => h
      case hw16 => rfl
      case hy16 => rfl
      (try simp only [Act.put, List.setIfInBounds_toArray, List.set_cons_zero, List.set_cons_succ])
      refine wpAnyH_take (i := 19) (oi := ?oi17) (v := ?vv17) ?hoi17 (by kernel_rfl) (by kernel_rfl) (by kernel_rfl) ?hq17 (Or.inr ⟨?hw17, ?hy17⟩) (by assumption) ?rest17
      case hoi17 => (simp only [List.getElem?_toArray, List.getElem?_cons_succ, List.getElem?_cons_zero]; rfl)
      case hq17 => exact fun _ _ _ h => h
      case hw17 => rfl
      case hy17 => rfl
      (try simp only [Act.put, List.setIfInBounds_toArray, List.set_cons_zero, List.set_cons_succ])
      refine wpAnyH_take (i := 20) (oi := ?oi18) (v := ?vv18) ?hoi18 (by kernel_rfl) (by kernel_rfl) (by kernel_rfl) ?hq18 (Or.inr ⟨?hw18, ?hy18⟩) (by assumption) ?rest18
      case hoi18 => (simp only [List.getElem?_toArray, List.getElem?_cons_succ, List.getElem?_cons_zero]; rfl)
      case hq18 => exact fun _ _ _ h => h
      case hw18 => rfl
      case hy18 => rfl
      (try simp only [Act.put, List.setIfInBounds_toArray, List.set_cons_zero, List.set_cons_succ])
      refine wpAnyH_take (i := 21) (oi := ?oi19) (v := ?vv19) ?hoi19 (by kernel_rfl) (by kernel_rfl) (by kernel_rfl) ?hq19 (Or.inl ⟨?hw19, ?hy19⟩) (by assumption) ?rest19
      case hoi19 => (simp only [List.getElem?_toArray, List.getElem?_cons_succ, List.getElem?_cons_zero]; rfl)
      case hq19 => exact fun _ _ _ h => h
      case hw19 => rfl
      case hy19 => (intro w hSw; (try dsimp only at hSw); go_simp; try with_reducible rfl)
      (try simp only [Act.put, List.setIfInBounds_toArray, List.set_cons_zero, List.set_cons_succ])
      refine wpAnyH_take (i := 22) (oi := ?oi20) (v := ?vv20) ?hoi20 (by kernel_rfl) (by kernel_rfl) (by kernel_rfl) ?hq20 (Or.inl ⟨?hw20, ?hy20⟩) (by assumption) ?rest20
      case hoi20 => (simp only [List.getElem?_toArray, List.getElem?_cons_succ, List.getElem?_cons_zero]; rfl)
      case hq20 => exact fun _ _ _ h => h
      case hw20 => rfl
      case hy20 => (intro w hSw; (try dsimp only at hSw); go_simp; try with_reducible rfl)
      (try simp only [Act.put, List.setIfInBounds_toArray, List.set_cons_zero, List.set_cons_succ])
      refine wpAnyH_done (by kernel_rfl) ?_ _
      clear hs0 R1
      obtain ⟨q36, q37, q38, q39, q40, q41⟩ := HE.c3 (.tail _ (.tail _ (.head _)))
      go_wp2_with fail
      refine (fgrid_v (q := q1) HE (by first | exact .head _ | exact .tail _ (.head _) | exact .tail _ (.tail _ (.head _)) | exact .tail _ (.tail _ (.tail _ (.head _))) | exact .tail _ (.tail _ (.tail _ (.tail _ (.head _)))) | exact .tail _ (.tail _ (.tail _ (.tail _ (.tail _ (.head _))))) | exact .tail _ (.tail _ (.tail _ (.tail _ (.tail _ (.tail _ (.head _)))))) | exact .tail _ (.tail _ (.tail _ (.tail _ (.tail _ (.tail _ (.tail _ (.head _))))))) | exact .tail _ (.tail _ (.tail _ (.tail _ (.tail _ (.tail _ (.tail _ (.tail _ (.head _)))))))) | exact .tail _ (.tail _ (.tail _ (.tail _ (.tail _ (.tail _ (.tail _ (.tail _ (.tail _ (.head _))))))))) | exact .tail _ (.tail _ (.tail _ (.tail _ (.tail _ (.tail _ (.tail _ (.tail _ (.tail _ (.tail _ (.head _)))))))))) | exact .tail _ (.tail _ (.tail _ (.tail _ (.tail _ (.tail _ (.tail _ (.tail _ (.tail _ (.tail _ (.tail _ (.head _))))))))))) | exact .tail _ (.tail _ (.tail _ (.tail _ (.tail _ (.tail _ (.tail _ (.tail _ (.tail _ (.tail _ (.tail _ (.tail _ (.head _)))))))))))) | exact .tail _ (.tail _ (.tail _ (.tail _ (.tail _ (.tail _ (.tail _ (.tail _ (.tail _ (.tail _ (.tail _ (.tail _ (.tail _ (.head _)))))))))))))) (by omega) (by omega)).mono ?_
      rw [PQ.out]
      clear HE
      rintro e w6 ⟨s4, A4, n4, c4, B4, m4, d4, rfl, HE⟩
      replace HE := HE.box3 (.bool s4) (.slice A4 n4 c4) (.slice B4 m4 d4)
      clear q36 q37 q38 q39 q40 q41
      go_wp2_with fail
      refine (fmake_f HE (by omega) (by omega) (by have := PP.out; omega) (by have := PP.out; omega) (by have := PP.out; omega)).mono ?_
      clear HE
      rintro e w7 ⟨s5, A5, n5, c5, B5, m5, d5, rfl, HE⟩
      replace HE := HE.box3 (.bool s5) (.slice A5 n5 c5) (.slice B5 m5 d5)
      obtain ⟨q42, q43, q44, q45, q46, q47⟩ := HE.c3 (.tail _ (.head _))
      obtain ⟨q48, q49, q50, q51, q52, q53⟩ := HE.c3 (.tail _ (.tail _ (.tail _ (.tail _ (.head _)))))
      go_wp2_with fail
      refine (fsub_w (q := q1) HE (by first | exact .head _ | exact .tail _ (.head _) | exact .tail _ (.tail _ (.head _)) | exact .tail _ (.tail _ (.tail _ (.head _))) | exact .tail _ (.tail _ (.tail _ (.tail _ (.head _)))) | exact .tail _ (.tail _ (.tail _ (.tail _ (.tail _ (.head _))))) | exact .tail _ (.tail _ (.tail _ (.tail _ (.tail _ (.tail _ (.head _)))))) | exact .tail _ (.tail _ (.tail _ (.tail _ (.tail _ (.tail _ (.tail _ (.head _))))))) | exact .tail _ (.tail _ (.tail _ (.tail _ (.tail _ (.tail _ (.tail _ (.tail _ (.head _)))))))) | exact .tail _ (.tail _ (.tail _ (.tail _ (.tail _ (.tail _ (.tail _ (.tail _ (.tail _ (.head _))))))))) | exact .tail _ (.tail _ (.tail _ (.tail _ (.tail _ (.tail _ (.tail _ (.tail _ (.tail _ (.tail _ (.head _)))))))))) | exact .tail _ (.tail _ (.tail _ (.tail _ (.tail _ (.tail _ (.tail _ (.tail _ (.tail _ (.tail _ (.tail _ (.head _))))))))))) | exact .tail _ (.tail _ (.tail _ (.tail _ (.tail _ (.tail _ (.tail _ (.tail _ (.tail _ (.tail _ (.tail _ (.tail _ (.head _)))))))))))) | exact .tail _ (.tail _ (.tail _ (.tail _ (.tail _ (.tail _ (.tail _ (.tail _ (.tail _ (.tail _ (.tail _ (.tail _ (.tail _ (.head _)))))))))))))) (.tail _ (.head _)) (by omega)).mono ?_
      clear HE
      rintro e w8 ⟨s6, A6, n6, c6, B6, m6, d6, rfl, HE⟩
      replace HE := HE.box3 (.bool s6) (.slice A6 n6 c6) (.slice B6 m6 d6)
      clear q42 q43 q44 q45 q46 q47 q48 q49 q50 q51 q52 q53
      obtain ⟨q54, q55, q56, q57, q58, q59⟩ := HE.c3 (.tail _ (.head _))
      obtain ⟨q60, q61, q62, q63, q64, q65⟩ := HE.c3 (.tail _ (.tail _ (.head _)))
      go_wp2_with fail
      refine (fdiv_v HE (.tail _ (.tail _ (.head _))) (.tail _ (.head _)) (by omega) GF.out.1).mono ?_
      clear HE
      rintro e w9 ⟨s7, A7, n7, c7, B7, m7, d7, rfl, HE⟩
      replace HE := HE.box3 (.bool s7) (.slice A7 n7 c7) (.slice B7 m7 d7)
      clear q54 q55 q56 q57 q58 q59 q60 q61 q62 q63 q64 q65
      obtain ⟨q66, q67, q68, q69, q70, q71⟩ := HE.c3 (.head _)
      go_wp2_with fail
      refine (fparts_v HE (.head _) (by omega)).mono ?_
      rw [GF.out.2.2.2]
      clear HE
      rintro e w10 ⟨s8, A8, n8, c8, s9, A9, n9, c9, rfl, HE⟩
      replace HE := (HE.box2 (.bool s8) (.slice A8 n8 c8)).box2 (.bool s9) (.slice A9 n9 c9)
      simp only [World.size_alloc] at HE
      clear q66 q67 q68 q69 q70 q71
      obtain ⟨q72, q73, q74, q75⟩ := HE.c2 (.head _)
      obtain ⟨q76, q77, q78, q79, q80, q81⟩ := HE.c3 (.tail _ (.head _))
      obtain ⟨q82, q83, q84, q85, q86, q87⟩ := HE.c3 (.tail _ (.tail _ (.head _)))
      obtain ⟨sd, hsd⟩ : ∃ sd : Int, sgQ (q1 - Rat.divInt (q1.num * (P : Int) / (q1.den : Int)) (P : Int)) = sd := ⟨_, rfl⟩
      have hsg := GF.out.2.1
      rw [hsd] at hsg
      have SG := Lib.hid hsd
      clear hsd
      go_wp2_with fail
      clear q72 q73 q74 q75 q76 q77 q78 q79 q80 q81 q82 q83 q84 q85 q86 q87
      go_region_held3 (fun w' => w'.cell? ⟨w8.heap.size, 0, none⟩ = some (.bool s6) ∧ w'.cell? ⟨w8.heap.size, 1, none⟩ = some (.slice A6 n6 c6) ∧ w'.cell? ⟨w8.heap.size, 2, none⟩ = some (.slice B6 m6 d6) ∧ w'.cell? ⟨w7.heap.size, 0, none⟩ = some (.bool s5) ∧ w'.cell? ⟨w7.heap.size, 1, none⟩ = some (.slice A5 n5 c5) ∧ w'.cell? ⟨w7.heap.size, 2, none⟩ = some (.slice B5 m5 d5) ∧ w'.cell? ⟨w10.heap.size + 1, 0, none⟩ = some (.bool s9) ∧ w'.cell? ⟨w10.heap.size + 1, 1, none⟩ = some (.slice A9 n9 c9)) (first | exact ⟨(HE.c3 (.tail _ (.head _))).1, (HE.c3 (.tail _ (.head _))).2.1, (HE.c3 (.tail _ (.head _))).2.2.1, (HE.c3 (.tail _ (.tail _ (.head _)))).1, (HE.c3 (.tail _ (.tail _ (.head _)))).2.1, (HE.c3 (.tail _ (.tail _ (.head _)))).2.2.1, (HE.c2 (.head _)).1, (HE.c2 (.head _)).2.1⟩ | exact ⟨(HE.drew.c3 (.tail _ (.head _))).1, (HE.drew.c3 (.tail _ (.head _))).2.1, (HE.drew.c3 (.tail _ (.head _))).2.2.1, (HE.drew.c3 (.tail _ (.tail _ (.head _)))).1, (HE.drew.c3 (.tail _ (.tail _ (.head _)))).2.1, (HE.drew.c3 (.tail _ (.tail _ (.head _)))).2.2.1, (HE.drew.c2 (.head _)).1, (HE.drew.c2 (.head _)).2.1⟩)
        (first
          | (go_at_call 32; refine (fsign_v (by first | exact HE | exact HE.drew) (by first | exact .head _ | exact .tail _ (.head _) | exact .tail _ (.tail _ (.head _)) | exact .tail _ (.tail _ (.tail _ (.head _))) | exact .tail _ (.tail _ (.tail _ (.tail _ (.head _)))) | exact .tail _ (.tail _ (.tail _ (.tail _ (.tail _ (.head _))))) | exact .tail _ (.tail _ (.tail _ (.tail _ (.tail _ (.tail _ (.head _)))))) | exact .tail _ (.tail _ (.tail _ (.tail _ (.tail _ (.tail _ (.tail _ (.head _))))))) | exact .tail _ (.tail _ (.tail _ (.tail _ (.tail _ (.tail _ (.tail _ (.tail _ (.head _)))))))) | exact .tail _ (.tail _ (.tail _ (.tail _ (.tail _ (.tail _ (.tail _ (.tail _ (.tail _ (.head _))))))))) | exact .tail _ (.tail _ (.tail _ (.tail _ (.tail _ (.tail _ (.tail _ (.tail _ (.tail _ (.tail _ (.head _)))))))))) | exact .tail _ (.tail _ (.tail _ (.tail _ (.tail _ (.tail _ (.tail _ (.tail _ (.tail _ (.tail _ (.tail _ (.head _))))))))))) | exact .tail _ (.tail _ (.tail _ (.tail _ (.tail _ (.tail _ (.tail _ (.tail _ (.tail _ (.tail _ (.tail _ (.tail _ (.head _)))))))))))) | exact .tail _ (.tail _ (.tail _ (.tail _ (.tail _ (.tail _ (.tail _ (.tail _ (.tail _ (.tail _ (.tail _ (.tail _ (.tail _ (.head _)))))))))))))) (by omega)).mono ?_; rintro e wn ⟨rfl, HE⟩; rw [SG.out])
          | (go_at_call 40; refine (fcmp_v (by first | exact HE | exact HE.drew) (.tail _ (.head _)) (.tail _ (.tail _ (.head _))) (by omega)).mono ?_; rintro e wn ⟨rfl, HE⟩; rw [GF.out.2.2.1])
          | (go_at_call 62; refine (iof_f (by first | exact HE | exact HE.drew) (by omega) (by omega)).mono ?_; rintro e wn ⟨sx, Ax, nx, cx, rfl, HE⟩)
          | (go_at_call 61; refine (icmp_f (by first | exact HE | exact HE.drew) (by first | exact .head _ | exact .tail _ (.head _) | exact .tail _ (.tail _ (.head _)) | exact .tail _ (.tail _ (.tail _ (.head _))) | exact .tail _ (.tail _ (.tail _ (.tail _ (.head _)))) | exact .tail _ (.tail _ (.tail _ (.tail _ (.tail _ (.head _))))) | exact .tail _ (.tail _ (.tail _ (.tail _ (.tail _ (.tail _ (.head _)))))) | exact .tail _ (.tail _ (.tail _ (.tail _ (.tail _ (.tail _ (.tail _ (.head _))))))) | exact .tail _ (.tail _ (.tail _ (.tail _ (.tail _ (.tail _ (.tail _ (.tail _ (.head _)))))))) | exact .tail _ (.tail _ (.tail _ (.tail _ (.tail _ (.tail _ (.tail _ (.tail _ (.tail _ (.head _))))))))) | exact .tail _ (.tail _ (.tail _ (.tail _ (.tail _ (.tail _ (.tail _ (.tail _ (.tail _ (.tail _ (.head _)))))))))) | exact .tail _ (.tail _ (.tail _ (.tail _ (.tail _ (.tail _ (.tail _ (.tail _ (.tail _ (.tail _ (.tail _ (.head _))))))))))) | exact .tail _ (.tail _ (.tail _ (.tail _ (.tail _ (.tail _ (.tail _ (.tail _ (.tail _ (.tail _ (.tail _ (.tail _ (.head _)))))))))))) | exact .tail _ (.tail _ (.tail _ (.tail _ (.tail _ (.tail _ (.tail _ (.tail _ (.tail _ (.tail _ (.tail _ (.tail _ (.tail _ (.head _)))))))))))))) (by first | exact .head _ | exact .tail _ (.head _) | exact .tail _ (.tail _ (.head _)) | exact .tail _ (.tail _ (.tail _ (.head _))) | exact .tail _ (.tail _ (.tail _ (.tail _ (.head _)))) | exact .tail _ (.tail _ (.tail _ (.tail _ (.tail _ (.head _))))) | exact .tail _ (.tail _ (.tail _ (.tail _ (.tail _ (.tail _ (.head _)))))) | exact .tail _ (.tail _ (.tail _ (.tail _ (.tail _ (.tail _ (.tail _ (.head _))))))) | exact .tail _ (.tail _ (.tail _ (.tail _ (.tail _ (.tail _ (.tail _ (.tail _ (.head _)))))))) | exact .tail _ (.tail _ (.tail _ (.tail _ (.tail _ (.tail _ (.tail _ (.tail _ (.tail _ (.head _))))))))) | exact .tail _ (.tail _ (.tail _ (.tail _ (.tail _ (.tail _ (.tail _ (.tail _ (.tail _ (.tail _ (.head _)))))))))) | exact .tail _ (.tail _ (.tail _ (.tail _ (.tail _ (.tail _ (.tail _ (.tail _ (.tail _ (.tail _ (.tail _ (.head _))))))))))) | exact .tail _ (.tail _ (.tail _ (.tail _ (.tail _ (.tail _ (.tail _ (.tail _ (.tail _ (.tail _ (.tail _ (.tail _ (.head _)))))))))))) | exact .tail _ (.tail _ (.tail _ (.tail _ (.tail _ (.tail _ (.tail _ (.tail _ (.tail _ (.tail _ (.tail _ (.tail _ (.tail _ (.head _)))))))))))))) (by omega)).mono ?_; rintro e wn ⟨rfl, HE⟩; rw [cmpI_eq]))
      go_wp2_with fail
      go_ret
      exact ⟨rfl, HE.below⟩
    · clear C0
      obtain ⟨q24, q25, q26, q27, q28, q29⟩ := HE.c3 (.head _)
      obtain ⟨q30, q31, q32, q33, q34, q35⟩ := HE.c3 (.tail _ (.tail _ (.head _)))
      go_wp2_with fail
      clear q24 q25 q26 q27 q28 q29 q30 q31 q32 q33 q34 q35
      replace HE := HE.pick (L' := []) (M' := [⟨.agg #[.bool s3, .slice A3 n3 c3, .slice B3 m3 d3], 0, 12 + 2 + (12 + 2), true⟩, ⟨.agg #[.bool s1, .slice A1 n1 c1, .slice B1 m1 d1], q1, 12, b1⟩]) (fun _ he => by simp at he) (fun _ he => by rcases List.mem_cons.1 he with rfl | he; exact .head _; rcases List.mem_cons.1 he with rfl | he; exact .tail _ (.tail _ (.tail _ (.tail _ (.head _)))); simp at he)
      refine quiet_in (C := fun w' => FEnv w w' [] [] [⟨w5.heap.size, .bool s3, .slice A3 n3 c3, .slice B3 m3 d3⟩, ⟨w4.heap.size, .bool s2, .slice A2 n2 c2, .slice B2 m2 d2⟩, ⟨w.heap.size, .bool s1, .slice A1 n1 c1, .slice B1 m1 d1⟩] [⟨.agg #[.bool s3, .slice A3 n3 c3, .slice B3 m3 d3], 0, 12 + 2 + (12 + 2), true⟩, ⟨.agg #[.bool s1, .slice A1 n1 c1, .slice B1 m1 d1], q1, 12, b1⟩]) (by kernel_rfl) (by kernel_rfl) HE.drew ?_
      clear HE
      refine WQ.step (fun K hK => ?_)
      go_simp
      refine ⟨.bool false, fun w' hw => ?_, ?_⟩
      · obtain ⟨p0, p1, p2, p3, p4, p5⟩ := hw.c3 (.head _)
        first
          | with_reducible rfl
          | go_simp
      refine hK _ ?_
      clear hK K
      refine WQ.step (fun K hK => ?_)
      go_simp
      refine ⟨.bool false, fun w' hw => ?_, ?_⟩
      · obtain ⟨p0, p1, p2, p3, p4, p5⟩ := hw.c3 (.head _)
        first
          | with_reducible rfl
          | go_simp
      refine hK _ ?_
      clear hK K
      refine WQ.step (fun K hK => ?_)
      go_simp
      refine hK _ ?_
      clear hK K
      refine WQ.step (fun K hK => ?_)
      go_simp
      refine hK _ ?_
      clear hK K
      refine WQ.step (fun K hK => ?_)
      go_simp
      refine hK _ ?_
      clear hK K
      refine WQ.step (fun K hK => ?_)
      go_simp
      refine hK _ ?_
      clear hK K
      refine WQ.step (fun K hK => ?_)
      go_simp
      refine hK _ ?_
      clear hK K
      refine WQ.step (fun K hK => ?_)
      go_simp
      refine hK _ ?_
      clear hK K
      refine WQ.step (fun K hK => ?_)
      go_simp
      refine hK _ ?_
      clear hK K
      refine WQ.step (fun K hK => ?_)
      go_simp
      refine hK _ ?_
      clear hK K
      refine WQ.step (fun K hK => ?_)
      go_simp
      refine hK _ ?_
      clear hK K
      refine WQ.step (fun K hK => ?_)
      go_simp
      refine hK _ ?_
      clear hK K
      refine WQ.step (fun K hK => ?_)
      go_simp
      refine hK _ ?_
      clear hK K
      refine WQ.step (fun K hK => ?_)
      go_simp
      refine ⟨.bool false, fun w' hw => ?_, ?_⟩
      · obtain ⟨p0, p1, p2, p3, p4, p5⟩ := hw.c3 (.head _)
        first
          | with_reducible rfl
          | go_simp
      refine hK _ ?_
      clear hK K
      refine WQ.step (fun K hK => ?_)
      go_simp
      refine ⟨.bool false, fun w' hw => ?_, ?_⟩
      · obtain ⟨p0, p1, p2, p3, p4, p5⟩ := hw.c3 (.head _)
        first
          | with_reducible rfl
          | go_simp
      refine hK _ ?_
      clear hK K
      refine WQ.step (fun K hK => ?_)
      go_simp
      refine ⟨.bool false, fun w' hw => ?_, ?_⟩
      · obtain ⟨p0, p1, p2, p3, p4, p5⟩ := hw.c3 (.head _)
        first
          | with_reducible rfl
          | go_simp
      refine hK _ ?_
      clear hK K
      refine WQ.step (fun K hK => ?_)
      go_simp
      refine ⟨.bool true, fun w' hw => ?_, ?_⟩
      · obtain ⟨p0, p1, p2, p3, p4, p5⟩ := hw.c3 (.head _)
        first
          | with_reducible rfl
          | go_simp
      refine hK _ ?_
      clear hK K
      refine WQ.step (fun K hK => ?_)
      go_simp
      refine ⟨.bool true, fun w' hw => ?_, ?_⟩
      · obtain ⟨p0, p1, p2, p3, p4, p5⟩ := hw.c3 (.head _)
        first
          | with_reducible rfl
          | go_simp
      refine hK _ ?_
      clear hK K
      refine WQ.step (fun K hK => ?_)
      go_simp
      refine ⟨.agg #[.bool s3, .slice A3 n3 c3, .slice B3 m3 d3], fun w' hw => ?_, ?_⟩
      · obtain ⟨p0, p1, p2, p3, p4, p5⟩ := hw.c3 (.head _)
        first
          | with_reducible rfl
          | go_simp
      refine hK _ ?_
      clear hK K
      refine WQ.step (fun K hK => ?_)
      go_simp
      refine ⟨.int .i64 0, fun w' hw => ?_, ?_⟩
      · obtain ⟨p0, p1, p2, p3, p4, p5⟩ := hw.c3 (.head _)
        go_simp
        exact fsign_z hw (.head _) (by omega)
      refine hK _ ?_
      clear hK K
      refine WQ.step (fun K hK => ?_)
      go_simp
      refine ⟨.bool false, fun w' hw => ?_, ?_⟩
      · obtain ⟨p0, p1, p2, p3, p4, p5⟩ := hw.c3 (.head _)
        first
          | with_reducible rfl
          | go_simp
      refine hK _ ?_
      clear hK K
      refine WQ.step (fun K hK => ?_)
      go_simp
      refine ⟨.bool false, fun w' hw => ?_, ?_⟩
      · obtain ⟨p0, p1, p2, p3, p4, p5⟩ := hw.c3 (.head _)
        first
          | with_reducible rfl
          | go_simp
      refine hK _ ?_
      clear hK K
      refine WQ.step (fun K hK => ?_)
      go_simp
      refine ⟨.bool false, fun w' hw => ?_, ?_⟩
      · obtain ⟨p0, p1, p2, p3, p4, p5⟩ := hw.c3 (.head _)
        first
          | with_reducible rfl
          | go_simp
      refine hK _ ?_
      clear hK K
      refine WQ.nil ?_
      intro wq HE
      obtain ⟨q36, q37, q38, q39, q40, q41⟩ := HE.c3 (.tail _ (.tail _ (.head _)))
      go_wp2_with fail
      refine (fgrid_v (q := q1) HE (by first | exact .head _ | exact .tail _ (.head _) | exact .tail _ (.tail _ (.head _)) | exact .tail _ (.tail _ (.tail _ (.head _))) | exact .tail _ (.tail _ (.tail _ (.tail _ (.head _)))) | exact .tail _ (.tail _ (.tail _ (.tail _ (.tail _ (.head _))))) | exact .tail _ (.tail _ (.tail _ (.tail _ (.tail _ (.tail _ (.head _)))))) | exact .tail _ (.tail _ (.tail _ (.tail _ (.tail _ (.tail _ (.tail _ (.head _))))))) | exact .tail _ (.tail _ (.tail _ (.tail _ (.tail _ (.tail _ (.tail _ (.tail _ (.head _)))))))) | exact .tail _ (.tail _ (.tail _ (.tail _ (.tail _ (.tail _ (.tail _ (.tail _ (.tail _ (.head _))))))))) | exact .tail _ (.tail _ (.tail _ (.tail _ (.tail _ (.tail _ (.tail _ (.tail _ (.tail _ (.tail _ (.head _)))))))))) | exact .tail _ (.tail _ (.tail _ (.tail _ (.tail _ (.tail _ (.tail _ (.tail _ (.tail _ (.tail _ (.tail _ (.head _))))))))))) | exact .tail _ (.tail _ (.tail _ (.tail _ (.tail _ (.tail _ (.tail _ (.tail _ (.tail _ (.tail _ (.tail _ (.tail _ (.head _)))))))))))) | exact .tail _ (.tail _ (.tail _ (.tail _ (.tail _ (.tail _ (.tail _ (.tail _ (.tail _ (.tail _ (.tail _ (.tail _ (.tail _ (.head _)))))))))))))) (by omega) (by omega)).mono ?_
      rw [PQ.out]
      clear HE
      rintro e w6 ⟨s4, A4, n4, c4, B4, m4, d4, rfl, HE⟩
      replace HE := HE.box3 (.bool s4) (.slice A4 n4 c4) (.slice B4 m4 d4)
      clear q36 q37 q38 q39 q40 q41
      go_wp2_with fail
      refine (fmake_f HE (by omega) (by omega) (by have := PP.out; omega) (by have := PP.out; omega) (by have := PP.out; omega)).mono ?_
      clear HE
      rintro e w7 ⟨s5, A5, n5, c5, B5, m5, d5, rfl, HE⟩
      replace HE := HE.box3 (.bool s5) (.slice A5 n5 c5) (.slice B5 m5 d5)
      obtain ⟨q42, q43, q44, q45, q46, q47⟩ := HE.c3 (.tail _ (.head _))
      obtain ⟨q48, q49, q50, q51, q52, q53⟩ := HE.c3 (.tail _ (.tail _ (.tail _ (.tail _ (.head _)))))
      go_wp2_with fail
      refine (fsub_w (q := q1) HE (by first | exact .head _ | exact .tail _ (.head _) | exact .tail _ (.tail _ (.head _)) | exact .tail _ (.tail _ (.tail _ (.head _))) | exact .tail _ (.tail _ (.tail _ (.tail _ (.head _)))) | exact .tail _ (.tail _ (.tail _ (.tail _ (.tail _ (.head _))))) | exact .tail _ (.tail _ (.tail _ (.tail _ (.tail _ (.tail _ (.head _)))))) | exact .tail _ (.tail _ (.tail _ (.tail _ (.tail _ (.tail _ (.tail _ (.head _))))))) | exact .tail _ (.tail _ (.tail _ (.tail _ (.tail _ (.tail _ (.tail _ (.tail _ (.head _)))))))) | exact .tail _ (.tail _ (.tail _ (.tail _ (.tail _ (.tail _ (.tail _ (.tail _ (.tail _ (.head _))))))))) | exact .tail _ (.tail _ (.tail _ (.tail _ (.tail _ (.tail _ (.tail _ (.tail _ (.tail _ (.tail _ (.head _)))))))))) | exact .tail _ (.tail _ (.tail _ (.tail _ (.tail _ (.tail _ (.tail _ (.tail _ (.tail _ (.tail _ (.tail _ (.head _))))))))))) | exact .tail _ (.tail _ (.tail _ (.tail _ (.tail _ (.tail _ (.tail _ (.tail _ (.tail _ (.tail _ (.tail _ (.tail _ (.head _)))))))))))) | exact .tail _ (.tail _ (.tail _ (.tail _ (.tail _ (.tail _ (.tail _ (.tail _ (.tail _ (.tail _ (.tail _ (.tail _ (.tail _ (.head _)))))))))))))) (.tail _ (.head _)) (by omega)).mono ?_
      clear HE
      rintro e w8 ⟨s6, A6, n6, c6, B6, m6, d6, rfl, HE⟩
      replace HE := HE.box3 (.bool s6) (.slice A6 n6 c6) (.slice B6 m6 d6)
      clear q42 q43 q44 q45 q46 q47 q48 q49 q50 q51 q52 q53
      obtain ⟨q54, q55, q56, q57, q58, q59⟩ := HE.c3 (.tail _ (.head _))
      obtain ⟨q60, q61, q62, q63, q64, q65⟩ := HE.c3 (.tail _ (.tail _ (.head _)))
      go_wp2_with fail
      refine (fdiv_v HE (.tail _ (.tail _ (.head _))) (.tail _ (.head _)) (by omega) GF.out.1).mono ?_
      clear HE
      rintro e w9 ⟨s7, A7, n7, c7, B7, m7, d7, rfl, HE⟩
      replace HE := HE.box3 (.bool s7) (.slice A7 n7 c7) (.slice B7 m7 d7)
      clear q54 q55 q56 q57 q58 q59 q60 q61 q62 q63 q64 q65
      obtain ⟨q66, q67, q68, q69, q70, q71⟩ := HE.c3 (.head _)
      go_wp2_with fail
      refine (fparts_v HE (.head _) (by omega)).mono ?_
      rw [GF.out.2.2.2]
      clear HE
      rintro e w10 ⟨s8, A8, n8, c8, s9, A9, n9, c9, rfl, HE⟩
      replace HE := (HE.box2 (.bool s8) (.slice A8 n8 c8)).box2 (.bool s9) (.slice A9 n9 c9)
      simp only [World.size_alloc] at HE
      clear q66 q67 q68 q69 q70 q71
      obtain ⟨q72, q73, q74, q75⟩ := HE.c2 (.head _)
      obtain ⟨q76, q77, q78, q79, q80, q81⟩ := HE.c3 (.tail _ (.head _))
      obtain ⟨q82, q83, q84, q85, q86, q87⟩ := HE.c3 (.tail _ (.tail _ (.head _)))
      obtain ⟨sd, hsd⟩ : ∃ sd : Int, sgQ (q1 - Rat.divInt (q1.num * (P : Int) / (q1.den : Int)) (P : Int)) = sd := ⟨_, rfl⟩
      have hsg := GF.out.2.1
      rw [hsd] at hsg
      have SG := Lib.hid hsd
      clear hsd
      go_wp2_with fail
      clear q72 q73 q74 q75 q76 q77 q78 q79 q80 q81 q82 q83 q84 q85 q86 q87
      go_region_held3 (fun w' => w'.cell? ⟨w8.heap.size, 0, none⟩ = some (.bool s6) ∧ w'.cell? ⟨w8.heap.size, 1, none⟩ = some (.slice A6 n6 c6) ∧ w'.cell? ⟨w8.heap.size, 2, none⟩ = some (.slice B6 m6 d6) ∧ w'.cell? ⟨w7.heap.size, 0, none⟩ = some (.bool s5) ∧ w'.cell? ⟨w7.heap.size, 1, none⟩ = some (.slice A5 n5 c5) ∧ w'.cell? ⟨w7.heap.size, 2, none⟩ = some (.slice B5 m5 d5) ∧ w'.cell? ⟨w10.heap.size + 1, 0, none⟩ = some (.bool s9) ∧ w'.cell? ⟨w10.heap.size + 1, 1, none⟩ = some (.slice A9 n9 c9)) (first | exact ⟨(HE.c3 (.tail _ (.head _))).1, (HE.c3 (.tail _ (.head _))).2.1, (HE.c3 (.tail _ (.head _))).2.2.1, (HE.c3 (.tail _ (.tail _ (.head _)))).1, (HE.c3 (.tail _ (.tail _ (.head _)))).2.1, (HE.c3 (.tail _ (.tail _ (.head _)))).2.2.1, (HE.c2 (.head _)).1, (HE.c2 (.head _)).2.1⟩ | exact ⟨(HE.drew.c3 (.tail _ (.head _))).1, (HE.drew.c3 (.tail _ (.head _))).2.1, (HE.drew.c3 (.tail _ (.head _))).2.2.1, (HE.drew.c3 (.tail _ (.tail _ (.head _)))).1, (HE.drew.c3 (.tail _ (.tail _ (.head _)))).2.1, (HE.drew.c3 (.tail _ (.tail _ (.head _)))).2.2.1, (HE.drew.c2 (.head _)).1, (HE.drew.c2 (.head _)).2.1⟩)
        (first
          | (go_at_call 32; refine (fsign_v (by first | exact HE | exact HE.drew) (by first | exact .head _ | exact .tail _ (.head _) | exact .tail _ (.tail _ (.head _)) | exact .tail _ (.tail _ (.tail _ (.head _))) | exact .tail _ (.tail _ (.tail _ (.tail _ (.head _)))) | exact .tail _ (.tail _ (.tail _ (.tail _ (.tail _ (.head _))))) | exact .tail _ (.tail _ (.tail _ (.tail _ (.tail _ (.tail _ (.head _)))))) | exact .tail _ (.tail _ (.tail _ (.tail _ (.tail _ (.tail _ (.tail _ (.head _))))))) | exact .tail _ (.tail _ (.tail _ (.tail _ (.tail _ (.tail _ (.tail _ (.tail _ (.head _)))))))) | exact .tail _ (.tail _ (.tail _ (.tail _ (.tail _ (.tail _ (.tail _ (.tail _ (.tail _ (.head _))))))))) | exact .tail _ (.tail _ (.tail _ (.tail _ (.tail _ (.tail _ (.tail _ (.tail _ (.tail _ (.tail _ (.head _)))))))))) | exact .tail _ (.tail _ (.tail _ (.tail _ (.tail _ (.tail _ (.tail _ (.tail _ (.tail _ (.tail _ (.tail _ (.head _))))))))))) | exact .tail _ (.tail _ (.tail _ (.tail _ (.tail _ (.tail _ (.tail _ (.tail _ (.tail _ (.tail _ (.tail _ (.tail _ (.head _)))))))))))) | exact .tail _ (.tail _ (.tail _ (.tail _ (.tail _ (.tail _ (.tail _ (.tail _ (.tail _ (.tail _ (.tail _ (.tail _ (.tail _ (.head _)))))))))))))) (by omega)).mono ?_; rintro e wn ⟨rfl, HE⟩; rw [SG.out])
          | (go_at_call 40; refine (fcmp_v (by first | exact HE | exact HE.drew) (.tail _ (.head _)) (.tail _ (.tail _ (.head _))) (by omega)).mono ?_; rintro e wn ⟨rfl, HE⟩; rw [GF.out.2.2.1])
          | (go_at_call 62; refine (iof_f (by first | exact HE | exact HE.drew) (by omega) (by omega)).mono ?_; rintro e wn ⟨sx, Ax, nx, cx, rfl, HE⟩)
          | (go_at_call 61; refine (icmp_f (by first | exact HE | exact HE.drew) (by first | exact .head _ | exact .tail _ (.head _) | exact .tail _ (.tail _ (.head _)) | exact .tail _ (.tail _ (.tail _ (.head _))) | exact .tail _ (.tail _ (.tail _ (.tail _ (.head _)))) | exact .tail _ (.tail _ (.tail _ (.tail _ (.tail _ (.head _))))) | exact .tail _ (.tail _ (.tail _ (.tail _ (.tail _ (.tail _ (.head _)))))) | exact .tail _ (.tail _ (.tail _ (.tail _ (.tail _ (.tail _ (.tail _ (.head _))))))) | exact .tail _ (.tail _ (.tail _ (.tail _ (.tail _ (.tail _ (.tail _ (.tail _ (.head _)))))))) | exact .tail _ (.tail _ (.tail _ (.tail _ (.tail _ (.tail _ (.tail _ (.tail _ (.tail _ (.head _))))))))) | exact .tail _ (.tail _ (.tail _ (.tail _ (.tail _ (.tail _ (.tail _ (.tail _ (.tail _ (.tail _ (.head _)))))))))) | exact .tail _ (.tail _ (.tail _ (.tail _ (.tail _ (.tail _ (.tail _ (.tail _ (.tail _ (.tail _ (.tail _ (.head _))))))))))) | exact .tail _ (.tail _ (.tail _ (.tail _ (.tail _ (.tail _ (.tail _ (.tail _ (.tail _ (.tail _ (.tail _ (.tail _ (.head _)))))))))))) | exact .tail _ (.tail _ (.tail _ (.tail _ (.tail _ (.tail _ (.tail _ (.tail _ (.tail _ (.tail _ (.tail _ (.tail _ (.tail _ (.head _)))))))))))))) (by first | exact .head _ | exact .tail _ (.head _) | exact .tail _ (.tail _ (.head _)) | exact .tail _ (.tail _ (.tail _ (.head _))) | exact .tail _ (.tail _ (.tail _ (.tail _ (.head _)))) | exact .tail _ (.tail _ (.tail _ (.tail _ (.tail _ (.head _))))) | exact .tail _ (.tail _ (.tail _ (.tail _ (.tail _ (.tail _ (.head _)))))) | exact .tail _ (.tail _ (.tail _ (.tail _ (.tail _ (.tail _ (.tail _ (.head _))))))) | exact .tail _ (.tail _ (.tail _ (.tail _ (.tail _ (.tail _ (.tail _ (.tail _ (.head _)))))))) | exact .tail _ (.tail _ (.tail _ (.tail _ (.tail _ (.tail _ (.tail _ (.tail _ (.tail _ (.head _))))))))) | exact .tail _ (.tail _ (.tail _ (.tail _ (.tail _ (.tail _ (.tail _ (.tail _ (.tail _ (.tail _ (.head _)))))))))) | exact .tail _ (.tail _ (.tail _ (.tail _ (.tail _ (.tail _ (.tail _ (.tail _ (.tail _ (.tail _ (.tail _ (.head _))))))))))) | exact .tail _ (.tail _ (.tail _ (.tail _ (.tail _ (.tail _ (.tail _ (.tail _ (.tail _ (.tail _ (.tail _ (.tail _ (.head _)))))))))))) | exact .tail _ (.tail _ (.tail _ (.tail _ (.tail _ (.tail _ (.tail _ (.tail _ (.tail _ (.tail _ (.tail _ (.tail _ (.tail _ (.head _)))))))))))))) (by omega)).mono ?_; rintro e wn ⟨rfl, HE⟩; rw [cmpI_eq]))
      go_wp2_with fail
      go_ret
      exact ⟨rfl, HE.below⟩
end Go.Proofs.YtdecmhcojdnokaaGreatDoor
