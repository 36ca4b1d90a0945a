/- Walk of the law FractionOrder. -/
import Derived.Test.YtdecmhcojdnokaaGreatDoorFawake
import Derived.Test.YtdecmhcojdnokaaGreatDoorFq
import Derived.Deep.RegionHeld3
namespace Go.Proofs.YtdecmhcojdnokaaGreatDoor
open Go Go.RowKit Lw
set_option maxRecDepth 100000 in
set_option maxHeartbeats 6000000 in
theorem forder_any (s1 s2 s3 b1 b2 b3 : Bool) (A1 A2 A3 B1 B2 B3 : Option Addr) (n1 n2 n3 c1 c2 c3 m1 m2 m3 d1 d2 d3 k1 k2 k3 : Nat) (q1 q2 q3 : Rat) (w : World) (ht : Tz w) (hb : Tab w) (hx : Mx w)
    (f1 : Fop w ⟨.agg #[.bool s1, .slice A1 n1 c1, .slice B1 m1 d1], q1, k1, b1⟩) (f2 : Fop w ⟨.agg #[.bool s2, .slice A2 n2 c2, .slice B2 m2 d2], q2, k2, b2⟩) (f3 : Fop w ⟨.agg #[.bool s3, .slice A3 n3 c3, .slice B3 m3 d3], q3, k3, b3⟩) :
    Calls Tryz.prog 8 #[.agg #[.bool s1, .slice A1 n1 c1, .slice B1 m1 d1], .agg #[.bool s2, .slice A2 n2 c2, .slice B2 m2 d2], .agg #[.bool s3, .slice A3 n3 c3, .slice B3 m3 d3]] w fun e w' => e = .returned (.bool true) ∧ Below w.heap.size w w' := by
  have HT := Lib.hid ht
  have HB := Lib.hid hb
  have HX := Lib.hid hx
  have hE0 := fstart3 ht hb f1 f2 f3 (.cells #[.bool s1, .slice A1 n1 c1, .slice B1 m1 d1, .bool s2, .slice A2 n2 c2, .slice B2 m2 d2, .bool s3, .slice A3 n3 c3, .slice B3 m3 d3] 24)
  have hg := heap_alloc_new (((w.alloc (.cells #[.bool s1, .slice A1 n1 c1, .slice B1 m1 d1] 24)).alloc (.cells #[.bool s2, .slice A2 n2 c2, .slice B2 m2 d2] 24)).alloc (.cells #[.bool s3, .slice A3 n3 c3, .slice B3 m3 d3] 24)) (.cells #[.bool s1, .slice A1 n1 c1, .slice B1 m1 d1, .bool s2, .slice A2 n2 c2, .slice B2 m2 d2, .bool s3, .slice A3 n3 c3, .slice B3 m3 d3] 24)
  rw [World.size_alloc, World.size_alloc, World.size_alloc] at hg
  have hs := fun W hg => fshort_any [⟨s1, A1, n1, c1, B1, m1, d1⟩, ⟨s2, A2, n2, c2, B2, m2, d2⟩, ⟨s3, A3, n3, c3, B3, m3, d3⟩] (w.heap.size + 1 + 1 + 1) 3 24 W hg rfl (by omega)
  have HS := Lib.hid (hs _ hg)
  have HE0 := Lib.hid hE0
  clear hE0 hg hs ht hb hx f1 f2 f3
  go_enter Tryz.func8, Tryz.ntmps8
  go_wp2_with fail
  refine HS.out.mono ?_
  rintro e w1 ⟨rfl, hb1⟩
  have HE1 := Lib.hid (HE0.out.next hb1)
  clear HE0 HS hb1
  cases hf : ffew [⟨s1, A1, n1, c1, B1, m1, d1⟩, ⟨s2, A2, n2, c2, B2, m2, d2⟩, ⟨s3, A3, n3, c3, B3, m3, d3⟩]
  · go_wp2_with fail
    refine (fawake_any _ (HT.out.next HE1.out.below) (HB.out.next HE1.out.below) (HX.out.next HE1.out.below)).mono ?_
    rintro e w2 ⟨rfl, hb2⟩
    have hbb := below_next HE1.out.below hb2 (Nat.le_refl _)
    clear HE1 hb2
    go_wp2_with fail
    go_ret
    exact ⟨rfl, hbb⟩
  · have HE2 := Lib.hid (fcut3 HE1.out hf)
    clear hf HE1
    go_wp2_with fail
    refine (fawake_any _ (HT.out.next HE2.out.below) (HB.out.next HE2.out.below) (HX.out.next HE2.out.below)).mono ?_
    rintro e w2 ⟨rfl, hb2⟩
    have HE := HE2.out.next hb2
    clear HE2 hb2 HT HB HX
    have e1 : IntKind.i64.wrap (-(cmpQ q2 q1)) = cmpQ q1 q2 := by rw [← cmpQ_swap]; exact wrap_cmp (cmpQ_bounds _ _)
    have e2 : cmpQ (q1 + q3) (q2 + q3) = cmpQ q1 q2 := cmpQ_add _ _ _
    have e3 : IntKind.i64.wrap (cmpQ q1 q2 * sgQ q3) = cmpQ (q1 * q3) (q2 * q3) := by rw [← cmpQ_mul]; exact wrap_cmp (cmpQ_bounds _ _)
    have HT3 : Hid (cmpQ q1 q2 ≤ 0 → cmpQ q2 q3 ≤ 0 → cmpQ q1 q3 ≤ 0) := Lib.hid cmpQ_trans
    
    go_wp2_with fail
    go_region_held3 (fun w' => w'.cell? ⟨w.heap.size, 0, none⟩ = some (.bool s1) ∧ w'.cell? ⟨w.heap.size, 1, none⟩ = some (.slice A1 n1 c1) ∧ w'.cell? ⟨w.heap.size, 2, none⟩ = some (.slice B1 m1 d1) ∧ w'.cell? ⟨w.heap.size + 1, 0, none⟩ = some (.bool s2) ∧ w'.cell? ⟨w.heap.size + 1, 1, none⟩ = some (.slice A2 n2 c2) ∧ w'.cell? ⟨w.heap.size + 1, 2, none⟩ = some (.slice B2 m2 d2) ∧ w'.cell? ⟨w.heap.size + 1 + 1, 0, none⟩ = some (.bool s3) ∧ w'.cell? ⟨w.heap.size + 1 + 1, 1, none⟩ = some (.slice A3 n3 c3) ∧ w'.cell? ⟨w.heap.size + 1 + 1, 2, none⟩ = some (.slice B3 m3 d3)) (first | exact (HE.c9 (.tail _ (.tail _ (.head _))) (.tail _ (.head _)) (.head _)) | exact (HE.drew.c9 (.tail _ (.tail _ (.head _))) (.tail _ (.head _)) (.head _)))
      (first
        | (go_at_call 34; refine (fadd_v (by first | exact HE | exact HE.drew) (by first | exact .head _ | exact .tail _ (.head _) | exact .tail _ (.tail _ (.head _)) | exact .tail _ (.tail _ (.tail _ (.head _))) | exact .tail _ (.tail _ (.tail _ (.tail _ (.head _)))) | exact .tail _ (.tail _ (.tail _ (.tail _ (.tail _ (.head _))))) | exact .tail _ (.tail _ (.tail _ (.tail _ (.tail _ (.tail _ (.head _)))))) | exact .tail _ (.tail _ (.tail _ (.tail _ (.tail _ (.tail _ (.tail _ (.head _))))))) | exact .tail _ (.tail _ (.tail _ (.tail _ (.tail _ (.tail _ (.tail _ (.tail _ (.head _)))))))) | exact .tail _ (.tail _ (.tail _ (.tail _ (.tail _ (.tail _ (.tail _ (.tail _ (.tail _ (.head _))))))))) | exact .tail _ (.tail _ (.tail _ (.tail _ (.tail _ (.tail _ (.tail _ (.tail _ (.tail _ (.tail _ (.head _)))))))))) | exact .tail _ (.tail _ (.tail _ (.tail _ (.tail _ (.tail _ (.tail _ (.tail _ (.tail _ (.tail _ (.tail _ (.head _))))))))))) | exact .tail _ (.tail _ (.tail _ (.tail _ (.tail _ (.tail _ (.tail _ (.tail _ (.tail _ (.tail _ (.tail _ (.tail _ (.head _)))))))))))) | exact .tail _ (.tail _ (.tail _ (.tail _ (.tail _ (.tail _ (.tail _ (.tail _ (.tail _ (.tail _ (.tail _ (.tail _ (.tail _ (.head _)))))))))))))) (by first | exact .head _ | exact .tail _ (.head _) | exact .tail _ (.tail _ (.head _)) | exact .tail _ (.tail _ (.tail _ (.head _))) | exact .tail _ (.tail _ (.tail _ (.tail _ (.head _)))) | exact .tail _ (.tail _ (.tail _ (.tail _ (.tail _ (.head _))))) | exact .tail _ (.tail _ (.tail _ (.tail _ (.tail _ (.tail _ (.head _)))))) | exact .tail _ (.tail _ (.tail _ (.tail _ (.tail _ (.tail _ (.tail _ (.head _))))))) | exact .tail _ (.tail _ (.tail _ (.tail _ (.tail _ (.tail _ (.tail _ (.tail _ (.head _)))))))) | exact .tail _ (.tail _ (.tail _ (.tail _ (.tail _ (.tail _ (.tail _ (.tail _ (.tail _ (.head _))))))))) | exact .tail _ (.tail _ (.tail _ (.tail _ (.tail _ (.tail _ (.tail _ (.tail _ (.tail _ (.tail _ (.head _)))))))))) | exact .tail _ (.tail _ (.tail _ (.tail _ (.tail _ (.tail _ (.tail _ (.tail _ (.tail _ (.tail _ (.tail _ (.head _))))))))))) | exact .tail _ (.tail _ (.tail _ (.tail _ (.tail _ (.tail _ (.tail _ (.tail _ (.tail _ (.tail _ (.tail _ (.tail _ (.head _)))))))))))) | exact .tail _ (.tail _ (.tail _ (.tail _ (.tail _ (.tail _ (.tail _ (.tail _ (.tail _ (.tail _ (.tail _ (.tail _ (.tail _ (.head _)))))))))))))) (by omega)).mono ?_; rintro e wn ⟨u, rfl, HE⟩)
        | (go_at_call 38; refine (fmul_v (by first | exact HE | exact HE.drew) (by first | exact .head _ | exact .tail _ (.head _) | exact .tail _ (.tail _ (.head _)) | exact .tail _ (.tail _ (.tail _ (.head _))) | exact .tail _ (.tail _ (.tail _ (.tail _ (.head _)))) | exact .tail _ (.tail _ (.tail _ (.tail _ (.tail _ (.head _))))) | exact .tail _ (.tail _ (.tail _ (.tail _ (.tail _ (.tail _ (.head _)))))) | exact .tail _ (.tail _ (.tail _ (.tail _ (.tail _ (.tail _ (.tail _ (.head _))))))) | exact .tail _ (.tail _ (.tail _ (.tail _ (.tail _ (.tail _ (.tail _ (.tail _ (.head _)))))))) | exact .tail _ (.tail _ (.tail _ (.tail _ (.tail _ (.tail _ (.tail _ (.tail _ (.tail _ (.head _))))))))) | exact .tail _ (.tail _ (.tail _ (.tail _ (.tail _ (.tail _ (.tail _ (.tail _ (.tail _ (.tail _ (.head _)))))))))) | exact .tail _ (.tail _ (.tail _ (.tail _ (.tail _ (.tail _ (.tail _ (.tail _ (.tail _ (.tail _ (.tail _ (.head _))))))))))) | exact .tail _ (.tail _ (.tail _ (.tail _ (.tail _ (.tail _ (.tail _ (.tail _ (.tail _ (.tail _ (.tail _ (.tail _ (.head _)))))))))))) | exact .tail _ (.tail _ (.tail _ (.tail _ (.tail _ (.tail _ (.tail _ (.tail _ (.tail _ (.tail _ (.tail _ (.tail _ (.tail _ (.head _)))))))))))))) (by first | exact .head _ | exact .tail _ (.head _) | exact .tail _ (.tail _ (.head _)) | exact .tail _ (.tail _ (.tail _ (.head _))) | exact .tail _ (.tail _ (.tail _ (.tail _ (.head _)))) | exact .tail _ (.tail _ (.tail _ (.tail _ (.tail _ (.head _))))) | exact .tail _ (.tail _ (.tail _ (.tail _ (.tail _ (.tail _ (.head _)))))) | exact .tail _ (.tail _ (.tail _ (.tail _ (.tail _ (.tail _ (.tail _ (.head _))))))) | exact .tail _ (.tail _ (.tail _ (.tail _ (.tail _ (.tail _ (.tail _ (.tail _ (.head _)))))))) | exact .tail _ (.tail _ (.tail _ (.tail _ (.tail _ (.tail _ (.tail _ (.tail _ (.tail _ (.head _))))))))) | exact .tail _ (.tail _ (.tail _ (.tail _ (.tail _ (.tail _ (.tail _ (.tail _ (.tail _ (.tail _ (.head _)))))))))) | exact .tail _ (.tail _ (.tail _ (.tail _ (.tail _ (.tail _ (.tail _ (.tail _ (.tail _ (.tail _ (.tail _ (.head _))))))))))) | exact .tail _ (.tail _ (.tail _ (.tail _ (.tail _ (.tail _ (.tail _ (.tail _ (.tail _ (.tail _ (.tail _ (.tail _ (.head _)))))))))))) | exact .tail _ (.tail _ (.tail _ (.tail _ (.tail _ (.tail _ (.tail _ (.tail _ (.tail _ (.tail _ (.tail _ (.tail _ (.tail _ (.head _)))))))))))))) (by omega)).mono ?_; rintro e wn ⟨u, rfl, HE⟩)
        | (go_at_call 40; refine (fcmp_v (by first | exact HE | exact HE.drew) (by first | exact .head _ | exact .tail _ (.head _) | exact .tail _ (.tail _ (.head _)) | exact .tail _ (.tail _ (.tail _ (.head _))) | exact .tail _ (.tail _ (.tail _ (.tail _ (.head _)))) | exact .tail _ (.tail _ (.tail _ (.tail _ (.tail _ (.head _))))) | exact .tail _ (.tail _ (.tail _ (.tail _ (.tail _ (.tail _ (.head _)))))) | exact .tail _ (.tail _ (.tail _ (.tail _ (.tail _ (.tail _ (.tail _ (.head _))))))) | exact .tail _ (.tail _ (.tail _ (.tail _ (.tail _ (.tail _ (.tail _ (.tail _ (.head _)))))))) | exact .tail _ (.tail _ (.tail _ (.tail _ (.tail _ (.tail _ (.tail _ (.tail _ (.tail _ (.head _))))))))) | exact .tail _ (.tail _ (.tail _ (.tail _ (.tail _ (.tail _ (.tail _ (.tail _ (.tail _ (.tail _ (.head _)))))))))) | exact .tail _ (.tail _ (.tail _ (.tail _ (.tail _ (.tail _ (.tail _ (.tail _ (.tail _ (.tail _ (.tail _ (.head _))))))))))) | exact .tail _ (.tail _ (.tail _ (.tail _ (.tail _ (.tail _ (.tail _ (.tail _ (.tail _ (.tail _ (.tail _ (.tail _ (.head _)))))))))))) | exact .tail _ (.tail _ (.tail _ (.tail _ (.tail _ (.tail _ (.tail _ (.tail _ (.tail _ (.tail _ (.tail _ (.tail _ (.tail _ (.head _)))))))))))))) (by first | exact .head _ | exact .tail _ (.head _) | exact .tail _ (.tail _ (.head _)) | exact .tail _ (.tail _ (.tail _ (.head _))) | exact .tail _ (.tail _ (.tail _ (.tail _ (.head _)))) | exact .tail _ (.tail _ (.tail _ (.tail _ (.tail _ (.head _))))) | exact .tail _ (.tail _ (.tail _ (.tail _ (.tail _ (.tail _ (.head _)))))) | exact .tail _ (.tail _ (.tail _ (.tail _ (.tail _ (.tail _ (.tail _ (.head _))))))) | exact .tail _ (.tail _ (.tail _ (.tail _ (.tail _ (.tail _ (.tail _ (.tail _ (.head _)))))))) | exact .tail _ (.tail _ (.tail _ (.tail _ (.tail _ (.tail _ (.tail _ (.tail _ (.tail _ (.head _))))))))) | exact .tail _ (.tail _ (.tail _ (.tail _ (.tail _ (.tail _ (.tail _ (.tail _ (.tail _ (.tail _ (.head _)))))))))) | exact .tail _ (.tail _ (.tail _ (.tail _ (.tail _ (.tail _ (.tail _ (.tail _ (.tail _ (.tail _ (.tail _ (.head _))))))))))) | exact .tail _ (.tail _ (.tail _ (.tail _ (.tail _ (.tail _ (.tail _ (.tail _ (.tail _ (.tail _ (.tail _ (.tail _ (.head _)))))))))))) | exact .tail _ (.tail _ (.tail _ (.tail _ (.tail _ (.tail _ (.tail _ (.tail _ (.tail _ (.tail _ (.tail _ (.tail _ (.tail _ (.head _)))))))))))))) (by omega)).mono ?_; rintro e wn ⟨rfl, HE⟩)
        | (go_at_call 32; refine (fsign_v (by first | exact HE | exact HE.drew) (by first | exact .head _ | exact .tail _ (.head _) | exact .tail _ (.tail _ (.head _)) | exact .tail _ (.tail _ (.tail _ (.head _))) | exact .tail _ (.tail _ (.tail _ (.tail _ (.head _)))) | exact .tail _ (.tail _ (.tail _ (.tail _ (.tail _ (.head _))))) | exact .tail _ (.tail _ (.tail _ (.tail _ (.tail _ (.tail _ (.head _)))))) | exact .tail _ (.tail _ (.tail _ (.tail _ (.tail _ (.tail _ (.tail _ (.head _))))))) | exact .tail _ (.tail _ (.tail _ (.tail _ (.tail _ (.tail _ (.tail _ (.tail _ (.head _)))))))) | exact .tail _ (.tail _ (.tail _ (.tail _ (.tail _ (.tail _ (.tail _ (.tail _ (.tail _ (.head _))))))))) | exact .tail _ (.tail _ (.tail _ (.tail _ (.tail _ (.tail _ (.tail _ (.tail _ (.tail _ (.tail _ (.head _)))))))))) | exact .tail _ (.tail _ (.tail _ (.tail _ (.tail _ (.tail _ (.tail _ (.tail _ (.tail _ (.tail _ (.tail _ (.head _))))))))))) | exact .tail _ (.tail _ (.tail _ (.tail _ (.tail _ (.tail _ (.tail _ (.tail _ (.tail _ (.tail _ (.tail _ (.tail _ (.head _)))))))))))) | exact .tail _ (.tail _ (.tail _ (.tail _ (.tail _ (.tail _ (.tail _ (.tail _ (.tail _ (.tail _ (.tail _ (.tail _ (.tail _ (.head _)))))))))))))) (by omega)).mono ?_; rintro e wn ⟨rfl, HE⟩))
    replace HE := HE.tlq.tlq.tlq.tlq
    obtain ⟨p0, p1, p2, p3, p4, p5, p6, p7, p8⟩ := (HE.c9 (.tail _ (.tail _ (.head _))) (.tail _ (.head _)) (.head _))
    cases b1
    · clear p0 p1 p2 p3 p4 p5 p6 p7 p8
      go_wp2_with fail
      refine quiet_in (C := fun w' => FEnv w w' [] [] [⟨w.heap.size + 1 + 1, .bool s3, .slice A3 n3 c3, .slice B3 m3 d3⟩, ⟨w.heap.size + 1, .bool s2, .slice A2 n2 c2, .slice B2 m2 d2⟩, ⟨w.heap.size, .bool s1, .slice A1 n1 c1, .slice B1 m1 d1⟩] [⟨.agg #[.bool s1, .slice A1 n1 c1, .slice B1 m1 d1], q1, 12, false⟩, ⟨.agg #[.bool s2, .slice A2 n2 c2, .slice B2 m2 d2], q2, 12, b2⟩, ⟨.agg #[.bool s3, .slice A3 n3 c3, .slice B3 m3 d3], q3, 12, b3⟩]) (by kernel_rfl) (by kernel_rfl) HE.drew ?_
      clear HE
      refine WQ.step (fun K hK => ?_)
      go_simp
      refine ⟨.agg #[.bool s1, .slice A1 n1 c1, .slice B1 m1 d1], fun w' hw => ?_, ?_⟩
      · obtain ⟨p0, p1, p2, p3, p4, p5, p6, p7, p8⟩ := (hw.c9 (.tail _ (.tail _ (.head _))) (.tail _ (.head _)) (.head _))
        first
          | with_reducible rfl
          | go_simp
      refine hK _ ?_
      clear hK K
      refine WQ.step (fun K hK => ?_)
      go_simp
      refine ⟨.bool false, fun w' hw => ?_, ?_⟩
      · obtain ⟨p0, p1, p2, p3, p4, p5, p6, p7, p8⟩ := (hw.c9 (.tail _ (.tail _ (.head _))) (.tail _ (.head _)) (.head _))
        go_simp
        exact fvalid_v hw (.head _) (by omega)
      refine hK _ ?_
      clear hK K
      refine WQ.step (fun K hK => ?_)
      go_simp
      refine ⟨.bool false, fun w' hw => ?_, ?_⟩
      · obtain ⟨p0, p1, p2, p3, p4, p5, p6, p7, p8⟩ := (hw.c9 (.tail _ (.tail _ (.head _))) (.tail _ (.head _)) (.head _))
        first
          | with_reducible rfl
          | go_simp
      refine hK _ ?_
      clear hK K
      refine WQ.step (fun K hK => ?_)
      go_simp
      refine hK _ ?_
      clear hK K
      refine WQ.step (fun K hK => ?_)
      go_simp
      refine hK _ ?_
      clear hK K
      refine WQ.step (fun K hK => ?_)
      go_simp
      refine ⟨.bool false, fun w' hw => ?_, ?_⟩
      · obtain ⟨p0, p1, p2, p3, p4, p5, p6, p7, p8⟩ := (hw.c9 (.tail _ (.tail _ (.head _))) (.tail _ (.head _)) (.head _))
        first
          | with_reducible rfl
          | go_simp
      refine hK _ ?_
      clear hK K
      refine WQ.step (fun K hK => ?_)
      go_simp
      refine ⟨.bool false, fun w' hw => ?_, ?_⟩
      · obtain ⟨p0, p1, p2, p3, p4, p5, p6, p7, p8⟩ := (hw.c9 (.tail _ (.tail _ (.head _))) (.tail _ (.head _)) (.head _))
        first
          | with_reducible rfl
          | go_simp
      refine hK _ ?_
      clear hK K
      refine WQ.step (fun K hK => ?_)
      go_simp
      refine hK _ ?_
      clear hK K
      refine WQ.step (fun K hK => ?_)
      go_simp
      refine hK _ ?_
      clear hK K
      refine WQ.step (fun K hK => ?_)
      go_simp
      refine hK _ ?_
      clear hK K
      refine WQ.step (fun K hK => ?_)
      go_simp
      refine hK _ ?_
      clear hK K
      refine WQ.step (fun K hK => ?_)
      go_simp
      refine hK _ ?_
      clear hK K
      refine WQ.step (fun K hK => ?_)
      go_simp
      refine hK _ ?_
      clear hK K
      refine WQ.step (fun K hK => ?_)
      go_simp
      refine hK _ ?_
      clear hK K
      refine WQ.step (fun K hK => ?_)
      go_simp
      refine hK _ ?_
      clear hK K
      refine WQ.step (fun K hK => ?_)
      go_simp
      refine ⟨.bool false, fun w' hw => ?_, ?_⟩
      · obtain ⟨p0, p1, p2, p3, p4, p5, p6, p7, p8⟩ := (hw.c9 (.tail _ (.tail _ (.head _))) (.tail _ (.head _)) (.head _))
        first
          | with_reducible rfl
          | go_simp
      refine hK _ ?_
      clear hK K
      refine WQ.nil ?_
      intro wq HE
      obtain ⟨p0, p1, p2, p3, p4, p5, p6, p7, p8⟩ := (HE.c9 (.tail _ (.tail _ (.head _))) (.tail _ (.head _)) (.head _))
      go_wp2_with fail
      refine (fcmp_v HE (by first | exact .head _ | exact .tail _ (.head _) | exact .tail _ (.tail _ (.head _)) | exact .tail _ (.tail _ (.tail _ (.head _))) | exact .tail _ (.tail _ (.tail _ (.tail _ (.head _)))) | exact .tail _ (.tail _ (.tail _ (.tail _ (.tail _ (.head _))))) | exact .tail _ (.tail _ (.tail _ (.tail _ (.tail _ (.tail _ (.head _)))))) | exact .tail _ (.tail _ (.tail _ (.tail _ (.tail _ (.tail _ (.tail _ (.head _))))))) | exact .tail _ (.tail _ (.tail _ (.tail _ (.tail _ (.tail _ (.tail _ (.tail _ (.head _)))))))) | exact .tail _ (.tail _ (.tail _ (.tail _ (.tail _ (.tail _ (.tail _ (.tail _ (.tail _ (.head _))))))))) | exact .tail _ (.tail _ (.tail _ (.tail _ (.tail _ (.tail _ (.tail _ (.tail _ (.tail _ (.tail _ (.head _)))))))))) | exact .tail _ (.tail _ (.tail _ (.tail _ (.tail _ (.tail _ (.tail _ (.tail _ (.tail _ (.tail _ (.tail _ (.head _))))))))))) | exact .tail _ (.tail _ (.tail _ (.tail _ (.tail _ (.tail _ (.tail _ (.tail _ (.tail _ (.tail _ (.tail _ (.tail _ (.head _)))))))))))) | exact .tail _ (.tail _ (.tail _ (.tail _ (.tail _ (.tail _ (.tail _ (.tail _ (.tail _ (.tail _ (.tail _ (.tail _ (.tail _ (.head _)))))))))))))) (by first | exact .head _ | exact .tail _ (.head _) | exact .tail _ (.tail _ (.head _)) | exact .tail _ (.tail _ (.tail _ (.head _))) | exact .tail _ (.tail _ (.tail _ (.tail _ (.head _)))) | exact .tail _ (.tail _ (.tail _ (.tail _ (.tail _ (.head _))))) | exact .tail _ (.tail _ (.tail _ (.tail _ (.tail _ (.tail _ (.head _)))))) | exact .tail _ (.tail _ (.tail _ (.tail _ (.tail _ (.tail _ (.tail _ (.head _))))))) | exact .tail _ (.tail _ (.tail _ (.tail _ (.tail _ (.tail _ (.tail _ (.tail _ (.head _)))))))) | exact .tail _ (.tail _ (.tail _ (.tail _ (.tail _ (.tail _ (.tail _ (.tail _ (.tail _ (.head _))))))))) | exact .tail _ (.tail _ (.tail _ (.tail _ (.tail _ (.tail _ (.tail _ (.tail _ (.tail _ (.tail _ (.head _)))))))))) | exact .tail _ (.tail _ (.tail _ (.tail _ (.tail _ (.tail _ (.tail _ (.tail _ (.tail _ (.tail _ (.tail _ (.head _))))))))))) | exact .tail _ (.tail _ (.tail _ (.tail _ (.tail _ (.tail _ (.tail _ (.tail _ (.tail _ (.tail _ (.tail _ (.tail _ (.head _)))))))))))) | exact .tail _ (.tail _ (.tail _ (.tail _ (.tail _ (.tail _ (.tail _ (.tail _ (.tail _ (.tail _ (.tail _ (.tail _ (.tail _ (.head _)))))))))))))) (by omega)).mono ?_
      rintro e wn ⟨rfl, HE⟩
      clear p0 p1 p2 p3 p4 p5 p6 p7 p8
      obtain ⟨p0, p1, p2, p3, p4, p5, p6, p7, p8⟩ := (HE.c9 (.tail _ (.tail _ (.head _))) (.tail _ (.head _)) (.head _))
      clear e1 e2 e3
      by_cases h1 : 0 < cmpQ q1 q2
      · go_wp2_with fail
        go_ret
        exact ⟨rfl, HE.below⟩
      · have h1n : cmpQ q1 q2 ≤ 0 := by omega
        clear h1
        go_wp2_with fail
        refine (fcmp_v HE (by first | exact .head _ | exact .tail _ (.head _) | exact .tail _ (.tail _ (.head _)) | exact .tail _ (.tail _ (.tail _ (.head _))) | exact .tail _ (.tail _ (.tail _ (.tail _ (.head _)))) | exact .tail _ (.tail _ (.tail _ (.tail _ (.tail _ (.head _))))) | exact .tail _ (.tail _ (.tail _ (.tail _ (.tail _ (.tail _ (.head _)))))) | exact .tail _ (.tail _ (.tail _ (.tail _ (.tail _ (.tail _ (.tail _ (.head _))))))) | exact .tail _ (.tail _ (.tail _ (.tail _ (.tail _ (.tail _ (.tail _ (.tail _ (.head _)))))))) | exact .tail _ (.tail _ (.tail _ (.tail _ (.tail _ (.tail _ (.tail _ (.tail _ (.tail _ (.head _))))))))) | exact .tail _ (.tail _ (.tail _ (.tail _ (.tail _ (.tail _ (.tail _ (.tail _ (.tail _ (.tail _ (.head _)))))))))) | exact .tail _ (.tail _ (.tail _ (.tail _ (.tail _ (.tail _ (.tail _ (.tail _ (.tail _ (.tail _ (.tail _ (.head _))))))))))) | exact .tail _ (.tail _ (.tail _ (.tail _ (.tail _ (.tail _ (.tail _ (.tail _ (.tail _ (.tail _ (.tail _ (.tail _ (.head _)))))))))))) | exact .tail _ (.tail _ (.tail _ (.tail _ (.tail _ (.tail _ (.tail _ (.tail _ (.tail _ (.tail _ (.tail _ (.tail _ (.tail _ (.head _)))))))))))))) (by first | exact .head _ | exact .tail _ (.head _) | exact .tail _ (.tail _ (.head _)) | exact .tail _ (.tail _ (.tail _ (.head _))) | exact .tail _ (.tail _ (.tail _ (.tail _ (.head _)))) | exact .tail _ (.tail _ (.tail _ (.tail _ (.tail _ (.head _))))) | exact .tail _ (.tail _ (.tail _ (.tail _ (.tail _ (.tail _ (.head _)))))) | exact .tail _ (.tail _ (.tail _ (.tail _ (.tail _ (.tail _ (.tail _ (.head _))))))) | exact .tail _ (.tail _ (.tail _ (.tail _ (.tail _ (.tail _ (.tail _ (.tail _ (.head _)))))))) | exact .tail _ (.tail _ (.tail _ (.tail _ (.tail _ (.tail _ (.tail _ (.tail _ (.tail _ (.head _))))))))) | exact .tail _ (.tail _ (.tail _ (.tail _ (.tail _ (.tail _ (.tail _ (.tail _ (.tail _ (.tail _ (.head _)))))))))) | exact .tail _ (.tail _ (.tail _ (.tail _ (.tail _ (.tail _ (.tail _ (.tail _ (.tail _ (.tail _ (.tail _ (.head _))))))))))) | exact .tail _ (.tail _ (.tail _ (.tail _ (.tail _ (.tail _ (.tail _ (.tail _ (.tail _ (.tail _ (.tail _ (.tail _ (.head _)))))))))))) | exact .tail _ (.tail _ (.tail _ (.tail _ (.tail _ (.tail _ (.tail _ (.tail _ (.tail _ (.tail _ (.tail _ (.tail _ (.tail _ (.head _)))))))))))))) (by omega)).mono ?_
        rintro e wn ⟨rfl, HE⟩
        clear p0 p1 p2 p3 p4 p5 p6 p7 p8
        obtain ⟨p0, p1, p2, p3, p4, p5, p6, p7, p8⟩ := (HE.c9 (.tail _ (.tail _ (.head _))) (.tail _ (.head _)) (.head _))
        by_cases h2 : 0 < cmpQ q2 q3
        · go_wp2_with fail
          go_ret
          exact ⟨rfl, HE.below⟩
        · have h2n : cmpQ q2 q3 ≤ 0 := by omega
          have h3n := HT3.out h1n h2n
          clear h2
          go_wp2_with fail
          refine (fcmp_v HE (by first | exact .head _ | exact .tail _ (.head _) | exact .tail _ (.tail _ (.head _)) | exact .tail _ (.tail _ (.tail _ (.head _))) | exact .tail _ (.tail _ (.tail _ (.tail _ (.head _)))) | exact .tail _ (.tail _ (.tail _ (.tail _ (.tail _ (.head _))))) | exact .tail _ (.tail _ (.tail _ (.tail _ (.tail _ (.tail _ (.head _)))))) | exact .tail _ (.tail _ (.tail _ (.tail _ (.tail _ (.tail _ (.tail _ (.head _))))))) | exact .tail _ (.tail _ (.tail _ (.tail _ (.tail _ (.tail _ (.tail _ (.tail _ (.head _)))))))) | exact .tail _ (.tail _ (.tail _ (.tail _ (.tail _ (.tail _ (.tail _ (.tail _ (.tail _ (.head _))))))))) | exact .tail _ (.tail _ (.tail _ (.tail _ (.tail _ (.tail _ (.tail _ (.tail _ (.tail _ (.tail _ (.head _)))))))))) | exact .tail _ (.tail _ (.tail _ (.tail _ (.tail _ (.tail _ (.tail _ (.tail _ (.tail _ (.tail _ (.tail _ (.head _))))))))))) | exact .tail _ (.tail _ (.tail _ (.tail _ (.tail _ (.tail _ (.tail _ (.tail _ (.tail _ (.tail _ (.tail _ (.tail _ (.head _)))))))))))) | exact .tail _ (.tail _ (.tail _ (.tail _ (.tail _ (.tail _ (.tail _ (.tail _ (.tail _ (.tail _ (.tail _ (.tail _ (.tail _ (.head _)))))))))))))) (by first | exact .head _ | exact .tail _ (.head _) | exact .tail _ (.tail _ (.head _)) | exact .tail _ (.tail _ (.tail _ (.head _))) | exact .tail _ (.tail _ (.tail _ (.tail _ (.head _)))) | exact .tail _ (.tail _ (.tail _ (.tail _ (.tail _ (.head _))))) | exact .tail _ (.tail _ (.tail _ (.tail _ (.tail _ (.tail _ (.head _)))))) | exact .tail _ (.tail _ (.tail _ (.tail _ (.tail _ (.tail _ (.tail _ (.head _))))))) | exact .tail _ (.tail _ (.tail _ (.tail _ (.tail _ (.tail _ (.tail _ (.tail _ (.head _)))))))) | exact .tail _ (.tail _ (.tail _ (.tail _ (.tail _ (.tail _ (.tail _ (.tail _ (.tail _ (.head _))))))))) | exact .tail _ (.tail _ (.tail _ (.tail _ (.tail _ (.tail _ (.tail _ (.tail _ (.tail _ (.tail _ (.head _)))))))))) | exact .tail _ (.tail _ (.tail _ (.tail _ (.tail _ (.tail _ (.tail _ (.tail _ (.tail _ (.tail _ (.tail _ (.head _))))))))))) | exact .tail _ (.tail _ (.tail _ (.tail _ (.tail _ (.tail _ (.tail _ (.tail _ (.tail _ (.tail _ (.tail _ (.tail _ (.head _)))))))))))) | exact .tail _ (.tail _ (.tail _ (.tail _ (.tail _ (.tail _ (.tail _ (.tail _ (.tail _ (.tail _ (.tail _ (.tail _ (.tail _ (.head _)))))))))))))) (by omega)).mono ?_
          rintro e wn ⟨rfl, HE⟩
          clear p0 p1 p2 p3 p4 p5 p6 p7 p8
          go_wp2_with fail
          go_ret
          exact ⟨rfl, HE.below⟩
    · cases b2
      · clear p0 p1 p2 p3 p4 p5 p6 p7 p8
        go_wp2_with fail
        refine quiet_in (C := fun w' => FEnv w w' [] [] [⟨w.heap.size + 1 + 1, .bool s3, .slice A3 n3 c3, .slice B3 m3 d3⟩, ⟨w.heap.size + 1, .bool s2, .slice A2 n2 c2, .slice B2 m2 d2⟩, ⟨w.heap.size, .bool s1, .slice A1 n1 c1, .slice B1 m1 d1⟩] [⟨.agg #[.bool s1, .slice A1 n1 c1, .slice B1 m1 d1], q1, 12, true⟩, ⟨.agg #[.bool s2, .slice A2 n2 c2, .slice B2 m2 d2], q2, 12, false⟩, ⟨.agg #[.bool s3, .slice A3 n3 c3, .slice B3 m3 d3], q3, 12, b3⟩]) (by kernel_rfl) (by kernel_rfl) HE.drew ?_
        clear HE
        refine WQ.step (fun K hK => ?_)
        go_simp
        refine ⟨.agg #[.bool s1, .slice A1 n1 c1, .slice B1 m1 d1], fun w' hw => ?_, ?_⟩
        · obtain ⟨p0, p1, p2, p3, p4, p5, p6, p7, p8⟩ := (hw.c9 (.tail _ (.tail _ (.head _))) (.tail _ (.head _)) (.head _))
          first
            | with_reducible rfl
            | go_simp
        refine hK _ ?_
        clear hK K
        refine WQ.step (fun K hK => ?_)
        go_simp
        refine ⟨.bool true, fun w' hw => ?_, ?_⟩
        · obtain ⟨p0, p1, p2, p3, p4, p5, p6, p7, p8⟩ := (hw.c9 (.tail _ (.tail _ (.head _))) (.tail _ (.head _)) (.head _))
          go_simp
          exact fvalid_v hw (.head _) (by omega)
        refine hK _ ?_
        clear hK K
        refine WQ.step (fun K hK => ?_)
        go_simp
        refine ⟨.bool true, fun w' hw => ?_, ?_⟩
        · obtain ⟨p0, p1, p2, p3, p4, p5, p6, p7, p8⟩ := (hw.c9 (.tail _ (.tail _ (.head _))) (.tail _ (.head _)) (.head _))
          first
            | with_reducible rfl
            | go_simp
        refine hK _ ?_
        clear hK K
        refine WQ.step (fun K hK => ?_)
        go_simp
        refine ⟨.agg #[.bool s2, .slice A2 n2 c2, .slice B2 m2 d2], fun w' hw => ?_, ?_⟩
        · obtain ⟨p0, p1, p2, p3, p4, p5, p6, p7, p8⟩ := (hw.c9 (.tail _ (.tail _ (.head _))) (.tail _ (.head _)) (.head _))
          first
            | with_reducible rfl
            | go_simp
        refine hK _ ?_
        clear hK K
        refine WQ.step (fun K hK => ?_)
        go_simp
        refine ⟨.bool false, fun w' hw => ?_, ?_⟩
        · obtain ⟨p0, p1, p2, p3, p4, p5, p6, p7, p8⟩ := (hw.c9 (.tail _ (.tail _ (.head _))) (.tail _ (.head _)) (.head _))
          go_simp
          exact fvalid_v hw (.tail _ (.head _)) (by omega)
        refine hK _ ?_
        clear hK K
        refine WQ.step (fun K hK => ?_)
        go_simp
        refine ⟨.bool false, fun w' hw => ?_, ?_⟩
        · obtain ⟨p0, p1, p2, p3, p4, p5, p6, p7, p8⟩ := (hw.c9 (.tail _ (.tail _ (.head _))) (.tail _ (.head _)) (.head _))
          first
            | with_reducible rfl
            | go_simp
        refine hK _ ?_
        clear hK K
        refine WQ.step (fun K hK => ?_)
        go_simp
        refine ⟨.bool false, fun w' hw => ?_, ?_⟩
        · obtain ⟨p0, p1, p2, p3, p4, p5, p6, p7, p8⟩ := (hw.c9 (.tail _ (.tail _ (.head _))) (.tail _ (.head _)) (.head _))
          first
            | with_reducible rfl
            | go_simp
        refine hK _ ?_
        clear hK K
        refine WQ.step (fun K hK => ?_)
        go_simp
        refine hK _ ?_
        clear hK K
        refine WQ.step (fun K hK => ?_)
        go_simp
        refine hK _ ?_
        clear hK K
        refine WQ.step (fun K hK => ?_)
        go_simp
        refine hK _ ?_
        clear hK K
        refine WQ.step (fun K hK => ?_)
        go_simp
        refine hK _ ?_
        clear hK K
        refine WQ.step (fun K hK => ?_)
        go_simp
        refine hK _ ?_
        clear hK K
        refine WQ.step (fun K hK => ?_)
        go_simp
        refine hK _ ?_
        clear hK K
        refine WQ.step (fun K hK => ?_)
        go_simp
        refine hK _ ?_
        clear hK K
        refine WQ.step (fun K hK => ?_)
        go_simp
        refine hK _ ?_
        clear hK K
        refine WQ.step (fun K hK => ?_)
        go_simp
        refine ⟨.bool false, fun w' hw => ?_, ?_⟩
        · obtain ⟨p0, p1, p2, p3, p4, p5, p6, p7, p8⟩ := (hw.c9 (.tail _ (.tail _ (.head _))) (.tail _ (.head _)) (.head _))
          first
            | with_reducible rfl
            | go_simp
        refine hK _ ?_
        clear hK K
        refine WQ.nil ?_
        intro wq HE
        obtain ⟨p0, p1, p2, p3, p4, p5, p6, p7, p8⟩ := (HE.c9 (.tail _ (.tail _ (.head _))) (.tail _ (.head _)) (.head _))
        go_wp2_with fail
        refine (fcmp_v HE (by first | exact .head _ | exact .tail _ (.head _) | exact .tail _ (.tail _ (.head _)) | exact .tail _ (.tail _ (.tail _ (.head _))) | exact .tail _ (.tail _ (.tail _ (.tail _ (.head _)))) | exact .tail _ (.tail _ (.tail _ (.tail _ (.tail _ (.head _))))) | exact .tail _ (.tail _ (.tail _ (.tail _ (.tail _ (.tail _ (.head _)))))) | exact .tail _ (.tail _ (.tail _ (.tail _ (.tail _ (.tail _ (.tail _ (.head _))))))) | exact .tail _ (.tail _ (.tail _ (.tail _ (.tail _ (.tail _ (.tail _ (.tail _ (.head _)))))))) | exact .tail _ (.tail _ (.tail _ (.tail _ (.tail _ (.tail _ (.tail _ (.tail _ (.tail _ (.head _))))))))) | exact .tail _ (.tail _ (.tail _ (.tail _ (.tail _ (.tail _ (.tail _ (.tail _ (.tail _ (.tail _ (.head _)))))))))) | exact .tail _ (.tail _ (.tail _ (.tail _ (.tail _ (.tail _ (.tail _ (.tail _ (.tail _ (.tail _ (.tail _ (.head _))))))))))) | exact .tail _ (.tail _ (.tail _ (.tail _ (.tail _ (.tail _ (.tail _ (.tail _ (.tail _ (.tail _ (.tail _ (.tail _ (.head _)))))))))))) | exact .tail _ (.tail _ (.tail _ (.tail _ (.tail _ (.tail _ (.tail _ (.tail _ (.tail _ (.tail _ (.tail _ (.tail _ (.tail _ (.head _)))))))))))))) (by first | exact .head _ | exact .tail _ (.head _) | exact .tail _ (.tail _ (.head _)) | exact .tail _ (.tail _ (.tail _ (.head _))) | exact .tail _ (.tail _ (.tail _ (.tail _ (.head _)))) | exact .tail _ (.tail _ (.tail _ (.tail _ (.tail _ (.head _))))) | exact .tail _ (.tail _ (.tail _ (.tail _ (.tail _ (.tail _ (.head _)))))) | exact .tail _ (.tail _ (.tail _ (.tail _ (.tail _ (.tail _ (.tail _ (.head _))))))) | exact .tail _ (.tail _ (.tail _ (.tail _ (.tail _ (.tail _ (.tail _ (.tail _ (.head _)))))))) | exact .tail _ (.tail _ (.tail _ (.tail _ (.tail _ (.tail _ (.tail _ (.tail _ (.tail _ (.head _))))))))) | exact .tail _ (.tail _ (.tail _ (.tail _ (.tail _ (.tail _ (.tail _ (.tail _ (.tail _ (.tail _ (.head _)))))))))) | exact .tail _ (.tail _ (.tail _ (.tail _ (.tail _ (.tail _ (.tail _ (.tail _ (.tail _ (.tail _ (.tail _ (.head _))))))))))) | exact .tail _ (.tail _ (.tail _ (.tail _ (.tail _ (.tail _ (.tail _ (.tail _ (.tail _ (.tail _ (.tail _ (.tail _ (.head _)))))))))))) | exact .tail _ (.tail _ (.tail _ (.tail _ (.tail _ (.tail _ (.tail _ (.tail _ (.tail _ (.tail _ (.tail _ (.tail _ (.tail _ (.head _)))))))))))))) (by omega)).mono ?_
        rintro e wn ⟨rfl, HE⟩
        clear p0 p1 p2 p3 p4 p5 p6 p7 p8
        obtain ⟨p0, p1, p2, p3, p4, p5, p6, p7, p8⟩ := (HE.c9 (.tail _ (.tail _ (.head _))) (.tail _ (.head _)) (.head _))
        clear e1 e2 e3
        by_cases h1 : 0 < cmpQ q1 q2
        · go_wp2_with fail
          go_ret
          exact ⟨rfl, HE.below⟩
        · have h1n : cmpQ q1 q2 ≤ 0 := by omega
          clear h1
          go_wp2_with fail
          refine (fcmp_v HE (by first | exact .head _ | exact .tail _ (.head _) | exact .tail _ (.tail _ (.head _)) | exact .tail _ (.tail _ (.tail _ (.head _))) | exact .tail _ (.tail _ (.tail _ (.tail _ (.head _)))) | exact .tail _ (.tail _ (.tail _ (.tail _ (.tail _ (.head _))))) | exact .tail _ (.tail _ (.tail _ (.tail _ (.tail _ (.tail _ (.head _)))))) | exact .tail _ (.tail _ (.tail _ (.tail _ (.tail _ (.tail _ (.tail _ (.head _))))))) | exact .tail _ (.tail _ (.tail _ (.tail _ (.tail _ (.tail _ (.tail _ (.tail _ (.head _)))))))) | exact .tail _ (.tail _ (.tail _ (.tail _ (.tail _ (.tail _ (.tail _ (.tail _ (.tail _ (.head _))))))))) | exact .tail _ (.tail _ (.tail _ (.tail _ (.tail _ (.tail _ (.tail _ (.tail _ (.tail _ (.tail _ (.head _)))))))))) | exact .tail _ (.tail _ (.tail _ (.tail _ (.tail _ (.tail _ (.tail _ (.tail _ (.tail _ (.tail _ (.tail _ (.head _))))))))))) | exact .tail _ (.tail _ (.tail _ (.tail _ (.tail _ (.tail _ (.tail _ (.tail _ (.tail _ (.tail _ (.tail _ (.tail _ (.head _)))))))))))) | exact .tail _ (.tail _ (.tail _ (.tail _ (.tail _ (.tail _ (.tail _ (.tail _ (.tail _ (.tail _ (.tail _ (.tail _ (.tail _ (.head _)))))))))))))) (by first | exact .head _ | exact .tail _ (.head _) | exact .tail _ (.tail _ (.head _)) | exact .tail _ (.tail _ (.tail _ (.head _))) | exact .tail _ (.tail _ (.tail _ (.tail _ (.head _)))) | exact .tail _ (.tail _ (.tail _ (.tail _ (.tail _ (.head _))))) | exact .tail _ (.tail _ (.tail _ (.tail _ (.tail _ (.tail _ (.head _)))))) | exact .tail _ (.tail _ (.tail _ (.tail _ (.tail _ (.tail _ (.tail _ (.head _))))))) | exact .tail _ (.tail _ (.tail _ (.tail _ (.tail _ (.tail _ (.tail _ (.tail _ (.head _)))))))) | exact .tail _ (.tail _ (.tail _ (.tail _ (.tail _ (.tail _ (.tail _ (.tail _ (.tail _ (.head _))))))))) | exact .tail _ (.tail _ (.tail _ (.tail _ (.tail _ (.tail _ (.tail _ (.tail _ (.tail _ (.tail _ (.head _)))))))))) | exact .tail _ (.tail _ (.tail _ (.tail _ (.tail _ (.tail _ (.tail _ (.tail _ (.tail _ (.tail _ (.tail _ (.head _))))))))))) | exact .tail _ (.tail _ (.tail _ (.tail _ (.tail _ (.tail _ (.tail _ (.tail _ (.tail _ (.tail _ (.tail _ (.tail _ (.head _)))))))))))) | exact .tail _ (.tail _ (.tail _ (.tail _ (.tail _ (.tail _ (.tail _ (.tail _ (.tail _ (.tail _ (.tail _ (.tail _ (.tail _ (.head _)))))))))))))) (by omega)).mono ?_
          rintro e wn ⟨rfl, HE⟩
          clear p0 p1 p2 p3 p4 p5 p6 p7 p8
          obtain ⟨p0, p1, p2, p3, p4, p5, p6, p7, p8⟩ := (HE.c9 (.tail _ (.tail _ (.head _))) (.tail _ (.head _)) (.head _))
          by_cases h2 : 0 < cmpQ q2 q3
          · go_wp2_with fail
            go_ret
            exact ⟨rfl, HE.below⟩
          · have h2n : cmpQ q2 q3 ≤ 0 := by omega
            have h3n := HT3.out h1n h2n
            clear h2
            go_wp2_with fail
            refine (fcmp_v HE (by first | exact .head _ | exact .tail _ (.head _) | exact .tail _ (.tail _ (.head _)) | exact .tail _ (.tail _ (.tail _ (.head _))) | exact .tail _ (.tail _ (.tail _ (.tail _ (.head _)))) | exact .tail _ (.tail _ (.tail _ (.tail _ (.tail _ (.head _))))) | exact .tail _ (.tail _ (.tail _ (.tail _ (.tail _ (.tail _ (.head _)))))) | exact .tail _ (.tail _ (.tail _ (.tail _ (.tail _ (.tail _ (.tail _ (.head _))))))) | exact .tail _ (.tail _ (.tail _ (.tail _ (.tail _ (.tail _ (.tail _ (.tail _ (.head _)))))))) | exact .tail _ (.tail _ (.tail _ (.tail _ (.tail _ (.tail _ (.tail _ (.tail _ (.tail _ (.head _))))))))) | exact .tail _ (.tail _ (.tail _ (.tail _ (.tail _ (.tail _ (.tail _ (.tail _ (.tail _ (.tail _ (.head _)))))))))) | exact .tail _ (.tail _ (.tail _ (.tail _ (.tail _ (.tail _ (.tail _ (.tail _ (.tail _ (.tail _ (.tail _ (.head _))))))))))) | exact .tail _ (.tail _ (.tail _ (.tail _ (.tail _ (.tail _ (.tail _ (.tail _ (.tail _ (.tail _ (.tail _ (.tail _ (.head _)))))))))))) | exact .tail _ (.tail _ (.tail _ (.tail _ (.tail _ (.tail _ (.tail _ (.tail _ (.tail _ (.tail _ (.tail _ (.tail _ (.tail _ (.head _)))))))))))))) (by first | exact .head _ | exact .tail _ (.head _) | exact .tail _ (.tail _ (.head _)) | exact .tail _ (.tail _ (.tail _ (.head _))) | exact .tail _ (.tail _ (.tail _ (.tail _ (.head _)))) | exact .tail _ (.tail _ (.tail _ (.tail _ (.tail _ (.head _))))) | exact .tail _ (.tail _ (.tail _ (.tail _ (.tail _ (.tail _ (.head _)))))) | exact .tail _ (.tail _ (.tail _ (.tail _ (.tail _ (.tail _ (.tail _ (.head _))))))) | exact .tail _ (.tail _ (.tail _ (.tail _ (.tail _ (.tail _ (.tail _ (.tail _ (.head _)))))))) | exact .tail _ (.tail _ (.tail _ (.tail _ (.tail _ (.tail _ (.tail _ (.tail _ (.tail _ (.head _))))))))) | exact .tail _ (.tail _ (.tail _ (.tail _ (.tail _ (.tail _ (.tail _ (.tail _ (.tail _ (.tail _ (.head _)))))))))) | exact .tail _ (.tail _ (.tail _ (.tail _ (.tail _ (.tail _ (.tail _ (.tail _ (.tail _ (.tail _ (.tail _ (.head _))))))))))) | exact .tail _ (.tail _ (.tail _ (.tail _ (.tail _ (.tail _ (.tail _ (.tail _ (.tail _ (.tail _ (.tail _ (.tail _ (.head _)))))))))))) | exact .tail _ (.tail _ (.tail _ (.tail _ (.tail _ (.tail _ (.tail _ (.tail _ (.tail _ (.tail _ (.tail _ (.tail _ (.tail _ (.head _)))))))))))))) (by omega)).mono ?_
            rintro e wn ⟨rfl, HE⟩
            clear p0 p1 p2 p3 p4 p5 p6 p7 p8
            go_wp2_with fail
            go_ret
            exact ⟨rfl, HE.below⟩
      · clear p0 p1 p2 p3 p4 p5 p6 p7 p8
        go_wp2_with fail
        refine quiet_in (C := fun w' => FEnv w w' [] [] [⟨w.heap.size + 1 + 1, .bool s3, .slice A3 n3 c3, .slice B3 m3 d3⟩, ⟨w.heap.size + 1, .bool s2, .slice A2 n2 c2, .slice B2 m2 d2⟩, ⟨w.heap.size, .bool s1, .slice A1 n1 c1, .slice B1 m1 d1⟩] [⟨.agg #[.bool s1, .slice A1 n1 c1, .slice B1 m1 d1], q1, 12, true⟩, ⟨.agg #[.bool s2, .slice A2 n2 c2, .slice B2 m2 d2], q2, 12, true⟩, ⟨.agg #[.bool s3, .slice A3 n3 c3, .slice B3 m3 d3], q3, 12, b3⟩]) (by kernel_rfl) (by kernel_rfl) HE.drew ?_
        clear HE
        refine WQ.step (fun K hK => ?_)
        go_simp
        refine ⟨.agg #[.bool s1, .slice A1 n1 c1, .slice B1 m1 d1], fun w' hw => ?_, ?_⟩
        · obtain ⟨p0, p1, p2, p3, p4, p5, p6, p7, p8⟩ := (hw.c9 (.tail _ (.tail _ (.head _))) (.tail _ (.head _)) (.head _))
          first
            | with_reducible rfl
            | go_simp
        refine hK _ ?_
        clear hK K
        refine WQ.step (fun K hK => ?_)
        go_simp
        refine ⟨.bool true, fun w' hw => ?_, ?_⟩
        · obtain ⟨p0, p1, p2, p3, p4, p5, p6, p7, p8⟩ := (hw.c9 (.tail _ (.tail _ (.head _))) (.tail _ (.head _)) (.head _))
          go_simp
          exact fvalid_v hw (.head _) (by omega)
        refine hK _ ?_
        clear hK K
        refine WQ.step (fun K hK => ?_)
        go_simp
        refine ⟨.bool true, fun w' hw => ?_, ?_⟩
        · obtain ⟨p0, p1, p2, p3, p4, p5, p6, p7, p8⟩ := (hw.c9 (.tail _ (.tail _ (.head _))) (.tail _ (.head _)) (.head _))
          first
            | with_reducible rfl
            | go_simp
        refine hK _ ?_
        clear hK K
        refine WQ.step (fun K hK => ?_)
        go_simp
        refine ⟨.agg #[.bool s2, .slice A2 n2 c2, .slice B2 m2 d2], fun w' hw => ?_, ?_⟩
        · obtain ⟨p0, p1, p2, p3, p4, p5, p6, p7, p8⟩ := (hw.c9 (.tail _ (.tail _ (.head _))) (.tail _ (.head _)) (.head _))
          first
            | with_reducible rfl
            | go_simp
        refine hK _ ?_
        clear hK K
        refine WQ.step (fun K hK => ?_)
        go_simp
        refine ⟨.bool true, fun w' hw => ?_, ?_⟩
        · obtain ⟨p0, p1, p2, p3, p4, p5, p6, p7, p8⟩ := (hw.c9 (.tail _ (.tail _ (.head _))) (.tail _ (.head _)) (.head _))
          go_simp
          exact fvalid_v hw (.tail _ (.head _)) (by omega)
        refine hK _ ?_
        clear hK K
        refine WQ.step (fun K hK => ?_)
        go_simp
        refine ⟨.bool true, fun w' hw => ?_, ?_⟩
        · obtain ⟨p0, p1, p2, p3, p4, p5, p6, p7, p8⟩ := (hw.c9 (.tail _ (.tail _ (.head _))) (.tail _ (.head _)) (.head _))
          first
            | with_reducible rfl
            | go_simp
        refine hK _ ?_
        clear hK K
        refine WQ.step (fun K hK => ?_)
        go_simp
        refine ⟨.bool true, fun w' hw => ?_, ?_⟩
        · obtain ⟨p0, p1, p2, p3, p4, p5, p6, p7, p8⟩ := (hw.c9 (.tail _ (.tail _ (.head _))) (.tail _ (.head _)) (.head _))
          first
            | with_reducible rfl
            | go_simp
        refine hK _ ?_
        clear hK K
        refine WQ.step (fun K hK => ?_)
        go_simp
        refine ⟨.agg #[.bool s1, .slice A1 n1 c1, .slice B1 m1 d1], fun w' hw => ?_, ?_⟩
        · obtain ⟨p0, p1, p2, p3, p4, p5, p6, p7, p8⟩ := (hw.c9 (.tail _ (.tail _ (.head _))) (.tail _ (.head _)) (.head _))
          first
            | with_reducible rfl
            | go_simp
        refine hK _ ?_
        clear hK K
        refine WQ.step (fun K hK => ?_)
        go_simp
        refine ⟨.agg #[.bool s2, .slice A2 n2 c2, .slice B2 m2 d2], fun w' hw => ?_, ?_⟩
        · obtain ⟨p0, p1, p2, p3, p4, p5, p6, p7, p8⟩ := (hw.c9 (.tail _ (.tail _ (.head _))) (.tail _ (.head _)) (.head _))
          first
            | with_reducible rfl
            | go_simp
        refine hK _ ?_
        clear hK K
        refine WQ.step (fun K hK => ?_)
        go_simp
        refine ⟨.int .i64 (cmpQ q1 q2), fun w' hw => ?_, ?_⟩
        · obtain ⟨p0, p1, p2, p3, p4, p5, p6, p7, p8⟩ := (hw.c9 (.tail _ (.tail _ (.head _))) (.tail _ (.head _)) (.head _))
          go_simp
          exact fcmp_v hw (.head _) (.tail _ (.head _)) (by omega)
        refine hK _ ?_
        clear hK K
        refine WQ.step (fun K hK => ?_)
        go_simp
        refine ⟨.bool (cmpQ q1 q2 == 0), fun w' hw => ?_, ?_⟩
        · obtain ⟨p0, p1, p2, p3, p4, p5, p6, p7, p8⟩ := (hw.c9 (.tail _ (.tail _ (.head _))) (.tail _ (.head _)) (.head _))
          first
            | with_reducible rfl
            | go_simp
        refine hK _ ?_
        clear hK K
        refine WQ.step (fun K hK => ?_)
        go_simp
        refine ⟨.agg #[.bool s1, .slice A1 n1 c1, .slice B1 m1 d1], fun w' hw => ?_, ?_⟩
        · obtain ⟨p0, p1, p2, p3, p4, p5, p6, p7, p8⟩ := (hw.c9 (.tail _ (.tail _ (.head _))) (.tail _ (.head _)) (.head _))
          first
            | with_reducible rfl
            | go_simp
        refine hK _ ?_
        clear hK K
        refine WQ.step (fun K hK => ?_)
        go_simp
        refine ⟨.agg #[.bool s2, .slice A2 n2 c2, .slice B2 m2 d2], fun w' hw => ?_, ?_⟩
        · obtain ⟨p0, p1, p2, p3, p4, p5, p6, p7, p8⟩ := (hw.c9 (.tail _ (.tail _ (.head _))) (.tail _ (.head _)) (.head _))
          first
            | with_reducible rfl
            | go_simp
        refine hK _ ?_
        clear hK K
        refine WQ.step (fun K hK => ?_)
        go_simp
        refine ⟨.bool (cmpQ q1 q2 == 0), fun w' hw => ?_, ?_⟩
        · obtain ⟨p0, p1, p2, p3, p4, p5, p6, p7, p8⟩ := (hw.c9 (.tail _ (.tail _ (.head _))) (.tail _ (.head _)) (.head _))
          go_simp
          exact fsame_c hw (.head _) (.tail _ (.head _)) (by omega)
        refine hK _ ?_
        clear hK K
        refine WQ.step (fun K hK => ?_)
        go_simp
        refine ⟨.bool false, fun w' hw => ?_, ?_⟩
        · obtain ⟨p0, p1, p2, p3, p4, p5, p6, p7, p8⟩ := (hw.c9 (.tail _ (.tail _ (.head _))) (.tail _ (.head _)) (.head _))
          first
            | with_reducible rfl
            | go_simp
        refine hK _ ?_
        clear hK K
        refine WQ.step (fun K hK => ?_)
        go_simp
        refine ⟨.bool false, fun w' hw => ?_, ?_⟩
        · obtain ⟨p0, p1, p2, p3, p4, p5, p6, p7, p8⟩ := (hw.c9 (.tail _ (.tail _ (.head _))) (.tail _ (.head _)) (.head _))
          first
            | with_reducible rfl
            | go_simp
        refine hK _ ?_
        clear hK K
        refine WQ.nil ?_
        intro wq HE
        obtain ⟨p0, p1, p2, p3, p4, p5, p6, p7, p8⟩ := (HE.c9 (.tail _ (.tail _ (.head _))) (.tail _ (.head _)) (.head _))
        go_wp2_with fail
        refine (fcmp_v HE (by first | exact .head _ | exact .tail _ (.head _) | exact .tail _ (.tail _ (.head _)) | exact .tail _ (.tail _ (.tail _ (.head _))) | exact .tail _ (.tail _ (.tail _ (.tail _ (.head _)))) | exact .tail _ (.tail _ (.tail _ (.tail _ (.tail _ (.head _))))) | exact .tail _ (.tail _ (.tail _ (.tail _ (.tail _ (.tail _ (.head _)))))) | exact .tail _ (.tail _ (.tail _ (.tail _ (.tail _ (.tail _ (.tail _ (.head _))))))) | exact .tail _ (.tail _ (.tail _ (.tail _ (.tail _ (.tail _ (.tail _ (.tail _ (.head _)))))))) | exact .tail _ (.tail _ (.tail _ (.tail _ (.tail _ (.tail _ (.tail _ (.tail _ (.tail _ (.head _))))))))) | exact .tail _ (.tail _ (.tail _ (.tail _ (.tail _ (.tail _ (.tail _ (.tail _ (.tail _ (.tail _ (.head _)))))))))) | exact .tail _ (.tail _ (.tail _ (.tail _ (.tail _ (.tail _ (.tail _ (.tail _ (.tail _ (.tail _ (.tail _ (.head _))))))))))) | exact .tail _ (.tail _ (.tail _ (.tail _ (.tail _ (.tail _ (.tail _ (.tail _ (.tail _ (.tail _ (.tail _ (.tail _ (.head _)))))))))))) | exact .tail _ (.tail _ (.tail _ (.tail _ (.tail _ (.tail _ (.tail _ (.tail _ (.tail _ (.tail _ (.tail _ (.tail _ (.tail _ (.head _)))))))))))))) (by first | exact .head _ | exact .tail _ (.head _) | exact .tail _ (.tail _ (.head _)) | exact .tail _ (.tail _ (.tail _ (.head _))) | exact .tail _ (.tail _ (.tail _ (.tail _ (.head _)))) | exact .tail _ (.tail _ (.tail _ (.tail _ (.tail _ (.head _))))) | exact .tail _ (.tail _ (.tail _ (.tail _ (.tail _ (.tail _ (.head _)))))) | exact .tail _ (.tail _ (.tail _ (.tail _ (.tail _ (.tail _ (.tail _ (.head _))))))) | exact .tail _ (.tail _ (.tail _ (.tail _ (.tail _ (.tail _ (.tail _ (.tail _ (.head _)))))))) | exact .tail _ (.tail _ (.tail _ (.tail _ (.tail _ (.tail _ (.tail _ (.tail _ (.tail _ (.head _))))))))) | exact .tail _ (.tail _ (.tail _ (.tail _ (.tail _ (.tail _ (.tail _ (.tail _ (.tail _ (.tail _ (.head _)))))))))) | exact .tail _ (.tail _ (.tail _ (.tail _ (.tail _ (.tail _ (.tail _ (.tail _ (.tail _ (.tail _ (.tail _ (.head _))))))))))) | exact .tail _ (.tail _ (.tail _ (.tail _ (.tail _ (.tail _ (.tail _ (.tail _ (.tail _ (.tail _ (.tail _ (.tail _ (.head _)))))))))))) | exact .tail _ (.tail _ (.tail _ (.tail _ (.tail _ (.tail _ (.tail _ (.tail _ (.tail _ (.tail _ (.tail _ (.tail _ (.tail _ (.head _)))))))))))))) (by omega)).mono ?_
        rintro e wn ⟨rfl, HE⟩
        clear p0 p1 p2 p3 p4 p5 p6 p7 p8
        obtain ⟨p0, p1, p2, p3, p4, p5, p6, p7, p8⟩ := (HE.c9 (.tail _ (.tail _ (.head _))) (.tail _ (.head _)) (.head _))
        clear e1 e2 e3
        by_cases h1 : 0 < cmpQ q1 q2
        · go_wp2_with fail
          go_ret
          exact ⟨rfl, HE.below⟩
        · have h1n : cmpQ q1 q2 ≤ 0 := by omega
          clear h1
          go_wp2_with fail
          refine (fcmp_v HE (by first | exact .head _ | exact .tail _ (.head _) | exact .tail _ (.tail _ (.head _)) | exact .tail _ (.tail _ (.tail _ (.head _))) | exact .tail _ (.tail _ (.tail _ (.tail _ (.head _)))) | exact .tail _ (.tail _ (.tail _ (.tail _ (.tail _ (.head _))))) | exact .tail _ (.tail _ (.tail _ (.tail _ (.tail _ (.tail _ (.head _)))))) | exact .tail _ (.tail _ (.tail _ (.tail _ (.tail _ (.tail _ (.tail _ (.head _))))))) | exact .tail _ (.tail _ (.tail _ (.tail _ (.tail _ (.tail _ (.tail _ (.tail _ (.head _)))))))) | exact .tail _ (.tail _ (.tail _ (.tail _ (.tail _ (.tail _ (.tail _ (.tail _ (.tail _ (.head _))))))))) | exact .tail _ (.tail _ (.tail _ (.tail _ (.tail _ (.tail _ (.tail _ (.tail _ (.tail _ (.tail _ (.head _)))))))))) | exact .tail _ (.tail _ (.tail _ (.tail _ (.tail _ (.tail _ (.tail _ (.tail _ (.tail _ (.tail _ (.tail _ (.head _))))))))))) | exact .tail _ (.tail _ (.tail _ (.tail _ (.tail _ (.tail _ (.tail _ (.tail _ (.tail _ (.tail _ (.tail _ (.tail _ (.head _)))))))))))) | exact .tail _ (.tail _ (.tail _ (.tail _ (.tail _ (.tail _ (.tail _ (.tail _ (.tail _ (.tail _ (.tail _ (.tail _ (.tail _ (.head _)))))))))))))) (by first | exact .head _ | exact .tail _ (.head _) | exact .tail _ (.tail _ (.head _)) | exact .tail _ (.tail _ (.tail _ (.head _))) | exact .tail _ (.tail _ (.tail _ (.tail _ (.head _)))) | exact .tail _ (.tail _ (.tail _ (.tail _ (.tail _ (.head _))))) | exact .tail _ (.tail _ (.tail _ (.tail _ (.tail _ (.tail _ (.head _)))))) | exact .tail _ (.tail _ (.tail _ (.tail _ (.tail _ (.tail _ (.tail _ (.head _))))))) | exact .tail _ (.tail _ (.tail _ (.tail _ (.tail _ (.tail _ (.tail _ (.tail _ (.head _)))))))) | exact .tail _ (.tail _ (.tail _ (.tail _ (.tail _ (.tail _ (.tail _ (.tail _ (.tail _ (.head _))))))))) | exact .tail _ (.tail _ (.tail _ (.tail _ (.tail _ (.tail _ (.tail _ (.tail _ (.tail _ (.tail _ (.head _)))))))))) | exact .tail _ (.tail _ (.tail _ (.tail _ (.tail _ (.tail _ (.tail _ (.tail _ (.tail _ (.tail _ (.tail _ (.head _))))))))))) | exact .tail _ (.tail _ (.tail _ (.tail _ (.tail _ (.tail _ (.tail _ (.tail _ (.tail _ (.tail _ (.tail _ (.tail _ (.head _)))))))))))) | exact .tail _ (.tail _ (.tail _ (.tail _ (.tail _ (.tail _ (.tail _ (.tail _ (.tail _ (.tail _ (.tail _ (.tail _ (.tail _ (.head _)))))))))))))) (by omega)).mono ?_
          rintro e wn ⟨rfl, HE⟩
          clear p0 p1 p2 p3 p4 p5 p6 p7 p8
          obtain ⟨p0, p1, p2, p3, p4, p5, p6, p7, p8⟩ := (HE.c9 (.tail _ (.tail _ (.head _))) (.tail _ (.head _)) (.head _))
          by_cases h2 : 0 < cmpQ q2 q3
          · go_wp2_with fail
            go_ret
            exact ⟨rfl, HE.below⟩
          · have h2n : cmpQ q2 q3 ≤ 0 := by omega
            have h3n := HT3.out h1n h2n
            clear h2
            go_wp2_with fail
            refine (fcmp_v HE (by first | exact .head _ | exact .tail _ (.head _) | exact .tail _ (.tail _ (.head _)) | exact .tail _ (.tail _ (.tail _ (.head _))) | exact .tail _ (.tail _ (.tail _ (.tail _ (.head _)))) | exact .tail _ (.tail _ (.tail _ (.tail _ (.tail _ (.head _))))) | exact .tail _ (.tail _ (.tail _ (.tail _ (.tail _ (.tail _ (.head _)))))) | exact .tail _ (.tail _ (.tail _ (.tail _ (.tail _ (.tail _ (.tail _ (.head _))))))) | exact .tail _ (.tail _ (.tail _ (.tail _ (.tail _ (.tail _ (.tail _ (.tail _ (.head _)))))))) | exact .tail _ (.tail _ (.tail _ (.tail _ (.tail _ (.tail _ (.tail _ (.tail _ (.tail _ (.head _))))))))) | exact .tail _ (.tail _ (.tail _ (.tail _ (.tail _ (.tail _ (.tail _ (.tail _ (.tail _ (.tail _ (.head _)))))))))) | exact .tail _ (.tail _ (.tail _ (.tail _ (.tail _ (.tail _ (.tail _ (.tail _ (.tail _ (.tail _ (.tail _ (.head _))))))))))) | exact .tail _ (.tail _ (.tail _ (.tail _ (.tail _ (.tail _ (.tail _ (.tail _ (.tail _ (.tail _ (.tail _ (.tail _ (.head _)))))))))))) | exact .tail _ (.tail _ (.tail _ (.tail _ (.tail _ (.tail _ (.tail _ (.tail _ (.tail _ (.tail _ (.tail _ (.tail _ (.tail _ (.head _)))))))))))))) (by first | exact .head _ | exact .tail _ (.head _) | exact .tail _ (.tail _ (.head _)) | exact .tail _ (.tail _ (.tail _ (.head _))) | exact .tail _ (.tail _ (.tail _ (.tail _ (.head _)))) | exact .tail _ (.tail _ (.tail _ (.tail _ (.tail _ (.head _))))) | exact .tail _ (.tail _ (.tail _ (.tail _ (.tail _ (.tail _ (.head _)))))) | exact .tail _ (.tail _ (.tail _ (.tail _ (.tail _ (.tail _ (.tail _ (.head _))))))) | exact .tail _ (.tail _ (.tail _ (.tail _ (.tail _ (.tail _ (.tail _ (.tail _ (.head _)))))))) | exact .tail _ (.tail _ (.tail _ (.tail _ (.tail _ (.tail _ (.tail _ (.tail _ (.tail _ (.head _))))))))) | exact .tail _ (.tail _ (.tail _ (.tail _ (.tail _ (.tail _ (.tail _ (.tail _ (.tail _ (.tail _ (.head _)))))))))) | exact .tail _ (.tail _ (.tail _ (.tail _ (.tail _ (.tail _ (.tail _ (.tail _ (.tail _ (.tail _ (.tail _ (.head _))))))))))) | exact .tail _ (.tail _ (.tail _ (.tail _ (.tail _ (.tail _ (.tail _ (.tail _ (.tail _ (.tail _ (.tail _ (.tail _ (.head _)))))))))))) | exact .tail _ (.tail _ (.tail _ (.tail _ (.tail _ (.tail _ (.tail _ (.tail _ (.tail _ (.tail _ (.tail _ (.tail _ (.tail _ (.head _)))))))))))))) (by omega)).mono ?_
            rintro e wn ⟨rfl, HE⟩
            clear p0 p1 p2 p3 p4 p5 p6 p7 p8
            go_wp2_with fail
            go_ret
            exact ⟨rfl, HE.below⟩
end Go.Proofs.YtdecmhcojdnokaaGreatDoor
