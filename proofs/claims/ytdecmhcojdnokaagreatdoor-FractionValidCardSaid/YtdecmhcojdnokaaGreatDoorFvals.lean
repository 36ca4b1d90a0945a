/- Walk of the law FractionValid. -/
import Derived.Test.YtdecmhcojdnokaaGreatDoorFall
import Derived.Deep.RegionHeld3
namespace Lw
open Go Go.RowKit
theorem Opd.cut {w : World} {s b : Bool} {A : Option Addr} {n c k K : Nat} {z : Int} (h : Opd w ⟨.agg #[.bool s, .slice A n c], z, k, b⟩) (hn : n ≤ K) : Opd w ⟨.agg #[.bool s, .slice A n c], z, K, b⟩ := by
  obtain ⟨s', A1, n1, c1, ns, B, h1, h2, h3, h4, h5, h6⟩ := h
  dsimp only at h1
  injection h1 with h1
  injection h1 with h1
  simp only [List.cons.injEq, Value.bool.injEq, Value.slice.injEq, and_true] at h1
  obtain ⟨rfl, rfl, rfl, rfl⟩ := h1
  exact ⟨s, A, n, c, ns, B, rfl, h2, h3, h4, hn, h6⟩
theorem int_bounds {z : Int} (h : (Lit.int .i64 z).wf = true) : -9223372036854775808 ≤ z ∧ z ≤ 9223372036854775807 := by
  have h2 : IntKind.i64.min ≤ z ∧ z ≤ IntKind.i64.max := by simpa [Lit.wf] using h
  have e1 : IntKind.i64.min = -9223372036854775808 := by decide
  have e2 : IntKind.i64.max = 9223372036854775807 := by decide
  omega
end Lw
namespace Go.Proofs.YtdecmhcojdnokaaGreatDoor
open Go Go.RowKit Lw
set_option maxRecDepth 100000 in
set_option maxHeartbeats 6000000 in
theorem fvalids_any (s1 b1 : Bool) (A1 B1 : Option Addr) (n1 c1 m1 d1 k1 : Nat) (q1 : Rat) (z1 z2 : Int) (t1 t2 v1 v2 : Bool) (E1 E2 : Option Addr) (l1 p1 l2 p2 j1 j2 : Nat) (y1 y2 : Int) (w : World) (ht : Tz w) (hb : Tab w) (hx : Mx w)
    (f1 : Fop w ⟨.agg #[.bool s1, .slice A1 n1 c1, .slice B1 m1 d1], q1, k1, b1⟩) (hz1 : (Lit.int .i64 z1).wf = true) (hz2 : (Lit.int .i64 z2).wf = true) (o1 : Opd w ⟨.agg #[.bool t1, .slice E1 l1 p1], y1, j1, v1⟩) (o2 : Opd w ⟨.agg #[.bool t2, .slice E2 l2 p2], y2, j2, v2⟩) :
    Calls Tryz.prog 3 #[.agg #[.bool s1, .slice A1 n1 c1, .slice B1 m1 d1], .agg #[.int .i64 z1, .int .i64 z2], .agg #[.bool t1, .slice E1 l1 p1, .bool t2, .slice E2 l2 p2]] w fun e w' => e = .returned (.bool true) ∧ Below w.heap.size w w' := by
  have hA : Below w.heap.size w (((w.alloc (.cells #[.bool s1, .slice A1 n1 c1, .slice B1 m1 d1] 24)).alloc (.cells #[.int .i64 z1, .int .i64 z2] 25)).alloc (.cells #[.bool t1, .slice E1 l1 p1, .bool t2, .slice E2 l2 p2] 28)) := (((Below.refl _ w).alloc (Nat.le_refl _) _).alloc (by simp) _).alloc (by simp [Nat.add_assoc]) _
  have TA : Tri (((w.alloc (.cells #[.bool s1, .slice A1 n1 c1, .slice B1 m1 d1] 24)).alloc (.cells #[.int .i64 z1, .int .i64 z2] 25)).alloc (.cells #[.bool t1, .slice E1 l1 p1, .bool t2, .slice E2 l2 p2] 28)) w.heap.size 24 (.bool s1) (.slice A1 n1 c1) (.slice B1 m1 d1) := (Tri.new w _ _ _ _).next (((Below.refl _ _).alloc (Nat.le_refl _) _).alloc (by simp) _)
  have TN0 := (Two.new (w.alloc (.cells #[.bool s1, .slice A1 n1 c1, .slice B1 m1 d1] 24)) 25 (.int .i64 z1) (.int .i64 z2)).next ((Below.refl _ _).alloc (Nat.le_refl _) (.cells #[.bool t1, .slice E1 l1 p1, .bool t2, .slice E2 l2 p2] 28))
  have TW0 := Quad.new ((w.alloc (.cells #[.bool s1, .slice A1 n1 c1, .slice B1 m1 d1] 24)).alloc (.cells #[.int .i64 z1, .int .i64 z2] 25)) 28 (.bool t1) (.slice E1 l1 p1) (.bool t2) (.slice E2 l2 p2)
  simp only [World.size_alloc] at TN0 TW0
  have HC := Lib.hid (show ∀ W, Below (((w.alloc (.cells #[.bool s1, .slice A1 n1 c1, .slice B1 m1 d1] 24)).alloc (.cells #[.int .i64 z1, .int .i64 z2] 25)).alloc (.cells #[.bool t1, .slice E1 l1 p1, .bool t2, .slice E2 l2 p2] 28)).heap.size (((w.alloc (.cells #[.bool s1, .slice A1 n1 c1, .slice B1 m1 d1] 24)).alloc (.cells #[.int .i64 z1, .int .i64 z2] 25)).alloc (.cells #[.bool t1, .slice E1 l1 p1, .bool t2, .slice E2 l2 p2] 28)) W → W.cell? ⟨w.heap.size, 0, none⟩ = some (.bool s1) ∧ W.cell? ⟨w.heap.size, 1, none⟩ = some (.slice A1 n1 c1) ∧ W.cell? ⟨w.heap.size, 2, none⟩ = some (.slice B1 m1 d1) ∧ W.cell? ⟨w.heap.size + 1, 0, none⟩ = some (.int .i64 z1) ∧ W.cell? ⟨w.heap.size + 1, 1, none⟩ = some (.int .i64 z2) ∧ W.cell? ⟨w.heap.size + 1 + 1, 0, none⟩ = some (.bool t1) ∧ W.cell? ⟨w.heap.size + 1 + 1, 1, none⟩ = some (.slice E1 l1 p1) ∧ W.cell? ⟨w.heap.size + 1 + 1, 2, none⟩ = some (.bool t2) ∧ W.cell? ⟨w.heap.size + 1 + 1, 3, none⟩ = some (.slice E2 l2 p2) from fun W hW => by
    have h1 := (TA.next hW).cells
    have h2 := (TN0.next hW).facts
    have h3 := (TW0.next hW).cells
    exact ⟨h1.1, h1.2.1, h1.2.2.1, h2.1, h2.2.1, h3.1, h3.2.1, h3.2.2.1, h3.2.2.2⟩)
  clear TA TN0 TW0
  have HA := Lib.hid hA
  have HT := Lib.hid (ht.next hA)
  have HB := Lib.hid (hb.next hA)
  have HX := Lib.hid (hx.next hA)
  have r1 := int_bounds hz1
  have r2 := int_bounds hz2
  obtain ⟨qm, em, cm, hm1, hm2, hm3⟩ := make_all z1 z2 r1.1 r1.2 r2.1 r2.2
  have MK1 := Lib.hid hm1
  have MK2 := Lib.hid hm2
  have MK3 := Lib.hid hm3
  obtain ⟨qf, ef, cf, hf1, hf2, hf3⟩ := from_all y1 y2
  have FR1 := Lib.hid hf1
  have FR2 := Lib.hid hf2
  have FR3 := Lib.hid hf3
  have HZ := Lib.hid r1
  have hE0 := ((((FEnv.start HT.out HB.out).cons (f1.next hA)).push (o2.next hA)).push (o1.next hA)).alloc (.cells #[.bool s1, .slice A1 n1 c1, .slice B1 m1 d1] 24)
  have HE0 := Lib.hid hE0
  have hg := heap_alloc_new (((w.alloc (.cells #[.bool s1, .slice A1 n1 c1, .slice B1 m1 d1] 24)).alloc (.cells #[.int .i64 z1, .int .i64 z2] 25)).alloc (.cells #[.bool t1, .slice E1 l1 p1, .bool t2, .slice E2 l2 p2] 28)) (.cells #[.bool s1, .slice A1 n1 c1, .slice B1 m1 d1] 24)
  rw [World.size_alloc, World.size_alloc, World.size_alloc] at hg
  have hs := fun W hg => fshort_any [⟨s1, A1, n1, c1, B1, m1, d1⟩] (w.heap.size + 1 + 1 + 1) 1 24 W hg rfl (by omega)
  have HS := Lib.hid (hs _ hg)
  clear hE0 hg hs ht hb hx f1 o1 o2 hz1 hz2 r1 r2 hm1 hm2 hm3 hf1 hf2 hf3 hA
  go_enter Tryz.func3, Tryz.ntmps3
  go_wp2_with fail
  refine HS.out.mono ?_
  rintro e w1 ⟨rfl, hb1⟩
  have HE := HE0.out.next hb1
  clear HE0 HS hb1
  cases hf : ffew [⟨s1, A1, n1, c1, B1, m1, d1⟩]
  · go_wp2_with fail
    refine (fawake_any _ (HT.out.next HE.below) (HB.out.next HE.below) (HX.out.next HE.below)).mono ?_
    rintro e w2 ⟨rfl, hb2⟩
    replace HE := HE.next hb2
    clear hb2
    go_wp2_with fail
    go_ret
    exact ⟨rfl, below_next HA.out HE.below (Nat.le_refl _)⟩
  · have hn := (ffew_cons hf).1
    clear hf
    have g1 := (HE.fr _ (.head _)).cut hn.1 hn.2
    by_cases hl1 : 12 < l1
    · have hl : (12 : Int) < (l1 : Int) := by omega
      clear hn g1 hl1
      obtain ⟨u0, u1, u2, u3, u4, u5, u6, u7, u8⟩ := HC.out _ HE.below
      go_wp2_with fail
      clear u0 u1 u2 u3 u4 u5 u6 u7 u8
      refine (fawake_any _ (HT.out.next HE.below) (HB.out.next HE.below) (HX.out.next HE.below)).mono ?_
      rintro e w2 ⟨rfl, hb2⟩
      replace HE := HE.next hb2
      clear hb2
      go_wp2_with fail
      go_ret
      exact ⟨rfl, below_next HA.out HE.below (Nat.le_refl _)⟩
    · by_cases hl2 : 12 < l2
      · have hl : (12 : Int) < (l2 : Int) := by omega
        have hk : (l1 : Int) ≤ 12 := by omega
        clear hn g1 hl1 hl2
        obtain ⟨u0, u1, u2, u3, u4, u5, u6, u7, u8⟩ := HC.out _ HE.below
        go_wp2_with fail
        clear u0 u1 u2 u3 u4 u5 u6 u7 u8
        refine (fawake_any _ (HT.out.next HE.below) (HB.out.next HE.below) (HX.out.next HE.below)).mono ?_
        rintro e w2 ⟨rfl, hb2⟩
        replace HE := HE.next hb2
        clear hb2
        go_wp2_with fail
        go_ret
        exact ⟨rfl, below_next HA.out HE.below (Nat.le_refl _)⟩
      · have hl : (((12 : Int) < (l2 : Int)) = False) ∧ (((l2 : Int) ≤ 12) = True) := ⟨eq_false (by omega), eq_true (by omega)⟩
        have hk : (((12 : Int) < (l1 : Int)) = False) ∧ (((l1 : Int) ≤ 12) = True) := ⟨eq_false (by omega), eq_true (by omega)⟩
        obtain ⟨hl3, hl4⟩ := hl
        obtain ⟨hk3, hk4⟩ := hk
        have g2 := (HE.env.ops _ (.head _)).cut (K := 12) (by omega)
        have g3 := (HE.env.ops _ (.tail _ (.head _))).cut (K := 12) (by omega)
        replace HE := (((HE.pick (L' := []) (M' := []) (fun _ he => by simp at he) (fun _ he => by simp at he)).cons g1).push g3).push g2
        clear hn g1 g2 g3 hl1 hl2
        obtain ⟨u0, u1, u2, u3, u4, u5, u6, u7, u8⟩ := HC.out _ HE.below
        go_wp2_with fail
        clear u0 u1 u2 u3 u4 u5 u6 u7 u8
        refine (fawake_any _ (HT.out.next HE.below) (HB.out.next HE.below) (HX.out.next HE.below)).mono ?_
        rintro e w2 ⟨rfl, hb2⟩
        replace HE := HE.next hb2
        clear hb2
        clear hl3 hl4 hk3 hk4 HT HB HX
        obtain ⟨u0, u1, u2, u3, u4, u5, u6, u7, u8⟩ := HC.out _ HE.below
        go_wp2_with fail
        refine (MK2.out _ _ _ _ _ _ HE).mono ?_
        clear HE
        rintro e w3 ⟨s3, A3, n3, c3, B3, m3, d3, rfl, HE⟩
        replace HE := HE.box3 (.bool s3) (.slice A3 n3 c3) (.slice B3 m3 d3)
        clear u0 u1 u2 u3 u4 u5 u6 u7 u8
        obtain ⟨u0, u1, u2, u3, u4, u5, u6, u7, u8⟩ := HC.out _ HE.below
        go_wp2_with fail
        refine (FR2.out _ _ _ _ _ _ _ _ _ _ _ _ HE (.head _) (.tail _ (.head _)) (by omega)).mono ?_
        clear HE
        rintro e w4 ⟨s4, A4, n4, c4, B4, m4, d4, rfl, HE⟩
        replace HE := HE.box3 (.bool s4) (.slice A4 n4 c4) (.slice B4 m4 d4)
        clear u0 u1 u2 u3 u4 u5 u6 u7 u8
        obtain ⟨u0, u1, u2, u3, u4, u5, u6, u7, u8⟩ := HC.out _ HE.below
        go_wp2_with fail
        refine (fparts_v HE (.tail _ (.tail _ (.head _))) (by omega)).mono ?_
        clear HE
        rintro e w5 ⟨s51, A51, n51, c51, s52, A52, n52, c52, rfl, HE⟩
        replace HE := (HE.box2 (.bool s51) (.slice A51 n51 c51)).box2 (.bool s52) (.slice A52 n52 c52)
        simp only [World.size_alloc] at HE
        clear u0 u1 u2 u3 u4 u5 u6 u7 u8
        obtain ⟨u0, u1, u2, u3, u4, u5, u6, u7, u8⟩ := HC.out _ HE.below
        go_wp2_with fail
        refine (MK3.out _ _ _ _ _ _ HE).mono ?_
        clear HE
        rintro e w6 ⟨s6, A6, n6, c6, B6, m6, d6, rfl, HE⟩
        replace HE := HE.box3 (.bool s6) (.slice A6 n6 c6) (.slice B6 m6 d6)
        clear u0 u1 u2 u3 u4 u5 u6 u7 u8
        obtain ⟨u0, u1, u2, u3, u4, u5, u6, u7, u8⟩ := HC.out _ HE.below
        go_wp2_with fail
        refine (FR3.out _ _ _ _ _ _ _ _ _ _ _ _ HE (.tail _ (.tail _ (.head _))) (.tail _ (.tail _ (.tail _ (.head _)))) (by omega)).mono ?_
        clear HE
        rintro e w7 ⟨s7, A7, n7, c7, B7, m7, d7, rfl, HE⟩
        replace HE := HE.box3 (.bool s7) (.slice A7 n7 c7) (.slice B7 m7 d7)
        clear u0 u1 u2 u3 u4 u5 u6 u7 u8
        obtain ⟨u0, u1, u2, u3, u4, u5, u6, u7, u8⟩ := HC.out _ HE.below
        go_wp2_with fail
        refine (rparts_v HE (.tail _ (.tail _ (.tail _ (.tail _ (.head _))))) (by omega)).mono ?_
        clear HE
        rintro e w8 ⟨s81, A81, n81, c81, s82, A82, n82, c82, rfl, HE⟩
        replace HE := (HE.box2 (.bool s81) (.slice A81 n81 c81)).box2 (.bool s82) (.slice A82 n82 c82)
        simp only [World.size_alloc] at HE
        clear u0 u1 u2 u3 u4 u5 u6 u7 u8
        obtain ⟨u0, u1, u2, u3, u4, u5, u6, u7, u8⟩ := HC.out _ HE.below
        go_wp2_with fail
        clear u0 u1 u2 u3 u4 u5 u6 u7 u8
        go_region_held3 (fun w' => (w'.cell? ⟨w.heap.size, 0, none⟩ = some (.bool s1) ∧ w'.cell? ⟨w.heap.size, 1, none⟩ = some (.slice A1 n1 c1) ∧ w'.cell? ⟨w.heap.size, 2, none⟩ = some (.slice B1 m1 d1) ∧ w'.cell? ⟨w.heap.size + 1, 0, none⟩ = some (.int .i64 z1) ∧ w'.cell? ⟨w.heap.size + 1, 1, none⟩ = some (.int .i64 z2) ∧ w'.cell? ⟨w.heap.size + 1 + 1, 0, none⟩ = some (.bool t1) ∧ w'.cell? ⟨w.heap.size + 1 + 1, 1, none⟩ = some (.slice E1 l1 p1) ∧ w'.cell? ⟨w.heap.size + 1 + 1, 2, none⟩ = some (.bool t2) ∧ w'.cell? ⟨w.heap.size + 1 + 1, 3, none⟩ = some (.slice E2 l2 p2)) ∧ w'.cell? ⟨w7.heap.size, 0, none⟩ = some (.bool s7) ∧ w'.cell? ⟨w7.heap.size, 1, none⟩ = some (.slice A7 n7 c7) ∧ w'.cell? ⟨w7.heap.size, 2, none⟩ = some (.slice B7 m7 d7) ∧ w'.cell? ⟨w6.heap.size, 0, none⟩ = some (.bool s6) ∧ w'.cell? ⟨w6.heap.size, 1, none⟩ = some (.slice A6 n6 c6) ∧ w'.cell? ⟨w6.heap.size, 2, none⟩ = some (.slice B6 m6 d6) ∧ w'.cell? ⟨w4.heap.size, 0, none⟩ = some (.bool s4) ∧ w'.cell? ⟨w4.heap.size, 1, none⟩ = some (.slice A4 n4 c4) ∧ w'.cell? ⟨w4.heap.size, 2, none⟩ = some (.slice B4 m4 d4) ∧ w'.cell? ⟨w3.heap.size, 0, none⟩ = some (.bool s3) ∧ w'.cell? ⟨w3.heap.size, 1, none⟩ = some (.slice A3 n3 c3) ∧ w'.cell? ⟨w3.heap.size, 2, none⟩ = some (.slice B3 m3 d3) ∧ w'.cell? ⟨w8.heap.size + 1, 0, none⟩ = some (.bool s82) ∧ w'.cell? ⟨w8.heap.size + 1, 1, none⟩ = some (.slice A82 n82 c82) ∧ w'.cell? ⟨w8.heap.size, 0, none⟩ = some (.bool s81) ∧ w'.cell? ⟨w8.heap.size, 1, none⟩ = some (.slice A81 n81 c81) ∧ w'.cell? ⟨w5.heap.size + 1, 0, none⟩ = some (.bool s52) ∧ w'.cell? ⟨w5.heap.size + 1, 1, none⟩ = some (.slice A52 n52 c52) ∧ w'.cell? ⟨w5.heap.size, 0, none⟩ = some (.bool s51) ∧ w'.cell? ⟨w5.heap.size, 1, none⟩ = some (.slice A51 n51 c51)) (first | exact ⟨HC.out _ HE.below, (HE.c3 (.head _)).1, (HE.c3 (.head _)).2.1, (HE.c3 (.head _)).2.2.1, (HE.c3 (.tail _ (.head _))).1, (HE.c3 (.tail _ (.head _))).2.1, (HE.c3 (.tail _ (.head _))).2.2.1, (HE.c3 (.tail _ (.tail _ (.head _)))).1, (HE.c3 (.tail _ (.tail _ (.head _)))).2.1, (HE.c3 (.tail _ (.tail _ (.head _)))).2.2.1, (HE.c3 (.tail _ (.tail _ (.tail _ (.head _))))).1, (HE.c3 (.tail _ (.tail _ (.tail _ (.head _))))).2.1, (HE.c3 (.tail _ (.tail _ (.tail _ (.head _))))).2.2.1, (HE.c2 (.head _)).1, (HE.c2 (.head _)).2.1, (HE.c2 (.tail _ (.head _))).1, (HE.c2 (.tail _ (.head _))).2.1, (HE.c2 (.tail _ (.tail _ (.head _)))).1, (HE.c2 (.tail _ (.tail _ (.head _)))).2.1, (HE.c2 (.tail _ (.tail _ (.tail _ (.head _))))).1, (HE.c2 (.tail _ (.tail _ (.tail _ (.head _))))).2.1⟩ | exact ⟨HC.out _ HE.drew.below, (HE.drew.c3 (.head _)).1, (HE.drew.c3 (.head _)).2.1, (HE.drew.c3 (.head _)).2.2.1, (HE.drew.c3 (.tail _ (.head _))).1, (HE.drew.c3 (.tail _ (.head _))).2.1, (HE.drew.c3 (.tail _ (.head _))).2.2.1, (HE.drew.c3 (.tail _ (.tail _ (.head _)))).1, (HE.drew.c3 (.tail _ (.tail _ (.head _)))).2.1, (HE.drew.c3 (.tail _ (.tail _ (.head _)))).2.2.1, (HE.drew.c3 (.tail _ (.tail _ (.tail _ (.head _))))).1, (HE.drew.c3 (.tail _ (.tail _ (.tail _ (.head _))))).2.1, (HE.drew.c3 (.tail _ (.tail _ (.tail _ (.head _))))).2.2.1, (HE.drew.c2 (.head _)).1, (HE.drew.c2 (.head _)).2.1, (HE.drew.c2 (.tail _ (.head _))).1, (HE.drew.c2 (.tail _ (.head _))).2.1, (HE.drew.c2 (.tail _ (.tail _ (.head _)))).1, (HE.drew.c2 (.tail _ (.tail _ (.head _)))).2.1, (HE.drew.c2 (.tail _ (.tail _ (.tail _ (.head _))))).1, (HE.drew.c2 (.tail _ (.tail _ (.tail _ (.head _))))).2.1⟩)
          (first
            | (go_at_call 19; refine (fvalid_v (by first | exact HE | exact HE.drew) (by repeat (first | exact .head _ | assumption | refine .tail _ ?_)) (by omega)).mono ?_; rintro e wn ⟨rfl, HE⟩)
            | (go_at_call 20; refine (rfvalid_v (by first | exact HE | exact HE.drew) (by repeat (first | exact .head _ | assumption | refine .tail _ ?_)) (by omega)).mono ?_; rintro e wn ⟨rfl, HE⟩)
            | (go_at_call 22; refine (fof_v (by first | exact HE | exact HE.drew) HZ.out.1 HZ.out.2).mono ?_; rintro e wn ⟨u, rfl, HE⟩)
            | (go_at_call 23; refine (rfof_v (by first | exact HE | exact HE.drew) HZ.out.1 HZ.out.2).mono ?_; rintro e wn ⟨u, rfl, HE⟩)
            | (go_at_call 21; refine (fsame_t (by first | exact HE | exact HE.drew) (by repeat (first | exact .head _ | assumption | refine .tail _ ?_)) (by repeat (first | exact .head _ | assumption | refine .tail _ ?_)) (by omega) rfl).mono ?_; rintro e wn ⟨rfl, HE⟩)
            | (go_at_call 25; refine (rsame_f (by first | exact HE | exact HE.drew) (by repeat (first | exact .head _ | assumption | refine .tail _ ?_)) (by repeat (first | exact .head _ | assumption | refine .tail _ ?_)) (by omega) rfl).mono ?_; rintro e wn ⟨rfl, HE⟩)
            | (go_at_call 24; (with_reducible show Calls _ _ #[em] _ _); refine ((fun (_ : True) => MK1.out _) trivial).mono ?_; rintro e wn ⟨rfl, rfl⟩)
            | (go_at_call 24; (with_reducible show Calls _ _ #[ef] _ _); refine ((fun (_ : True) => FR1.out _) trivial).mono ?_; rintro e wn ⟨rfl, rfl⟩))
        go_wp2_with fail
        go_ret
        exact ⟨rfl, below_next HA.out HE.below (Nat.le_refl _)⟩
end Go.Proofs.YtdecmhcojdnokaaGreatDoor
