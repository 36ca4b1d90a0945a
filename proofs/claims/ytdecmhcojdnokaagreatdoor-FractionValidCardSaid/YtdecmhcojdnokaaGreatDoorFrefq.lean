/- The reference of fractions: Parts. -/
import Derived.Test.YtdecmhcojdnokaaGreatDoorFrefp
import Derived.Deep.RegionHeld3
namespace Go.Proofs.YtdecmhcojdnokaaGreatDoor
open Go Go.RowKit Lw
section
variable {W0 w : World} {bs : List Bx} {L : List En} {ts : List Bt} {M : List Qn} {s s' : Bool} {A A' B B' : Option Addr} {n c n' c' m d m' d' k k' : Nat} {q r : Rat} {x y : Int} {b b' : Bool}
set_option maxRecDepth 100000 in
set_option maxHeartbeats 2400000 in
theorem rparts_f (HE : FEnv W0 w bs L ts M) (h : ⟨.agg #[.bool s, .slice A n c, .slice A' n' c'], q, k, b⟩ ∈ M) (hk : k ≤ 3000) :
    Calls Tryz.prog 18 #[.agg #[.bool s, .slice A n c, .slice A' n' c']] w (GotP W0 bs L ts M q.num (q.den : Int) (k + 2)) := by
  refine Calls.mono (R := GotP w [] L [] M q.num (q.den : Int) (k + 2)) ?_ fun _ _ hh => GotP.of HE hh
  have HO := Lib.hid (HE.here)
  have hF := HE.fr _ h
  have hz : b = false ∨ n = 0 → q = 0 := by
    intro hb
    rcases hb with rfl | hb
    · obtain ⟨s', A1, n1, c1, A2, n2, c2, ns, ms, h1, h2, h3, h4, h5, h6, h7, h8, h9, h10, h11⟩ := hF
      dsimp only at h10 h11
      rw [← h10]; unfold qv; rw [h11]; rfl
    · cases b
      · obtain ⟨s', A1, n1, c1, A2, n2, c2, ns, ms, h1, h2, h3, h4, h5, h6, h7, h8, h9, h10, h11⟩ := hF
        dsimp only at h10 h11
        rw [← h10]; unfold qv; rw [h11]; rfl
      · exact (n_zero hF.own.2.1).1 hb
  have hnz : b = true → n ≠ 0 → q ≠ 0 := by
    rintro rfl h1 h2
    exact h1 ((n_zero hF.own.2.1).2 h2)
  replace HE := ((HE.here.box3 (.bool s) (.slice A n c) (.slice A' n' c')).box2 (.bool false) (.slice none 0 0)).box2 (.bool false) (.slice none 0 0)
  simp only [World.size_alloc] at HE
  cases b
  · have HQ := Lib.hid (hz (.inl rfl))
    clear hz hnz hF HO
    skip
    obtain ⟨q0, q1, q2, q3, q4, q5⟩ := HE.c3 (.head _)
    go_enter Tryz.func18, Tryz.ntmps18
    go_wp2_with fail
    refine (rfvalid_f HE h hk).mono ?_
    clear HE
    rintro e w1 ⟨rfl, HE⟩
    clear q0 q1 q2 q3 q4 q5
    obtain ⟨q6, q7, q8, q9, q10, q11⟩ := HE.c3 (.head _)
    go_wp2_with fail
    refine (one_f HE).mono ?_
    clear HE
    rintro e w2 ⟨s1, A1, n1, c1, rfl, HE⟩
    clear q6 q7 q8 q9 q10 q11
    obtain ⟨a0, a1, a2, a3⟩ := HE.c2 (.head _)
    obtain ⟨b0, b1, b2, b3⟩ := HE.c2 (.tail _ (.head _))
    go_wp2_with fail
    refine bodyPost_ret (v := .tuple #[.agg #[.bool false, .slice none 0 0], .agg #[.bool s1, .slice A1 n1 c1]]) (by simp [results, Tryz.results18, go_sem, a0, a1, b0, b1]) rfl ?_
    have H3 := (HE.put2 (.tail _ (.head _)) [⟨w.heap.size + 1 + 1, .bool false, .slice none 0 0⟩] (fun b hb => by simp only [List.mem_cons, List.not_mem_nil, or_false] at hb; subst hb; exact ⟨(by repeat (first | exact .head _ | refine .tail _ ?_)), by dsimp only; omega⟩) false (.slice none 0 0)).done2 (.tail _ (.head _)) s1 (.slice A1 n1 c1)
    have hq := HQ.out
    subst hq
    have h1 := H3.env.ops _ (.head _)
    exact ⟨_, _, _, _, _, _, _, _, rfl, ((H3.tl.push (h1.weak (by omega))).push ⟨false, none, 0, 0, [], 0, rfl, Rd.nil_ _ _ _, Nat.zero_le _, rfl, Nat.zero_le _, Nat.le_refl _, rfl, rfl⟩).bare⟩
  · by_cases hn : n = 0
    · have HQ := Lib.hid (hz (.inr hn))
      subst hn
      clear hz hnz hF HO
      skip
      obtain ⟨q0, q1, q2, q3, q4, q5⟩ := HE.c3 (.head _)
      go_enter Tryz.func18, Tryz.ntmps18
      go_wp2_with fail
      refine (rfvalid_f HE h hk).mono ?_
      clear HE
      rintro e w1 ⟨rfl, HE⟩
      clear q0 q1 q2 q3 q4 q5
      obtain ⟨q6, q7, q8, q9, q10, q11⟩ := HE.c3 (.head _)
      go_wp2_with fail
      refine (one_f HE).mono ?_
      clear HE
      rintro e w2 ⟨s1, A1, n1, c1, rfl, HE⟩
      clear q6 q7 q8 q9 q10 q11
      obtain ⟨a0, a1, a2, a3⟩ := HE.c2 (.head _)
      obtain ⟨b0, b1, b2, b3⟩ := HE.c2 (.tail _ (.head _))
      go_wp2_with fail
      refine bodyPost_ret (v := .tuple #[.agg #[.bool false, .slice none 0 0], .agg #[.bool s1, .slice A1 n1 c1]]) (by simp [results, Tryz.results18, go_sem, a0, a1, b0, b1]) rfl ?_
      have H3 := (HE.put2 (.tail _ (.head _)) [⟨w.heap.size + 1 + 1, .bool false, .slice none 0 0⟩] (fun b hb => by simp only [List.mem_cons, List.not_mem_nil, or_false] at hb; subst hb; exact ⟨(by repeat (first | exact .head _ | refine .tail _ ?_)), by dsimp only; omega⟩) false (.slice none 0 0)).done2 (.tail _ (.head _)) s1 (.slice A1 n1 c1)
      have hq := HQ.out
      subst hq
      have h1 := H3.env.ops _ (.head _)
      exact ⟨_, _, _, _, _, _, _, _, rfl, ((H3.tl.push (h1.weak (by omega))).push ⟨false, none, 0, 0, [], 0, rfl, Rd.nil_ _ _ _, Nat.zero_le _, rfl, Nat.zero_le _, Nat.le_refl _, rfl, rfl⟩).bare⟩
    · have HQ := Lib.hid (hnz rfl hn)
      have hn0 : ((n : Int) == 0) = false := by rw [beq_eq_false_iff_ne]; omega
      clear hz hnz hF HO hn
      obtain ⟨q0, q1, q2, q3, q4, q5⟩ := HE.c3 (.head _)
      go_enter Tryz.func18, Tryz.ntmps18
      go_wp2_with fail
      refine (rfvalid_f HE h hk).mono ?_
      clear HE
      rintro e w1 ⟨rfl, HE⟩
      clear q0 q1 q2 q3 q4 q5
      obtain ⟨q6, q7, q8, q9⟩ := HE.c2 (.head _)
      obtain ⟨q10, q11, q12, q13⟩ := HE.c2 (.tail _ (.head _))
      obtain ⟨q14, q15, q16, q17, q18, q19⟩ := HE.c3 (.head _)
      go_wp2_with fail
      go_region
      go_wp2_with fail
      refine bodyPost_ret (v := .tuple #[.agg #[.bool s, .slice A n c], .agg #[.bool false, .slice A' n' c']]) (by simp [results, Tryz.results18, go_sem, q6, q7, q10, q11]) rfl ?_
      have H3 := (HE.drew.put2 (.tail _ (.head _)) [⟨w.heap.size + 1 + 1, .bool false, .slice none 0 0⟩] (fun b hb => by simp only [List.mem_cons, List.not_mem_nil, or_false] at hb; subst hb; exact ⟨(by repeat (first | exact .head _ | refine .tail _ ?_)), by dsimp only; omega⟩) s (.slice A n c)).done2 (.tail _ (.head _)) false (.slice A' n' c')
      have H4 := H3.bare.parts h HQ.out
      exact ⟨_, _, _, _, _, _, _, _, rfl, (H4.tl.tl.push ((H4.env.ops _ (.tail _ (.head _))).weak (by omega))).push ((H4.env.ops _ (.head _)).weak (by omega))⟩
end
end Go.Proofs.YtdecmhcojdnokaaGreatDoor
