/- The reference of fractions: form. -/
import Derived.Test.YtdecmhcojdnokaaGreatDoorFrefq
import Derived.Test.YtdecmhcojdnokaaGreatDoorFenv
import Derived.Deep.RegionWith
namespace Go.Proofs.YtdecmhcojdnokaaGreatDoor
open Go Go.RowKit Lw
section
variable {W0 w : World} {bs : List Bx} {L : List En} {ts : List Bt} {M : List Qn} {s s' : Bool} {A A' B B' : Option Addr} {n c n' c' m d m' d' k k' : Nat} {q r : Rat} {x y : Int} {b b' : Bool}
theorem FEnv.form2 {v : Value} (HE : FEnv W0 w bs L ts M) (h : ⟨.agg #[.bool s, .slice A n c], x, k, true⟩ ∈ L) (h' : ⟨.agg #[.bool s', .slice A' n' c'], y, k', true⟩ ∈ L) (hq : q ≠ 0) (hx : q.num = x) (hy : (q.den : Int) = y)
    (hv : v = .agg #[.bool s, .slice A n c, .slice A' n' c']) : FEnv W0 w bs L ts (⟨v, q, k + k', true⟩ :: M) := by
  subst hv
  have h0 : x ≠ 0 := by rw [← hx]; exact fun e => hq (Rat.num_eq_zero.1 e)
  have h1 : 0 < y := by rw [← hy]; exact den_pos q
  have hg : Nat.gcd x.natAbs y.natAbs = 1 := by rw [← hx, ← hy, Int.natAbs_natCast]; exact q.reduced
  have h2 : Rat.divInt x y = q := by rw [← hx, ← hy]; exact Rat.num_divInt_den q
  have h3 := HE.frac h h' h0 h1 hg
  rwa [h2] at h3
theorem divInt_ne {x y : Int} (hx : x ≠ 0) (hy : y ≠ 0) : Rat.divInt x y ≠ 0 := by
  rw [Ne, ← Rat.zero_divInt y, Rat.divInt_eq_divInt_iff hy hy, Int.zero_mul]
  exact fun e => (Int.mul_eq_zero.1 e).elim hx hy
theorem divInt_neg2 (x y : Int) : Rat.divInt (-x) (-y) = Rat.divInt x y := by
  by_cases hy : y = 0
  · subst hy; simp
  · rw [Rat.divInt_eq_divInt_iff (by omega) hy, Int.neg_mul, Int.mul_neg]
set_option maxRecDepth 100000 in
set_option maxHeartbeats 4000000 in
theorem form_f (HE : FEnv W0 w bs L ts M) (h : ⟨.agg #[.bool s, .slice A n c], x, k, b⟩ ∈ L) (h' : ⟨.agg #[.bool s', .slice A' n' c'], y, k', b'⟩ ∈ L) (hk : k + k' ≤ 4000) (hy : y ≠ 0) :
    Calls Tryz.prog 73 #[.agg #[.bool s, .slice A n c], .agg #[.bool s', .slice A' n' c']] w (GotQ W0 bs L ts M (Rat.divInt x y) (k + 1 + (k' + 1))) := by
  refine Calls.mono (R := (GotQ w [] L [] M (Rat.divInt x y) (k + 1 + (k' + 1)))) ?_ fun _ _ hh => GotQ.of HE hh
  replace HE := ((HE.here.box2 (.bool s) (.slice A n c)).box2 (.bool s') (.slice A' n' c')).box3 (.bool false) (.slice none 0 0) (.slice none 0 0)
  simp only [World.size_alloc] at HE
  by_cases hx : x = 0
  · have HS := Lib.hid (show signI x = 0 by unfold signI; rw [if_neg (by omega), if_pos hx])
    have HX := Lib.hid (show Rat.divInt x y = 0 by rw [hx]; exact Rat.zero_divInt _)
    clear hx hy
    obtain ⟨q0, q1, q2, q3⟩ := HE.c2 (.head _)
    obtain ⟨q4, q5, q6, q7⟩ := HE.c2 (.tail _ (.head _))
    obtain ⟨q8, q9, q10, q11, q12, q13⟩ := HE.c3 (.head _)
    go_enter Tryz.func73, Tryz.ntmps73
    go_wp2_with fail
    refine (rsign_f HE h (by omega)).mono ?_
    rw [HS.out]
    clear HE
    rintro e w1 ⟨rfl, HE⟩
    clear q0 q1 q2 q3 q4 q5 q6 q7 q8 q9 q10 q11 q12 q13
    obtain ⟨q14, q15, q16, q17, q18, q19⟩ := HE.c3 (.head _)
    have TF := (HE.tri3 (.head _)).put (.bool false) (.slice none 0 0) (.slice none 0 0)
    go_wp2_with fail
    obtain ⟨z0, z1, z2, -, -, -⟩ := TF.cells
    refine bodyPost_ret (v := .agg #[.bool false, .slice none 0 0, .slice none 0 0]) (by simp [results, Tryz.results73, go_sem, z0, z1, z2]) rfl ?_
    rw [HX.out]
    exact ⟨_, _, _, _, _, _, _, rfl, ((HE.done3 (D := none) (m := 0) (d := 0) (.head _) false (.slice none 0 0)).bare).zero _⟩
  · by_cases h0 : 0 < y
    · have hs : (signI x == 0) = false := by rw [beq_eq_false_iff_ne]; unfold signI; split; decide; first | decide | (rw [if_neg hx]; decide)
      have HS := Lib.hid (show signI y = 1 by unfold signI; rw [if_neg (by omega), if_neg (by omega)])
      obtain ⟨g, hg⟩ : ∃ g : Int, g = (Nat.gcd x.natAbs y.natAbs : Nat) := ⟨_, rfl⟩
      have HR := Lib.hid (red_long h0 hg)
      have HG := Lib.hid hg
      have HX0 := Lib.hid (divInt_ne hx hy)
      clear hg h0 hx hy
      generalize Rat.divInt x y = q at *
      obtain ⟨q0, q1, q2, q3⟩ := HE.c2 (.head _)
      obtain ⟨q4, q5, q6, q7⟩ := HE.c2 (.tail _ (.head _))
      obtain ⟨q8, q9, q10, q11, q12, q13⟩ := HE.c3 (.head _)
      go_enter Tryz.func73, Tryz.ntmps73
      go_wp2_with fail
      refine (rsign_f HE h (by omega)).mono ?_
      clear HE
      rintro e w1 ⟨rfl, HE⟩
      clear q0 q1 q2 q3 q4 q5 q6 q7 q8 q9 q10 q11 q12 q13
      obtain ⟨q14, q15, q16, q17⟩ := HE.c2 (.head _)
      obtain ⟨q18, q19, q20, q21⟩ := HE.c2 (.tail _ (.head _))
      obtain ⟨q22, q23, q24, q25, q26, q27⟩ := HE.c3 (.head _)
      go_wp2_with fail
      refine (rsign_f HE h' (by omega)).mono ?_
      rw [HS.out]
      clear HE
      rintro e w2 ⟨rfl, HE⟩
      clear hs
      clear q14 q15 q16 q17 q18 q19 q20 q21 q22 q23 q24 q25 q26 q27
      obtain ⟨q28, q29, q30, q31⟩ := HE.c2 (.head _)
      obtain ⟨q32, q33, q34, q35⟩ := HE.c2 (.tail _ (.head _))
      obtain ⟨q36, q37, q38, q39, q40, q41⟩ := HE.c3 (.head _)
      go_wp2_with fail
      refine (rgcd_f HE (by repeat (first | exact .head _ | assumption | refine .tail _ ?_)) (by repeat (first | exact .head _ | assumption | refine .tail _ ?_)) (by omega)).mono ?_
      clear HE
      rintro e wg ⟨sg, Ag, ng, cg, rfl, HE⟩
      rw [← HG.out] at HE
      replace HE := HE.box2 (.bool sg) (.slice Ag ng cg)
      clear q28 q29 q30 q31 q32 q33 q34 q35 q36 q37 q38 q39 q40 q41
      obtain ⟨q42, q43, q44, q45⟩ := HE.c2 (.head _)
      obtain ⟨q46, q47, q48, q49⟩ := HE.c2 (.tail _ (.head _))
      obtain ⟨q50, q51, q52, q53⟩ := HE.c2 (.tail _ (.tail _ (.head _)))
      obtain ⟨q54, q55, q56, q57, q58, q59⟩ := HE.c3 (.head _)
      go_wp2_with fail
      refine (rdiv_f HE (by repeat (first | exact .head _ | assumption | refine .tail _ ?_)) (by repeat (first | exact .head _ | assumption | refine .tail _ ?_)) (by omega) HR.out.2.2).mono ?_
      clear HE
      rintro e wx ⟨sx, sy, Ax, Ay, lx, cx, ly, cy, rfl, HE⟩
      replace HE := (HE.box2 (.bool sx) (.slice Ax lx cx)).box2 (.bool sy) (.slice Ay ly cy)
      simp only [World.size_alloc] at HE
      clear q42 q43 q44 q45 q46 q47 q48 q49 q50 q51 q52 q53 q54 q55 q56 q57 q58 q59
      obtain ⟨q60, q61, q62, q63⟩ := HE.c2 (.head _)
      obtain ⟨q64, q65, q66, q67⟩ := HE.c2 (.tail _ (.head _))
      obtain ⟨q68, q69, q70, q71⟩ := HE.c2 (.tail _ (.tail _ (.head _)))
      obtain ⟨q72, q73, q74, q75⟩ := HE.c2 (.tail _ (.tail _ (.tail _ (.head _))))
      obtain ⟨q76, q77, q78, q79⟩ := HE.c2 (.tail _ (.tail _ (.tail _ (.tail _ (.head _)))))
      obtain ⟨q80, q81, q82, q83, q84, q85⟩ := HE.c3 (.head _)
      go_wp2_with fail
      refine (rdiv_f HE (by repeat (first | exact .head _ | assumption | refine .tail _ ?_)) (by repeat (first | exact .head _ | assumption | refine .tail _ ?_)) (by omega) HR.out.2.2).mono ?_
      clear HE
      rintro e wy ⟨su, sv, Au, Av, lu, cu, lv, cv, rfl, HE⟩
      replace HE := (HE.box2 (.bool su) (.slice Au lu cu)).box2 (.bool sv) (.slice Av lv cv)
      simp only [World.size_alloc] at HE
      clear q60 q61 q62 q63 q64 q65 q66 q67 q68 q69 q70 q71 q72 q73 q74 q75 q76 q77 q78 q79 q80 q81 q82 q83 q84 q85
      obtain ⟨q86, q87, q88, q89⟩ := HE.c2 (.tail _ (.head _))
      obtain ⟨q90, q91, q92, q93⟩ := HE.c2 (.tail _ (.tail _ (.tail _ (.head _))))
      obtain ⟨q94, q95, q96, q97, q98, q99⟩ := HE.c3 (.head _)
      have TF := (HE.tri3 (.head _)).put (.bool sx) (.slice Ax lx cx) (.slice Au lu cu)
      go_wp2_with fail
      obtain ⟨z0, z1, z2, -, -, -⟩ := TF.cells
      refine bodyPost_ret (v := .agg #[.bool sx, .slice Ax lx cx, .slice Au lu cu]) (by simp [results, Tryz.results73, go_sem, z0, z1, z2]) rfl ?_
      have HF := HE.form2 (v := .agg #[.bool sx, .slice Ax lx cx, .slice Au lu cu]) (s := sx) (A := Ax) (n := lx) (c := cx) (s' := su) (A' := Au) (n' := lu) (c' := cu) (by repeat (first | exact .head _ | assumption | refine .tail _ ?_)) (by repeat (first | exact .head _ | assumption | refine .tail _ ?_)) HX0.out HR.out.1 HR.out.2.1 rfl
      have HK := (HF.done3 (D := Ax) (m := lx) (d := cx) (.head _) sx (.slice Au lu cu)).bare
      exact ⟨_, _, _, _, _, _, _, rfl, (HK.pick (fun e he => .tail _ (.tail _ (.tail _ (.tail _ (.tail _ (he)))))) (fun _ he => he)).hd (·.weak (by omega))⟩
    · have hs : (signI x == 0) = false := by rw [beq_eq_false_iff_ne]; unfold signI; split; decide; first | decide | (rw [if_neg hx]; decide)
      have HS := Lib.hid (show signI y = -1 by unfold signI; rw [if_pos (by omega)])
      obtain ⟨g, hg⟩ : ∃ g : Int, g = (Nat.gcd (-x).natAbs (-y).natAbs : Nat) := ⟨_, rfl⟩
      have HR := Lib.hid (red_long (n := -x) (d := -y) (by omega) hg)
      have HG := Lib.hid hg
      have HX0 := Lib.hid (divInt_ne (x := -x) (y := -y) (by omega) (by omega))
      have HN := Lib.hid (divInt_neg2 x y)
      clear hg h0 hx hy
      rw [← HN.out]
      clear HN
      generalize Rat.divInt (-x) (-y) = q at *
      obtain ⟨q0, q1, q2, q3⟩ := HE.c2 (.head _)
      obtain ⟨q4, q5, q6, q7⟩ := HE.c2 (.tail _ (.head _))
      obtain ⟨q8, q9, q10, q11, q12, q13⟩ := HE.c3 (.head _)
      go_enter Tryz.func73, Tryz.ntmps73
      go_wp2_with fail
      refine (rsign_f HE h (by omega)).mono ?_
      clear HE
      rintro e w1 ⟨rfl, HE⟩
      clear q0 q1 q2 q3 q4 q5 q6 q7 q8 q9 q10 q11 q12 q13
      obtain ⟨q14, q15, q16, q17⟩ := HE.c2 (.head _)
      obtain ⟨q18, q19, q20, q21⟩ := HE.c2 (.tail _ (.head _))
      obtain ⟨q22, q23, q24, q25, q26, q27⟩ := HE.c3 (.head _)
      go_wp2_with fail
      refine (rsign_f HE h' (by omega)).mono ?_
      rw [HS.out]
      clear HE
      rintro e w2 ⟨rfl, HE⟩
      clear hs
      clear q14 q15 q16 q17 q18 q19 q20 q21 q22 q23 q24 q25 q26 q27
      obtain ⟨q28, q29, q30, q31⟩ := HE.c2 (.head _)
      obtain ⟨q32, q33, q34, q35⟩ := HE.c2 (.tail _ (.head _))
      go_wp2_with fail
      go_region_with
        (first
          | (go_at_call 85; have _ := HC1; refine (rneg_f (by with_reducible first | exact HE | exact HE.drew) (.tail _ h') (by omega)).mono ?_; rintro e wb ⟨sb, Ab, nb, cb, rfl, HE⟩; obtain ⟨v0, v1, v2, v3⟩ := HE.c2 (.tail _ (.head _)); obtain ⟨v4, v5, v6, v7⟩ := HE.c2 (.head _))
          | (go_at_call 85; refine (rneg_f (by with_reducible first | exact HE | exact HE.drew) h (by omega)).mono ?_; rintro e wa ⟨sa, Aa, na, ca, rfl, HE⟩; have HC1 := HE; obtain ⟨u0, u1, u2, u3⟩ := HE.c2 (.tail _ (.head _)); obtain ⟨u4, u5, u6, u7⟩ := HE.c2 (.head _)))
      all_goals
        first | clear q28 q29 q30 q31 q32 q33 q34 q35 u0 u1 u2 u3 u4 u5 u6 u7 v0 v1 v2 v3 v4 v5 v6 v7 HC1 | skip
        replace HE := (HE.put2 (.tail _ (.head _)) [⟨w.heap.size + 1, .bool s', .slice A' n' c'⟩] (fun b hb => by simp only [List.mem_cons, List.not_mem_nil, or_false] at hb; subst hb; exact ⟨(by repeat (first | exact .head _ | refine .tail _ ?_)), by dsimp only; omega⟩) sa (.slice Aa na ca)).put2 (.tail _ (.head _)) [⟨w.heap.size, .bool sa, .slice Aa na ca⟩] (fun b hb => by simp only [List.mem_cons, List.not_mem_nil, or_false] at hb; subst hb; exact ⟨(by repeat (first | exact .head _ | refine .tail _ ?_)), by dsimp only; omega⟩) sb (.slice Ab nb cb)
        generalize ((((wb.setCell ⟨w.heap.size, 0, none⟩ (.bool sa)).setCell ⟨w.heap.size, 1, none⟩ (.slice Aa na ca)).setCell ⟨w.heap.size + 1, 0, none⟩ (.bool sb)).setCell ⟨w.heap.size + 1, 1, none⟩ (.slice Ab nb cb)) = W5 at *
        obtain ⟨q36, q37, q38, q39⟩ := HE.c2 (.head _)
        obtain ⟨q40, q41, q42, q43⟩ := HE.c2 (.tail _ (.head _))
        obtain ⟨q44, q45, q46, q47, q48, q49⟩ := HE.c3 (.head _)
        go_wp2_with fail
        refine (rgcd_f HE (by repeat (first | exact .head _ | assumption | refine .tail _ ?_)) (by repeat (first | exact .head _ | assumption | refine .tail _ ?_)) (by omega)).mono ?_
        clear HE
        rintro e wg ⟨sg, Ag, ng, cg, rfl, HE⟩
        rw [← HG.out] at HE
        replace HE := HE.box2 (.bool sg) (.slice Ag ng cg)
        clear q36 q37 q38 q39 q40 q41 q42 q43 q44 q45 q46 q47 q48 q49
        obtain ⟨q50, q51, q52, q53⟩ := HE.c2 (.head _)
        obtain ⟨q54, q55, q56, q57⟩ := HE.c2 (.tail _ (.head _))
        obtain ⟨q58, q59, q60, q61⟩ := HE.c2 (.tail _ (.tail _ (.head _)))
        obtain ⟨q62, q63, q64, q65, q66, q67⟩ := HE.c3 (.head _)
        go_wp2_with fail
        refine (rdiv_f HE (by repeat (first | exact .head _ | assumption | refine .tail _ ?_)) (by repeat (first | exact .head _ | assumption | refine .tail _ ?_)) (by omega) HR.out.2.2).mono ?_
        clear HE
        rintro e wx ⟨sx, sy, Ax, Ay, lx, cx, ly, cy, rfl, HE⟩
        replace HE := (HE.box2 (.bool sx) (.slice Ax lx cx)).box2 (.bool sy) (.slice Ay ly cy)
        simp only [World.size_alloc] at HE
        clear q50 q51 q52 q53 q54 q55 q56 q57 q58 q59 q60 q61 q62 q63 q64 q65 q66 q67
        obtain ⟨q68, q69, q70, q71⟩ := HE.c2 (.head _)
        obtain ⟨q72, q73, q74, q75⟩ := HE.c2 (.tail _ (.head _))
        obtain ⟨q76, q77, q78, q79⟩ := HE.c2 (.tail _ (.tail _ (.head _)))
        obtain ⟨q80, q81, q82, q83⟩ := HE.c2 (.tail _ (.tail _ (.tail _ (.head _))))
        obtain ⟨q84, q85, q86, q87⟩ := HE.c2 (.tail _ (.tail _ (.tail _ (.tail _ (.head _)))))
        obtain ⟨q88, q89, q90, q91, q92, q93⟩ := HE.c3 (.head _)
        go_wp2_with fail
        refine (rdiv_f HE (by repeat (first | exact .head _ | assumption | refine .tail _ ?_)) (by repeat (first | exact .head _ | assumption | refine .tail _ ?_)) (by omega) HR.out.2.2).mono ?_
        clear HE
        rintro e wy ⟨su, sv, Au, Av, lu, cu, lv, cv, rfl, HE⟩
        replace HE := (HE.box2 (.bool su) (.slice Au lu cu)).box2 (.bool sv) (.slice Av lv cv)
        simp only [World.size_alloc] at HE
        clear q68 q69 q70 q71 q72 q73 q74 q75 q76 q77 q78 q79 q80 q81 q82 q83 q84 q85 q86 q87 q88 q89 q90 q91 q92 q93
        obtain ⟨q94, q95, q96, q97⟩ := HE.c2 (.tail _ (.head _))
        obtain ⟨q98, q99, q100, q101⟩ := HE.c2 (.tail _ (.tail _ (.tail _ (.head _))))
        obtain ⟨q102, q103, q104, q105, q106, q107⟩ := HE.c3 (.head _)
        have TF := (HE.tri3 (.head _)).put (.bool sx) (.slice Ax lx cx) (.slice Au lu cu)
        go_wp2_with fail
        obtain ⟨z0, z1, z2, -, -, -⟩ := TF.cells
        refine bodyPost_ret (v := .agg #[.bool sx, .slice Ax lx cx, .slice Au lu cu]) (by simp [results, Tryz.results73, go_sem, z0, z1, z2]) rfl ?_
        have HF := HE.form2 (v := .agg #[.bool sx, .slice Ax lx cx, .slice Au lu cu]) (s := sx) (A := Ax) (n := lx) (c := cx) (s' := su) (A' := Au) (n' := lu) (c' := cu) (by repeat (first | exact .head _ | assumption | refine .tail _ ?_)) (by repeat (first | exact .head _ | assumption | refine .tail _ ?_)) HX0.out HR.out.1 HR.out.2.1 rfl
        have HK := (HF.done3 (D := Ax) (m := lx) (d := cx) (.head _) sx (.slice Au lu cu)).bare
        exact ⟨_, _, _, _, _, _, _, rfl, (HK.pick (fun e he => .tail _ (.tail _ (.tail _ (.tail _ (.tail _ (.tail _ (.tail _ (he)))))))) (fun _ he => he)).hd (·.weak (by omega))⟩
end
end Go.Proofs.YtdecmhcojdnokaaGreatDoor
