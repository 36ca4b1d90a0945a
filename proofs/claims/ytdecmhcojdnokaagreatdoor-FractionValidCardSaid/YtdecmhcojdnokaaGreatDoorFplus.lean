/- Walk of fraction: plus. -/
import Derived.Test.YtdecmhcojdnokaaGreatDoorFshort
namespace Lw
open Go
theorem add_pw {q r : Rat} {k k' : Nat} (h1 : q.num.natAbs < pw k ∧ q.den < pw (k + 1)) (h2 : r.num.natAbs < pw k' ∧ r.den < pw (k' + 1)) : (q + r).num.natAbs < pw (k + k' + 2) ∧ (q + r).den < pw (k + k' + 2) := by
  have hb := add_bound q r
  have e1 := Nat.mul_lt_mul'' h1.1 h2.2
  have e2 := Nat.mul_lt_mul'' h2.1 h1.2
  have e3 := Nat.mul_lt_mul'' h1.2 h2.2
  rw [← pw_add] at e1 e2 e3
  rw [show k + (k' + 1) = k + k' + 1 by omega] at e1
  rw [show k' + (k + 1) = k + k' + 1 by omega] at e2
  rw [show k + 1 + (k' + 1) = k + k' + 2 by omega] at e3
  have e4 : pw (k + k' + 2) = pw (k + k' + 1) * 4294967296 := by unfold pw; rw [Nat.pow_succ]
  omega
theorem mul_pw {q r : Rat} {k k' : Nat} (h1 : q.num.natAbs < pw k ∧ q.den < pw (k + 1)) (h2 : r.num.natAbs < pw k' ∧ r.den < pw (k' + 1)) : (q * r).num.natAbs < pw (k + k' + 2) ∧ (q * r).den < pw (k + k' + 2) := by
  have hb := mul_bound q r
  have e1 := Nat.mul_lt_mul'' h1.1 h2.1
  have e3 := Nat.mul_lt_mul'' h1.2 h2.2
  rw [← pw_add] at e1 e3
  rw [show k + 1 + (k' + 1) = k + k' + 2 by omega] at e3
  have e4 : pw (k + k') ≤ pw (k + k' + 2) := pw_le (by omega)
  omega
theorem Fop.weak {w : World} {v : Value} {q : Rat} {k K : Nat} {b : Bool} (h : Fop w ⟨v, q, k, b⟩) (hk : k ≤ K) : Fop w ⟨v, q, K, b⟩ := by
  obtain ⟨s, A, n, c, A', n', c', ns, ms, e1, r1, r2, e2, e3, e4, e5, e6⟩ := h
  exact ⟨s, A, n, c, A', n', c', ns, ms, e1, r1, r2, e2, e3, Nat.le_trans e4 hk, Nat.le_trans e5 hk, e6⟩
end Lw
namespace Go.Proofs.YtdecmhcojdnokaaGreatDoor
open Go Go.RowKit Lw
section
variable {W0 w : World} {bs : List Bx} {L : List En} {ts : List Bt} {M : List Qn} {s s' : Bool} {A A' B B' : Option Addr} {n c n' c' m d m' d' k k' : Nat} {q r : Rat} {x y : Int}
theorem FEnv.tlq {e : Qn} (h : FEnv W0 w bs L ts (e :: M)) : FEnv W0 w bs L ts M := ⟨h.env, fun e' he => h.fr e' (.tail _ he), h.tri, h.tz, h.tab, h.lo, h.lot⟩
theorem FEnv.hd {v : Value} {q : Rat} {k K : Nat} {b : Bool} (h : FEnv W0 w bs L ts (⟨v, q, k, b⟩ :: M)) (hk : Fop w ⟨v, q, k, b⟩ → Fop w ⟨v, q, K, b⟩) : FEnv W0 w bs L ts (⟨v, q, K, b⟩ :: M) := h.tlq.cons (hk (h.fr _ (.head _)))
theorem ratio_f (HE : FEnv W0 w bs L ts M) (n1 : -9223372036854775808 ≤ x) (n2 : x ≤ 9223372036854775807) (d0 : 0 < y) (d2 : y ≤ 9223372036854775807) :
    Calls Tryz.prog 64 #[.int .i64 x, .int .i64 y] w (GotQ W0 bs L ts M (Rat.divInt x y) 2) := by
  refine (ratio_any x y w n1 n2 (by omega) d2 (by omega) (HE.tz.next HE.below)).mono fun e w' hh => ?_
  obtain ⟨A, c, A', c', rfl, hc, hc', hr, hr', hb⟩ := hh
  have hl := divInt_le (n := x) d0
  have hp : pw 2 = 18446744073709551616 := rfl
  exact ⟨_, _, _, _, _, _, _, rfl, (HE.next hb).cons (own_fop hr hr' (len_z (by omega)) (len_rd (by omega)) hc hc')⟩
set_option maxRecDepth 100000 in
set_option maxHeartbeats 4000000 in
theorem plus_f (HE : FEnv W0 w bs L ts M) (h : ⟨.agg #[.bool s, .slice A n c, .slice A' n' c'], q, k, true⟩ ∈ M) (h' : ⟨.agg #[.bool s', .slice B m d, .slice B' m' d'], r, k', true⟩ ∈ M) (hk : k + k' ≤ 8000) :
    Calls Tryz.prog 86 #[.agg #[.bool s, .slice A n c, .slice A' n' c'], .agg #[.bool s', .slice B m d, .slice B' m' d']] w (GotQ W0 bs L ts M (q + r) (k + k' + 2)) := by
  suffices hs : Calls Tryz.prog 86 #[.agg #[.bool s, .slice A n c, .slice A' n' c'], .agg #[.bool s', .slice B m d, .slice B' m' d']] w (GotQ w [] L [] M (q + r) (k + k' + 2)) from hs.mono fun _ _ hh => GotQ.of HE hh
  have H1 := ((HE.here.box3 (.bool s) (.slice A n c) (.slice A' n' c')).box3 (.bool s') (.slice B m d) (.slice B' m' d')).box3 (.bool false) (.slice none 0 0) (.slice none 0 0)
  simp only [World.size_alloc] at H1
  have HP := Lib.hid (add_pw (HE.fr _ h).lt (HE.fr _ h').lt)
  by_cases hb : (shQ q && shQ r) = true
  · have hb2 : shQ q = true ∧ shQ r = true := by simpa using hb
    obtain ⟨z1, z2⟩ := shQ_bound hb2.1
    obtain ⟨z3, z4⟩ := shQ_bound hb2.2
    have HB := Lib.hid hb
    have p1 := mul_w (a := q.num) (b := (r.den : Int)) z1 (by omega)
    have p2 := mul_w (a := r.num) (b := (q.den : Int)) z3 (by omega)
    have p3 := mul_w (a := (q.den : Int)) (b := (r.den : Int)) (by omega) (by omega)
    have p4 := Int.mul_pos (den_pos q) (den_pos r)
    have y1 : IntKind.i64.wrap (q.num * (r.den : Int)) = q.num * (r.den : Int) := w64 (by omega) (by omega)
    have y2 : IntKind.i64.wrap (r.num * (q.den : Int)) = r.num * (q.den : Int) := w64 (by omega) (by omega)
    have y3 : IntKind.i64.wrap (q.num * (r.den : Int) + r.num * (q.den : Int)) = q.num * (r.den : Int) + r.num * (q.den : Int) := w64 (by omega) (by omega)
    have y4 : IntKind.i64.wrap ((q.den : Int) * (r.den : Int)) = (q.den : Int) * (r.den : Int) := w64 (by omega) (by omega)
    have HS := Lib.hid (show (-9223372036854775808 ≤ q.num * (r.den : Int) + r.num * (q.den : Int) ∧ q.num * (r.den : Int) + r.num * (q.den : Int) ≤ 9223372036854775807) ∧ 0 < (q.den : Int) * (r.den : Int) ∧ (q.den : Int) * (r.den : Int) ≤ 9223372036854775807 from ⟨⟨by omega, by omega⟩, p4, by omega⟩)
    clear p1 p2 p3 p4
    clear hb hb2 z1 z2 z3 z4
    go_enter Tryz.func86, Tryz.ntmps86
    have HE := H1
    clear H1
    obtain ⟨q0, q1, q2, q3, q4, q5⟩ := HE.c3 (.head _)
    obtain ⟨q6, q7, q8, q9, q10, q11⟩ := HE.c3 (.tail _ (.head _))
    obtain ⟨q12, q13, q14, q15, q16, q17⟩ := HE.c3 (.tail _ (.tail _ (.head _)))
    go_wp2_with fail
    refine (shorts_f HE h h' (by omega)).mono ?_
    clear HE
    rw [HB.out, shV_t]
    rintro e w1 ⟨rfl, HE⟩
    clear q0 q1 q2 q3 q4 q5 q6 q7 q8 q9 q10 q11 q12 q13 q14 q15 q16 q17
    have TA := (Two.new w1 109 (.int .i64 q.num) (.int .i64 (q.den : Int))).alloc (.cells #[.int .i64 r.num, .int .i64 (r.den : Int)] 109)
    have TB := Two.new (w1.alloc (.cells #[.int .i64 q.num, .int .i64 (q.den : Int)] 109)) 109 (.int .i64 r.num) (.int .i64 (r.den : Int))
    replace HE := (HE.alloc (.cells #[.int .i64 q.num, .int .i64 (q.den : Int)] 109)).alloc (.cells #[.int .i64 r.num, .int .i64 (r.den : Int)] 109)
    simp only [World.size_alloc] at TA TB
    obtain ⟨u0, u1, u2, u3⟩ := TA.facts
    obtain ⟨v0, v1, v2, v3⟩ := TB.facts
    obtain ⟨q18, q19, q20, q21, q22, q23⟩ := HE.c3 (.head _)
    obtain ⟨q24, q25, q26, q27, q28, q29⟩ := HE.c3 (.tail _ (.head _))
    obtain ⟨q30, q31, q32, q33, q34, q35⟩ := HE.c3 (.tail _ (.tail _ (.head _)))
    go_wp2_with fail
    refine (ratio_f HE HS.out.1.1 HS.out.1.2 HS.out.2.1 HS.out.2.2).mono ?_
    rintro e w2 ⟨sx, Ax, nx, cx, Ay, ny, cy, rfl, HE⟩
    rw [← add_ratio] at HE
    clear u0 u1 u2 u3 v0 v1 v2 v3 TA TB
    clear q18 q19 q20 q21 q22 q23 q24 q25 q26 q27 q28 q29 q30 q31 q32 q33 q34 q35
    obtain ⟨q36, q37, q38, q39, q40, q41⟩ := HE.c3 (.head _)
    obtain ⟨q42, q43, q44, q45, q46, q47⟩ := HE.c3 (.tail _ (.head _))
    obtain ⟨q48, q49, q50, q51, q52, q53⟩ := HE.c3 (.tail _ (.tail _ (.head _)))
    go_wp2_with fail
    have HF := HE.done3 (D := Ax) (m := nx) (d := cx) (.head _) sx (.slice Ay ny cy)
    refine bodyPost_ret (v := .agg #[.bool sx, .slice Ax nx cx, .slice Ay ny cy]) (by simp [results, Tryz.results86, go_sem, q36, q37, q38]) rfl ?_
    exact ⟨_, _, _, _, _, _, _, rfl, HF.bare.hd (·.weak (by omega))⟩
  · have HB := Lib.hid (Bool.eq_false_iff.2 hb)
    obtain ⟨g, hg⟩ : ∃ g : Int, g = (Nat.gcd (q.den : Int).natAbs (r.den : Int).natAbs : Nat) := ⟨_, rfl⟩
    have HG := Lib.hid hg
    rw [Int.natAbs_natCast, Int.natAbs_natCast] at hg
    obtain ⟨S, hS⟩ : ∃ S : Int, S = q.num * ((r.den : Int) / g) + r.num * ((q.den : Int) / g) := ⟨_, rfl⟩
    have HS := Lib.hid hS
    obtain ⟨g1, hg1⟩ : ∃ g1 : Int, g1 = (Nat.gcd S.natAbs g.natAbs : Nat) := ⟨_, rfl⟩
    have HG1 := Lib.hid hg1
    have hl := add_long q r hg rfl rfl hS hg1
    have HL := Lib.hid (show (q + r).num = S / g1 ∧ ((q + r).den : Int) = (q.den : Int) / g * ((r.den : Int) / g1) ∧ 0 < g ∧ 0 < g1 from ⟨hl.1, hl.2.1, by omega, by omega⟩)
    clear hg hS hg1 hl
    clear hb
    go_enter Tryz.func86, Tryz.ntmps86
    have HE := H1
    clear H1
    obtain ⟨q0, q1, q2, q3, q4, q5⟩ := HE.c3 (.head _)
    obtain ⟨q6, q7, q8, q9, q10, q11⟩ := HE.c3 (.tail _ (.head _))
    obtain ⟨q12, q13, q14, q15, q16, q17⟩ := HE.c3 (.tail _ (.tail _ (.head _)))
    go_wp2_with fail
    refine (shorts_f HE h h' (by omega)).mono ?_
    clear HE
    rw [HB.out, shV_f]
    rintro e w1 ⟨rfl, HE⟩
    clear q0 q1 q2 q3 q4 q5 q6 q7 q8 q9 q10 q11 q12 q13 q14 q15 q16 q17
    have TA := (Two.new w1 109 (.int .i64 0) (.int .i64 0)).alloc (.cells #[.int .i64 0, .int .i64 0] 109)
    have TB := Two.new (w1.alloc (.cells #[.int .i64 0, .int .i64 0] 109)) 109 (.int .i64 0) (.int .i64 0)
    replace HE := (HE.alloc (.cells #[.int .i64 0, .int .i64 0] 109)).alloc (.cells #[.int .i64 0, .int .i64 0] 109)
    simp only [World.size_alloc] at TA TB
    clear TA TB
    obtain ⟨q18, q19, q20, q21, q22, q23⟩ := HE.c3 (.head _)
    obtain ⟨q24, q25, q26, q27, q28, q29⟩ := HE.c3 (.tail _ (.head _))
    obtain ⟨q30, q31, q32, q33, q34, q35⟩ := HE.c3 (.tail _ (.tail _ (.head _)))
    go_wp2_with fail
    refine (pair_f HE h).mono ?_
    clear HE
    rintro e w2 ⟨s1, D1, m1, d1, s2, D2, m2, d2, rfl, HE⟩
    have HLW := Lib.hid HE.below.size
    clear q18 q19 q20 q21 q22 q23 q24 q25 q26 q27 q28 q29 q30 q31 q32 q33 q34 q35
    replace HE := (HE.box2 (.bool s1) (.slice D1 m1 d1)).box2 (.bool s2) (.slice D2 m2 d2)
    simp only [World.size_alloc] at HE
    obtain ⟨q36, q37, q38, q39⟩ := HE.c2 (.head _)
    obtain ⟨q40, q41, q42, q43⟩ := HE.c2 (.tail _ (.head _))
    obtain ⟨q44, q45, q46, q47, q48, q49⟩ := HE.c3 (.head _)
    obtain ⟨q50, q51, q52, q53, q54, q55⟩ := HE.c3 (.tail _ (.head _))
    obtain ⟨q56, q57, q58, q59, q60, q61⟩ := HE.c3 (.tail _ (.tail _ (.head _)))
    go_wp2_with fail
    refine (pair_f HE h').mono ?_
    clear HE
    rintro e w3 ⟨s3, D3, m3, d3, s4, D4, m4, d4, rfl, HE⟩
    have HL3 := Lib.hid (HE.lt2 (.head _))
    clear q36 q37 q38 q39 q40 q41 q42 q43 q44 q45 q46 q47 q48 q49 q50 q51 q52 q53 q54 q55 q56 q57 q58 q59 q60 q61
    replace HE := (HE.box2 (.bool s3) (.slice D3 m3 d3)).box2 (.bool s4) (.slice D4 m4 d4)
    simp only [World.size_alloc] at HE
    obtain ⟨q62, q63, q64, q65⟩ := HE.c2 (.head _)
    obtain ⟨q66, q67, q68, q69⟩ := HE.c2 (.tail _ (.head _))
    obtain ⟨q70, q71, q72, q73⟩ := HE.c2 (.tail _ (.tail _ (.head _)))
    obtain ⟨q74, q75, q76, q77⟩ := HE.c2 (.tail _ (.tail _ (.tail _ (.head _))))
    obtain ⟨q78, q79, q80, q81, q82, q83⟩ := HE.c3 (.head _)
    obtain ⟨q84, q85, q86, q87, q88, q89⟩ := HE.c3 (.tail _ (.head _))
    obtain ⟨q90, q91, q92, q93, q94, q95⟩ := HE.c3 (.tail _ (.tail _ (.head _)))
    go_wp2_with fail
    refine (common_f HE (by repeat (first | exact .head _ | assumption | refine .tail _ ?_)) (by repeat (first | exact .head _ | assumption | refine .tail _ ?_)) (by omega)).mono ?_
    clear HE
    rintro e w4 ⟨s5, D5, m5, d5, rfl, HE⟩
    rw [← HG.out] at HE
    clear q62 q63 q64 q65 q66 q67 q68 q69 q70 q71 q72 q73 q74 q75 q76 q77 q78 q79 q80 q81 q82 q83 q84 q85 q86 q87 q88 q89 q90 q91 q92 q93 q94 q95
    have HL4 := Lib.hid (HE.lt2 (.head _))
    replace HE := HE.box2 (.bool s5) (.slice D5 m5 d5)
    obtain ⟨q96, q97, q98, q99⟩ := HE.c2 (.head _)
    obtain ⟨q100, q101, q102, q103⟩ := HE.c2 (.tail _ (.head _))
    obtain ⟨q104, q105, q106, q107⟩ := HE.c2 (.tail _ (.tail _ (.head _)))
    obtain ⟨q108, q109, q110, q111⟩ := HE.c2 (.tail _ (.tail _ (.tail _ (.head _))))
    obtain ⟨q112, q113, q114, q115⟩ := HE.c2 (.tail _ (.tail _ (.tail _ (.tail _ (.head _)))))
    obtain ⟨q116, q117, q118, q119, q120, q121⟩ := HE.c3 (.head _)
    obtain ⟨q122, q123, q124, q125, q126, q127⟩ := HE.c3 (.tail _ (.head _))
    obtain ⟨q128, q129, q130, q131, q132, q133⟩ := HE.c3 (.tail _ (.tail _ (.head _)))
    go_wp2_with fail
    refine (cancel_f HE (by repeat (first | exact .head _ | assumption | refine .tail _ ?_)) (by repeat (first | exact .head _ | assumption | refine .tail _ ?_)) (by omega) HL.out.2.2.1).mono ?_
    clear HE
    rintro e w5 ⟨s6, D6, m6, d6, rfl, HE⟩
    have HL7 := Lib.hid (HE.lt2 (.head _))
    clear q96 q97 q98 q99 q100 q101 q102 q103 q104 q105 q106 q107 q108 q109 q110 q111 q112 q113 q114 q115 q116 q117 q118 q119 q120 q121 q122 q123 q124 q125 q126 q127 q128 q129 q130 q131 q132 q133
    obtain ⟨q134, q135, q136, q137⟩ := HE.c2 (.head _)
    obtain ⟨q138, q139, q140, q141⟩ := HE.c2 (.tail _ (.head _))
    obtain ⟨q142, q143, q144, q145⟩ := HE.c2 (.tail _ (.tail _ (.head _)))
    obtain ⟨q146, q147, q148, q149⟩ := HE.c2 (.tail _ (.tail _ (.tail _ (.head _))))
    obtain ⟨q150, q151, q152, q153⟩ := HE.c2 (.tail _ (.tail _ (.tail _ (.tail _ (.head _)))))
    obtain ⟨q154, q155, q156, q157, q158, q159⟩ := HE.c3 (.head _)
    obtain ⟨q160, q161, q162, q163, q164, q165⟩ := HE.c3 (.tail _ (.head _))
    obtain ⟨q166, q167, q168, q169, q170, q171⟩ := HE.c3 (.tail _ (.tail _ (.head _)))
    have HE2 := HE.put2 (.tail _ (.tail _ (.tail _ (.head _)))) [⟨w4.heap.size, .bool s5, .slice D5 m5 d5⟩, ⟨w3.heap.size + 1, .bool s4, .slice D4 m4 d4⟩, ⟨w3.heap.size, .bool s3, .slice D3 m3 d3⟩, ⟨w2.heap.size, .bool s1, .slice D1 m1 d1⟩] (fun b hb => by simp only [List.mem_cons, List.not_mem_nil, or_false] at hb; rcases hb with rfl | rfl | rfl | rfl <;> exact ⟨(by repeat (first | exact .head _ | assumption | refine .tail _ ?_)), by dsimp only; have := HL3.out; have := HL4.out; omega⟩) s6 (.slice D6 m6 d6)
    go_wp2_with fail
    clear q134 q135 q136 q137 q138 q139 q140 q141 q142 q143 q144 q145 q146 q147 q148 q149 q150 q151 q152 q153 q154 q155 q156 q157 q158 q159 q160 q161 q162 q163 q164 q165 q166 q167 q168 q169 q170 q171
    replace HE := HE2
    clear HE2
    have hsz : ((w5.setCell ⟨w2.heap.size + 1, 0, none⟩ (.bool s6)).setCell ⟨w2.heap.size + 1, 1, none⟩ (.slice D6 m6 d6)).heap.size = w5.heap.size := by simp
    have HSZ := Lib.hid hsz
    clear hsz
    generalize (w5.setCell ⟨w2.heap.size + 1, 0, none⟩ (.bool s6)).setCell ⟨w2.heap.size + 1, 1, none⟩ (.slice D6 m6 d6) = W5 at *
    have hS : ∀ v, Below W5.heap.size W5 v → (fun w' => w'.cell? ⟨w2.heap.size, 0, none⟩ = some (.bool s1) ∧ w'.cell? ⟨w2.heap.size, 1, none⟩ = some (.slice D1 m1 d1) ∧ w'.cell? ⟨w3.heap.size, 0, none⟩ = some (.bool s3) ∧ w'.cell? ⟨w3.heap.size, 1, none⟩ = some (.slice D3 m3 d3) ∧ w'.cell? ⟨w3.heap.size + 1, 0, none⟩ = some (.bool s4) ∧ w'.cell? ⟨w3.heap.size + 1, 1, none⟩ = some (.slice D4 m4 d4) ∧ w'.cell? ⟨w4.heap.size, 0, none⟩ = some (.bool s5) ∧ w'.cell? ⟨w4.heap.size, 1, none⟩ = some (.slice D5 m5 d5) ∧ w'.cell? ⟨w2.heap.size + 1, 0, none⟩ = some (.bool s6) ∧ w'.cell? ⟨w2.heap.size + 1, 1, none⟩ = some (.slice D6 m6 d6)) v := fun v hv => FEnv.c5 (HE.next hv)
    have HR := HE.here
    go_cut [13] (fun sl wx => ∃ (gm : Nat) (sx : Bool) (Ax : Option Addr) (nx cx : Nat), sl = .pointer (some ⟨gm, 0, none⟩) ∧ FEnv W5 wx [⟨gm, .bool sx, .slice Ax nx cx⟩] (⟨.agg #[.bool sx, .slice Ax nx cx], S, (2 * (k + k') + 14), true⟩ :: ⟨.agg #[.bool s6, .slice D6 m6 d6], (q.den : Int) / g, k + 2 + 1, true⟩ :: ⟨.agg #[.bool s5, .slice D5 m5 d5], g, k + 2 + (k' + 2) + 2, true⟩ :: ⟨.agg #[.bool s3, .slice D3 m3 d3], r.num, k' + 2, true⟩ :: ⟨.agg #[.bool s4, .slice D4 m4 d4], (r.den : Int), k' + 2, true⟩ :: ⟨.agg #[.bool s1, .slice D1 m1 d1], q.num, k + 2, true⟩ :: ⟨.agg #[.bool s2, .slice D2 m2 d2], (q.den : Int), k + 2, true⟩ :: L) [] M)
    case first =>
      go_region_held3 (fun w' => w'.cell? ⟨w2.heap.size, 0, none⟩ = some (.bool s1) ∧ w'.cell? ⟨w2.heap.size, 1, none⟩ = some (.slice D1 m1 d1) ∧ w'.cell? ⟨w3.heap.size, 0, none⟩ = some (.bool s3) ∧ w'.cell? ⟨w3.heap.size, 1, none⟩ = some (.slice D3 m3 d3) ∧ w'.cell? ⟨w3.heap.size + 1, 0, none⟩ = some (.bool s4) ∧ w'.cell? ⟨w3.heap.size + 1, 1, none⟩ = some (.slice D4 m4 d4) ∧ w'.cell? ⟨w4.heap.size, 0, none⟩ = some (.bool s5) ∧ w'.cell? ⟨w4.heap.size, 1, none⟩ = some (.slice D5 m5 d5) ∧ w'.cell? ⟨w2.heap.size + 1, 0, none⟩ = some (.bool s6) ∧ w'.cell? ⟨w2.heap.size + 1, 1, none⟩ = some (.slice D6 m6 d6)) (first | exact hS _ HR.below | exact hS _ HR.drew.below | exact hS _ (FEnv.box2 HR (.bool false) (.slice none 0 0)).below | exact hS _ (FEnv.box2 HR.drew (.bool false) (.slice none 0 0)).below | exact hS _ (FEnv.box2 HR (.bool false) (.slice none 0 0)).drew.below | exact hS _ HK.below)
        (first
          | (go_at_call 126; refine (cancel_f (by with_reducible first | exact HR | exact HR.drew | exact FEnv.box2 HR (.bool false) (.slice none 0 0) | exact FEnv.box2 HR.drew (.bool false) (.slice none 0 0) | exact (FEnv.box2 HR (.bool false) (.slice none 0 0)).drew) (by repeat (first | exact .head _ | assumption | refine .tail _ ?_)) (by repeat (first | exact .head _ | assumption | refine .tail _ ?_)) (by omega) HL.out.2.2.1).mono ?_; rintro e wn ⟨sx, Ax, nx, cx, rfl, HR⟩)
          | (go_at_call 93; refine (imul_f (by with_reducible first | exact HR | exact HR.drew | exact FEnv.box2 HR (.bool false) (.slice none 0 0) | exact FEnv.box2 HR.drew (.bool false) (.slice none 0 0) | exact (FEnv.box2 HR (.bool false) (.slice none 0 0)).drew) (by repeat (first | exact .head _ | assumption | refine .tail _ ?_)) (by repeat (first | exact .head _ | assumption | refine .tail _ ?_)) (by omega)).mono ?_; rintro e wn ⟨sx, Ax, nx, cx, rfl, HR⟩)
          | (go_at_call 128; refine (iadd_f (by with_reducible first | exact HR | exact HR.drew | exact FEnv.box2 HR (.bool false) (.slice none 0 0) | exact FEnv.box2 HR.drew (.bool false) (.slice none 0 0) | exact (FEnv.box2 HR (.bool false) (.slice none 0 0)).drew) (by repeat (first | exact .head _ | assumption | refine .tail _ ?_)) (by repeat (first | exact .head _ | assumption | refine .tail _ ?_)) (by omega)).mono ?_; rintro e w6 ⟨sx, Ax, nx, cx, rfl, HR⟩; rw [← HS.out] at HR; first | (have HK := HR.put2 (.head _) [] (fun _ hb => by simp at hb) sx (.slice Ax nx cx); obtain ⟨z0, z1, z2, z3⟩ := HR.c2 (.head _)) | (have HK := HR.box2 (.bool sx) (.slice Ax nx cx))))
      all_goals
        go_wp2_with fail
        go_meet
        exact ⟨_, sx, Ax, nx, cx, rfl, (HK.hdi (K := (2 * (k + k') + 14)) (·.weak (by omega))).pick (fun _ he => by rcases List.mem_cons.1 he with rfl | he; exact .head _; exact .tail _ (.tail _ (.tail _ (.tail _ (he))))) (fun _ he => he)⟩
    case rest =>
      clear HR hS
      obtain ⟨gm, sx, Ax, nx, cx, rfl, HR⟩ := hcut
      have HL6 := Lib.hid (HR.lo _ (.head _))
      replace HE := HE.join HR
      clear HR
      simp only [List.cons_append, List.nil_append] at HE
      obtain ⟨q172, q173, q174, q175⟩ := HE.c2 (.head _)
      obtain ⟨q176, q177, q178, q179⟩ := HE.c2 (.tail _ (.head _))
      obtain ⟨q180, q181, q182, q183⟩ := HE.c2 (.tail _ (.tail _ (.head _)))
      obtain ⟨q184, q185, q186, q187⟩ := HE.c2 (.tail _ (.tail _ (.tail _ (.head _))))
      obtain ⟨q188, q189, q190, q191⟩ := HE.c2 (.tail _ (.tail _ (.tail _ (.tail _ (.head _)))))
      obtain ⟨q192, q193, q194, q195⟩ := HE.c2 (.tail _ (.tail _ (.tail _ (.tail _ (.tail _ (.head _))))))
      obtain ⟨q196, q197, q198, q199, q200, q201⟩ := HE.c3 (.head _)
      obtain ⟨q202, q203, q204, q205, q206, q207⟩ := HE.c3 (.tail _ (.head _))
      obtain ⟨q208, q209, q210, q211, q212, q213⟩ := HE.c3 (.tail _ (.tail _ (.head _)))
      go_wp2_with fail
      refine (common_f HE (by repeat (first | exact .head _ | assumption | refine .tail _ ?_)) (by repeat (first | exact .head _ | assumption | refine .tail _ ?_)) (by omega)).mono ?_
      clear HE
      rintro e w7 ⟨s7, D7, m7, d7, rfl, HE⟩
      rw [← HG1.out] at HE
      clear q172 q173 q174 q175 q176 q177 q178 q179 q180 q181 q182 q183 q184 q185 q186 q187 q188 q189 q190 q191 q192 q193 q194 q195 q196 q197 q198 q199 q200 q201 q202 q203 q204 q205 q206 q207 q208 q209 q210 q211 q212 q213
      obtain ⟨q214, q215, q216, q217⟩ := HE.c2 (.head _)
      obtain ⟨q218, q219, q220, q221⟩ := HE.c2 (.tail _ (.head _))
      obtain ⟨q222, q223, q224, q225⟩ := HE.c2 (.tail _ (.tail _ (.head _)))
      obtain ⟨q226, q227, q228, q229⟩ := HE.c2 (.tail _ (.tail _ (.tail _ (.head _))))
      obtain ⟨q230, q231, q232, q233⟩ := HE.c2 (.tail _ (.tail _ (.tail _ (.tail _ (.head _)))))
      obtain ⟨q234, q235, q236, q237⟩ := HE.c2 (.tail _ (.tail _ (.tail _ (.tail _ (.tail _ (.head _))))))
      obtain ⟨q238, q239, q240, q241, q242, q243⟩ := HE.c3 (.head _)
      obtain ⟨q244, q245, q246, q247, q248, q249⟩ := HE.c3 (.tail _ (.head _))
      obtain ⟨q250, q251, q252, q253, q254, q255⟩ := HE.c3 (.tail _ (.tail _ (.head _)))
      have HE2 := HE.put2 (.tail _ (.tail _ (.head _))) [⟨gm, .bool sx, .slice Ax nx cx⟩, ⟨w2.heap.size + 1, .bool s6, .slice D6 m6 d6⟩, ⟨w3.heap.size + 1, .bool s4, .slice D4 m4 d4⟩, ⟨w3.heap.size, .bool s3, .slice D3 m3 d3⟩, ⟨w2.heap.size, .bool s1, .slice D1 m1 d1⟩] (fun b hb => by simp only [List.mem_cons, List.not_mem_nil, or_false] at hb; rcases hb with rfl | rfl | rfl | rfl | rfl <;> exact ⟨(by repeat (first | exact .head _ | assumption | refine .tail _ ?_)), by have h1 := HL3.out; have h2 := HL4.out; have h3 := HL6.out; have h4 := HSZ.out; have h5 := HL7.out; dsimp only at h3 ⊢; omega⟩) s7 (.slice D7 m7 d7)
      go_wp2_with fail
      clear q214 q215 q216 q217 q218 q219 q220 q221 q222 q223 q224 q225 q226 q227 q228 q229 q230 q231 q232 q233 q234 q235 q236 q237 q238 q239 q240 q241 q242 q243 q244 q245 q246 q247 q248 q249 q250 q251 q252 q253 q254 q255
      replace HE := HE2
      clear HE2
      go_region_held3 (fun w' => w'.cell? ⟨w2.heap.size, 0, none⟩ = some (.bool s1) ∧ w'.cell? ⟨w2.heap.size, 1, none⟩ = some (.slice D1 m1 d1) ∧ w'.cell? ⟨w3.heap.size, 0, none⟩ = some (.bool s3) ∧ w'.cell? ⟨w3.heap.size, 1, none⟩ = some (.slice D3 m3 d3) ∧ w'.cell? ⟨w3.heap.size + 1, 0, none⟩ = some (.bool s4) ∧ w'.cell? ⟨w3.heap.size + 1, 1, none⟩ = some (.slice D4 m4 d4) ∧ w'.cell? ⟨w2.heap.size + 1, 0, none⟩ = some (.bool s6) ∧ w'.cell? ⟨w2.heap.size + 1, 1, none⟩ = some (.slice D6 m6 d6) ∧ w'.cell? ⟨gm, 0, none⟩ = some (.bool sx) ∧ w'.cell? ⟨gm, 1, none⟩ = some (.slice Ax nx cx) ∧ w'.cell? ⟨w4.heap.size, 0, none⟩ = some (.bool s7) ∧ w'.cell? ⟨w4.heap.size, 1, none⟩ = some (.slice D7 m7 d7)) (with_reducible first | exact FEnv.c6 HE | exact FEnv.c6 HE.drew | exact FEnv.c6 HK)
        (first
          | (go_at_call 126; refine (cancel_f (by with_reducible first | exact HE | exact HE.drew) (by repeat (first | exact .head _ | assumption | refine .tail _ ?_)) (by repeat (first | exact .head _ | assumption | refine .tail _ ?_)) (by omega) HL.out.2.2.2).mono ?_; rintro e wn ⟨sx, Ax, nx, cx, rfl, HE⟩)
          | (go_at_call 93; refine (imul_f (by with_reducible first | exact HE | exact HE.drew) (by repeat (first | exact .head _ | assumption | refine .tail _ ?_)) (by repeat (first | exact .head _ | assumption | refine .tail _ ?_)) (by omega)).mono ?_; rintro e wn ⟨sx, Ax, nx, cx, rfl, HE⟩)
          | (go_at_call 89; refine (lowest_f (by with_reducible first | exact HE | exact HE.drew) (by repeat (first | exact .head _ | assumption | refine .tail _ ?_)) (by repeat (first | exact .head _ | assumption | refine .tail _ ?_)) HL.out.1 HL.out.2.1).mono ?_; rintro e w8 ⟨sx, Ax, nx, cx, Ay, ny, cy, rfl, HE⟩; have HK := HE.done3 (D := Ax) (m := nx) (d := cx) (.head _) sx (.slice Ay ny cy); obtain ⟨z0, z1, z2, z3, z4, z5⟩ := HE.c3 (.head _)))
      go_wp2_with fail
      refine bodyPost_ret (v := .agg #[.bool sx, .slice Ax nx cx, .slice Ay ny cy]) (by simp [results, Tryz.results86, go_sem, z0, z1, z2]) rfl ?_
      have HF := HK.bare.hd (fun hh => Fop.tight hh HP.out.1 HP.out.2)
      exact ⟨_, _, _, _, _, _, _, rfl, HF.pick (fun _ he => .tail _ (.tail _ (.tail _ (.tail _ (.tail _ (.tail _ (.tail _ (.tail _ (.tail _ (.tail _ (.tail _ (he)))))))))))) (fun _ he => he)⟩
end
end Go.Proofs.YtdecmhcojdnokaaGreatDoor
