/- The reference of fractions: Floor, Bits. -/
import Derived.Test.YtbihljnjaondcaaGreatDoorFrefv
import Derived.Deep.LoopGhost
namespace Go.Proofs.YtbihljnjaondcaaGreatDoor
open Go Go.RowKit Lw
section
variable {W0 w : World} {bs : List Bx} {L : List En} {ts : List Bt} {M : List Qn} {s s' : Bool} {A A' B B' : Option Addr} {n c n' c' m d m' d' k k' : Nat} {q r : Rat} {x y : Int} {b b' : Bool}
set_option maxRecDepth 100000 in
set_option maxHeartbeats 2400000 in
theorem rffloor_f (HE : FEnv W0 w bs L ts M) (h : ⟨.agg #[.bool s, .slice A n c, .slice A' n' c'], q, k, b⟩ ∈ M) (hk : k ≤ 2000) :
    Calls Tryz.prog 24 #[.agg #[.bool s, .slice A n c, .slice A' n' c']] w (GotI W0 bs L ts M q.floor (k + 3)) := by
  refine Calls.mono (R := (GotI w [] L [] M q.floor (k + 3))) ?_ fun _ _ hh => GotI.of HE hh
  replace HE := (HE.here.box3 (.bool s) (.slice A n c) (.slice A' n' c')).box2 (.bool false) (.slice none 0 0)
  simp only [World.size_alloc] at HE
  have HF := Lib.hid (floor_eq q)
  have HD := Lib.hid (den_ne q)
  obtain ⟨q0, q1, q2, q3⟩ := HE.c2 (.head _)
  obtain ⟨q4, q5, q6, q7, q8, q9⟩ := HE.c3 (.head _)
  go_enter Tryz.func24, Tryz.ntmps24
  go_wp2_with fail
  refine (rparts_f HE h (by omega)).mono ?_
  clear HE
  rintro e w1 ⟨s1, D1, m1, d1, s2, D2, m2, d2, rfl, HE⟩
  replace HE := (HE.box2 (.bool s1) (.slice D1 m1 d1)).box2 (.bool s2) (.slice D2 m2 d2)
  simp only [World.size_alloc] at HE
  clear q0 q1 q2 q3 q4 q5 q6 q7 q8 q9
  obtain ⟨q10, q11, q12, q13⟩ := HE.c2 (.head _)
  obtain ⟨q14, q15, q16, q17⟩ := HE.c2 (.tail _ (.head _))
  obtain ⟨q18, q19, q20, q21⟩ := HE.c2 (.tail _ (.tail _ (.head _)))
  obtain ⟨q22, q23, q24, q25, q26, q27⟩ := HE.c3 (.head _)
  go_wp2_with fail
  refine (rdiv_f HE (.head _) (.tail _ (.head _)) (by omega) HD.out).mono ?_
  rw [HF.out]
  clear HE
  rintro e wx ⟨sx, sy, Ax, Ay, lx, cx, ly, cy, rfl, HE⟩
  replace HE := (HE.box2 (.bool sx) (.slice Ax lx cx)).box2 (.bool sy) (.slice Ay ly cy)
  simp only [World.size_alloc] at HE
  clear q10 q11 q12 q13 q14 q15 q16 q17 q18 q19 q20 q21 q22 q23 q24 q25 q26 q27
  obtain ⟨q28, q29, q30, q31⟩ := HE.c2 (.tail _ (.head _))
  obtain ⟨q32, q33, q34, q35⟩ := HE.c2 (.tail _ (.tail _ (.tail _ (.tail _ (.head _)))))
  go_wp2_with fail
  refine bodyPost_ret (v := .agg #[.bool sx, .slice Ax lx cx]) (by simp [results, Tryz.results24, go_sem, q32, q33]) rfl ?_
  have HK := HE.done2 (.tail _ (.tail _ (.tail _ (.tail _ (.head _))))) sx (.slice Ax lx cx)
  exact ⟨_, _, _, _, rfl, HK.pick (fun e he => by rcases List.mem_cons.1 he with rfl | he; exact .head _; exact .tail _ (.tail _ (.tail _ (.tail _ (he))))) (fun _ he => he)⟩
/-- The number of bits of a fraction. -/
def bitsQ (q : Rat) : Int := ((nbits (mg q.num) + nbits (mg (q.den : Int)) : Nat) : Int)
theorem rbits_f {v : Value} (HE : FEnv W0 w bs L ts M) (h : ⟨v, x, k, b⟩ ∈ L) (hk : k ≤ 100000) :
    Calls Tryz.prog 106 #[v] w fun e w' => e = .returned (.int .i64 (nbits (mg x))) ∧ FEnv W0 w' bs L ts M := by
  obtain ⟨s, A, n, c, ns, B, e1, h2, h3, h4, h5, h6, e7, h8⟩ := HE.env.ops _ h
  dsimp only at e1 e7 h5
  subst e1 e7
  exact (refBits_any s A ns n c B w h2 h3 h4 (by omega) h6).mono fun e w' hh => ⟨hh.1, HE.next hh.2⟩
theorem bits_wrap {v v' : Value} {y : Int} (HE : FEnv W0 w bs L ts M) (h : ⟨v, x, k, true⟩ ∈ L) (h' : ⟨v', y, k', true⟩ ∈ L) (hk : k + k' ≤ 100000) :
    IntKind.i64.wrap ((nbits (mg x) : Int) + (nbits (mg y) : Int)) = ((nbits (mg x) + nbits (mg y) : Nat) : Int) := by
  have l1 := nbits_top (wds_digs x.natAbs)
  have l2 := nbits_top (wds_digs y.natAbs)
  have m1 : (mg x).length ≤ k := len_z (HE.env.ops _ h).lt
  have m2 : (mg y).length ≤ k' := len_z (HE.env.ops _ h').lt
  unfold mg at *
  rw [IntKind.wrap_i64]
  omega
set_option maxRecDepth 100000 in
set_option maxHeartbeats 2400000 in
theorem rfbits_f (HE : FEnv W0 w bs L ts M) (h : ⟨.agg #[.bool s, .slice A n c, .slice A' n' c'], q, k, b⟩ ∈ M) (hk : k ≤ 2000) :
    Calls Tryz.prog 26 #[.agg #[.bool s, .slice A n c, .slice A' n' c']] w fun e w' => e = .returned (.int .i64 (bitsQ q)) ∧ FEnv W0 w' bs L ts M := by
  refine Calls.mono (R := fun e w' => e = .returned (.int .i64 (bitsQ q)) ∧ FEnv w w' [] L [] M) ?_ fun _ _ hh => ⟨hh.1, HE.back hh.2⟩
  replace HE := HE.here.box3 (.bool s) (.slice A n c) (.slice A' n' c')
  obtain ⟨q0, q1, q2, q3, q4, q5⟩ := HE.c3 (.head _)
  go_enter Tryz.func26, Tryz.ntmps26
  go_wp2_with fail
  refine (rparts_f HE h (by omega)).mono ?_
  clear HE
  rintro e w1 ⟨s1, D1, m1, d1, s2, D2, m2, d2, rfl, HE⟩
  replace HE := (HE.box2 (.bool s1) (.slice D1 m1 d1)).box2 (.bool s2) (.slice D2 m2 d2)
  simp only [World.size_alloc] at HE
  clear q0 q1 q2 q3 q4 q5
  obtain ⟨q6, q7, q8, q9⟩ := HE.c2 (.head _)
  obtain ⟨q10, q11, q12, q13⟩ := HE.c2 (.tail _ (.head _))
  obtain ⟨q14, q15, q16, q17, q18, q19⟩ := HE.c3 (.head _)
  have hw := bits_wrap HE (.head _) (.tail _ (.head _)) (by omega)
  go_wp2_with fail
  have HW := Lib.hid hw
  clear q6 q7 q8 q9 q10 q11 q12 q13 q14 q15 q16 q17 q18 q19
  go_region_held3 (fun w' => w'.cell? ⟨w1.heap.size, 0, none⟩ = some (.bool s1) ∧ w'.cell? ⟨w1.heap.size, 1, none⟩ = some (.slice D1 m1 d1) ∧ w'.cell? ⟨w1.heap.size + 1, 0, none⟩ = some (.bool s2) ∧ w'.cell? ⟨w1.heap.size + 1, 1, none⟩ = some (.slice D2 m2 d2)) (first | exact ⟨(HE.c2 (.tail _ (.head _))).1, (HE.c2 (.tail _ (.head _))).2.1, (HE.c2 (.head _)).1, (HE.c2 (.head _)).2.1⟩ | exact ⟨(HE.drew.c2 (.tail _ (.head _))).1, (HE.drew.c2 (.tail _ (.head _))).2.1, (HE.drew.c2 (.head _)).1, (HE.drew.c2 (.head _)).2.1⟩)
    (first
      | (go_at_call 106; refine (rbits_f (by with_reducible first | exact HE | exact HE.drew) (by repeat (first | exact .head _ | assumption | refine .tail _ ?_)) (by omega)).mono ?_; rintro e wn ⟨rfl, HE⟩))
  go_wp2_with fail
  go_ret
  exact ⟨rfl, HE.bare.pick (fun e he => .tail _ (.tail _ he)) (fun _ he => he)⟩
set_option maxRecDepth 100000 in
set_option maxHeartbeats 2400000 in
theorem fbits_f (HE : FEnv W0 w bs L ts M) (h : ⟨.agg #[.bool s, .slice A n c, .slice A' n' c'], q, k, b⟩ ∈ M) (hk : k ≤ 2000) :
    Calls Tryz.prog 25 #[.agg #[.bool s, .slice A n c, .slice A' n' c']] w fun e w' => e = .returned (.int .i64 (bitsQ q)) ∧ FEnv W0 w' bs L ts M := by
  refine Calls.mono (R := fun e w' => e = .returned (.int .i64 (bitsQ q)) ∧ FEnv w w' [] L [] M) ?_ fun _ _ hh => ⟨hh.1, HE.back hh.2⟩
  replace HE := HE.here.box3 (.bool s) (.slice A n c) (.slice A' n' c')
  obtain ⟨q0, q1, q2, q3, q4, q5⟩ := HE.c3 (.head _)
  go_enter Tryz.func25, Tryz.ntmps25
  go_wp2_with fail
  refine (known_f HE h (by omega)).mono ?_
  clear HE
  rintro e w0 ⟨sk, Ak, nk, ck, Bk, mk, dk, rfl, HE⟩
  clear q0 q1 q2 q3 q4 q5
  go_wp2_with fail
  refine (pair_f HE (.head _)).mono ?_
  clear HE
  rintro e w1 ⟨s1, D1, m1, d1, s2, D2, m2, d2, rfl, HE⟩
  replace HE := (HE.box2 (.bool s1) (.slice D1 m1 d1)).box2 (.bool s2) (.slice D2 m2 d2)
  simp only [World.size_alloc] at HE
  obtain ⟨q6, q7, q8, q9⟩ := HE.c2 (.head _)
  obtain ⟨q10, q11, q12, q13⟩ := HE.c2 (.tail _ (.head _))
  obtain ⟨q14, q15, q16, q17, q18, q19⟩ := HE.c3 (.head _)
  have hw := bits_wrap HE (.head _) (.tail _ (.head _)) (by omega)
  go_wp2_with fail
  have HW := Lib.hid hw
  clear q6 q7 q8 q9 q10 q11 q12 q13 q14 q15 q16 q17 q18 q19
  go_region_held3 (fun w' => w'.cell? ⟨w1.heap.size, 0, none⟩ = some (.bool s1) ∧ w'.cell? ⟨w1.heap.size, 1, none⟩ = some (.slice D1 m1 d1) ∧ w'.cell? ⟨w1.heap.size + 1, 0, none⟩ = some (.bool s2) ∧ w'.cell? ⟨w1.heap.size + 1, 1, none⟩ = some (.slice D2 m2 d2)) (first | exact ⟨(HE.c2 (.tail _ (.head _))).1, (HE.c2 (.tail _ (.head _))).2.1, (HE.c2 (.head _)).1, (HE.c2 (.head _)).2.1⟩ | exact ⟨(HE.drew.c2 (.tail _ (.head _))).1, (HE.drew.c2 (.tail _ (.head _))).2.1, (HE.drew.c2 (.head _)).1, (HE.drew.c2 (.head _)).2.1⟩)
    (first
      | (go_at_call 105; refine (ibits_f (by with_reducible first | exact HE | exact HE.drew) (by repeat (first | exact .head _ | assumption | refine .tail _ ?_)) (by omega)).mono ?_; rintro e wn ⟨rfl, HE⟩))
  go_wp2_with fail
  go_ret
  exact ⟨rfl, HE.bare.pick (fun e he => .tail _ (.tail _ he)) (fun _ he => .tail _ he)⟩
end
end Go.Proofs.YtbihljnjaondcaaGreatDoor
/-! The reference of fractions: root of an integer, Root. -/
namespace Go.Proofs.YtbihljnjaondcaaGreatDoor
open Go Go.RowKit Lw
section
variable {W0 w : World} {bs : List Bx} {L : List En} {ts : List Bt} {M : List Qn} {s s' : Bool} {A A' B B' : Option Addr} {n c n' c' m d m' d' k k' : Nat} {q r : Rat} {x y : Int} {b b' : Bool}
theorem cmpI_dec (x y : Int) : (cmpI x y == 0) = decide (x = y) := by
  unfold cmpI
  by_cases h : x = y
  · subst h; simp
  · rw [decide_eq_false h]
    split
    · rfl
    · first | rfl | (split <;> first | rfl | omega)
theorem rroot_f {v : Value} (HE : FEnv W0 w bs L ts M) (h : ⟨v, x, k, b⟩ ∈ L) (hk : k ≤ 10000) (hx : 0 ≤ x) :
    Calls Tryz.prog 144 #[v] w fun e w' => ∃ (s : Bool) (D : Option Addr) (m d : Nat), e = .returned (.tuple #[.agg #[.bool s, .slice D m d], .int .i64 0]) ∧ FEnv W0 w' bs (⟨.agg #[.bool s, .slice D m d], ((rt x.natAbs : Nat) : Int), k, true⟩ :: L) ts M := by
  have H1 := HE.env.ops _ h
  have hz := lt_rt H1.lt
  obtain ⟨s, A, n, c, ns, B, e1, h2, h3, h4, h5, h6, e7, h8⟩ := H1
  dsimp only at e1 e7 h5 hz
  subst e1 e7
  refine (refroot_any s A ns n c B w h2 h3 h4 (by omega) h6 (by unfold sg; simpa using hx)).mono ?_
  rintro e w' ⟨A9, c9, rfl, hc9, hr9, hb⟩
  exact ⟨_, A9, _, c9, rfl, (HE.next hb).push (own_opd hr9 hc9 hz)⟩
theorem rrootneg_f {v : Value} (HE : FEnv W0 w bs L ts M) (h : ⟨v, x, k, b⟩ ∈ L) (hk : k ≤ 10000) (hx : x < 0) :
    Calls Tryz.prog 144 #[v] w fun e w' => ∃ (s : Bool) (D : Option Addr) (m d : Nat), e = .returned (.tuple #[.agg #[.bool s, .slice D m d], .int .i64 3]) ∧ FEnv W0 w' bs (⟨.agg #[.bool s, .slice D m d], 0, k, true⟩ :: L) ts M := by
  obtain ⟨s, A, n, c, ns, B, e1, h2, h3, h4, h5, h6, e7, h8⟩ := HE.env.ops _ h
  dsimp only at e1 e7 h5
  subst e1 e7
  refine (refrootneg_any s A ns n c B w h2 h3 h4 (by omega) (by unfold sg; simpa using hx)).mono ?_
  rintro e w' ⟨A9, c9, rfl, hc9, hr9, hb⟩
  exact ⟨_, A9, _, c9, rfl, (HE.next hb).push (own_opd hr9 hc9 (pw_pos k))⟩
set_option maxRecDepth 100000 in
set_option maxHeartbeats 3200000 in
theorem rootneg_f (HE : FEnv W0 w bs L ts M) (h : ⟨.agg #[.bool s, .slice A n c], x, k, b⟩ ∈ L) (hk : k ≤ 4000) (hx : x < 0) :
    Calls Tryz.prog 102 #[.agg #[.bool s, .slice A n c]] w (fun e w' => ∃ (s : Bool) (A : Option Addr) (n c : Nat), e = .returned (.tuple #[.agg #[.bool s, .slice A n c], .bool (false)]) ∧ FEnv W0 w' bs (⟨.agg #[.bool s, .slice A n c], 0, k, true⟩ :: L) ts M) := by
  refine Calls.mono (R := (fun e w' => ∃ (s : Bool) (A : Option Addr) (n c : Nat), e = .returned (.tuple #[.agg #[.bool s, .slice A n c], .bool (false)]) ∧ FEnv w w' [] (⟨.agg #[.bool s, .slice A n c], 0, k, true⟩ :: L) [] M)) ?_ fun _ _ hh => by obtain ⟨s, A, n, c, e1, he⟩ := hh; exact ⟨s, A, n, c, e1, HE.back he⟩
  replace HE := (HE.here.box2 (.bool s) (.slice A n c)).box2 (.bool false) (.slice none 0 0)
  simp only [World.size_alloc] at HE
  obtain ⟨q0, q1, q2, q3⟩ := HE.c2 (.head _)
  obtain ⟨q4, q5, q6, q7⟩ := HE.c2 (.tail _ (.head _))
  go_enter Tryz.func102, Tryz.ntmps102
  go_wp2_with fail
  refine (rrootneg_f HE h (by omega) hx).mono ?_
  clear HE hx
  rintro e w1 ⟨s1, D1, m1, d1, rfl, HE⟩
  have hz1 := HE.lt2 (.head _)
  obtain ⟨x0, x1, x2, x3⟩ := HE.c2 (.head _)
  have HP := HE.put2 (.head _) [⟨w.heap.size, .bool s, .slice A n c⟩] (fun b hb => by simp only [List.mem_cons, List.not_mem_nil, or_false] at hb; subst hb; exact ⟨(by repeat (first | exact .head _ | refine .tail _ ?_)), by dsimp only; omega⟩) s1 (.slice D1 m1 d1)
  replace HE := HE.box2 (.bool s1) (.slice D1 m1 d1)
  clear q0 q1 q2 q3 q4 q5 q6 q7
  obtain ⟨q8, q9, q10, q11⟩ := HE.c2 (.head _)
  obtain ⟨q12, q13, q14, q15⟩ := HE.c2 (.tail _ (.head _))
  obtain ⟨q16, q17, q18, q19⟩ := HE.c2 (.tail _ (.tail _ (.head _)))
  go_wp2_with fail
  clear q8 q9 q10 q11 q12 q13 q14 q15 q16 q17 q18 q19
  have HR := HE.drew
  have HK := (HP.box2 (.bool s1) (.slice D1 m1 d1)).drew
  simp only [World.size_setCell] at HK
  obtain ⟨z0, z1, z2, z3⟩ := HE.drew.c2 (.tail _ (.head _))
  obtain ⟨y0, y1, y2, y3⟩ := HE.c2 (.tail _ (.head _))
  refine wp_region_held_drew (S := (fun w' => w'.cell? ⟨w.heap.size, 0, none⟩ = some (.bool s) ∧ w'.cell? ⟨w.heap.size, 1, none⟩ = some (.slice A n c) ∧ w'.cell? ⟨w1.heap.size, 0, none⟩ = some (.bool s1) ∧ w'.cell? ⟨w1.heap.size, 1, none⟩ = some (.slice D1 m1 d1))) (by kernel_rfl) (by first | exact ⟨(HE.c2 (.tail _ (.tail _ (.head _)))).1, (HE.c2 (.tail _ (.tail _ (.head _)))).2.1, (HE.c2 (.head _)).1, (HE.c2 (.head _)).2.1⟩ | exact ⟨(HE.drew.c2 (.tail _ (.tail _ (.head _)))).1, (HE.drew.c2 (.tail _ (.tail _ (.head _)))).2.1, (HE.drew.c2 (.head _)).1, (HE.drew.c2 (.head _)).2.1⟩ | exact ⟨(HK.c2 (.tail _ (.tail _ (.head _)))).1, (HK.c2 (.tail _ (.tail _ (.head _)))).2.1, (HK.c2 (.head _)).1, (HK.c2 (.head _)).2.1⟩) (fun hHeld => ?_)
  refine wpAnyH_take (i := 0) (oi := ?oi1) (v := ?vv1) ?hoi1 (by kernel_rfl) (by kernel_rfl) (by kernel_rfl) ?hq1 (Or.inl ⟨?hw1, ?hy1⟩) (by assumption) ?rest1
  case hoi1 => (simp only [List.getElem?_toArray, List.getElem?_cons_zero]; rfl)
  case hq1 => exact fun _ _ _ h => h
  case hw1 => rfl
  case hy1 => (intro w hSw; (try dsimp only at hSw); go_simp; try with_reducible rfl)
  (try simp only [Act.put, List.setIfInBounds_toArray, List.set_cons_zero, List.set_cons_succ])
  refine wpAnyH_take (i := 1) (oi := ?oi2) (v := ?vv2) ?hoi2 (by kernel_rfl) (by kernel_rfl) (by kernel_rfl) ?hq2 (Or.inl ⟨?hw2, ?hy2⟩) (by assumption) ?rest2
  case hoi2 => (simp only [List.getElem?_toArray, List.getElem?_cons_succ, List.getElem?_cons_zero]; rfl)
  case hq2 => exact fun _ _ _ h => h
  case hw2 => rfl
  case hy2 => (intro w hSw; (try dsimp only at hSw); go_simp; try with_reducible rfl)
  (try simp only [Act.put, List.setIfInBounds_toArray, List.set_cons_zero, List.set_cons_succ])
  refine wpAnyH_take (i := 2) (oi := ?oi3) (v := ?vv3) ?hoi3 (by kernel_rfl) (by kernel_rfl) (by kernel_rfl) ?hq3 (Or.inl ⟨?hw3, ?hy3⟩) (by assumption) ?rest3
  case hoi3 => (simp only [List.getElem?_toArray, List.getElem?_cons_succ, List.getElem?_cons_zero]; rfl)
  case hq3 => exact fun _ _ _ h => h
  case hw3 => rfl
  case hy3 => (intro w hSw; (try dsimp only at hSw); go_simp; try with_reducible rfl)
  (try simp only [Act.put, List.setIfInBounds_toArray, List.set_cons_zero, List.set_cons_succ])
  refine wpAnyH_take (i := 3) (oi := ?oi4) (v := ?vv4) ?hoi4 (by kernel_rfl) (by kernel_rfl) (by kernel_rfl) ?hq4 (Or.inl ⟨?hw4, ?hy4⟩) (by assumption) ?rest4
  case hoi4 => (simp only [List.getElem?_toArray, List.getElem?_cons_succ, List.getElem?_cons_zero]; rfl)
  case hq4 => exact fun _ _ _ h => h
  case hw4 => rfl
  case hy4 => (intro w hSw; (try dsimp only at hSw); go_simp; try with_reducible rfl)
  (try simp only [Act.put, List.setIfInBounds_toArray, List.set_cons_zero, List.set_cons_succ])
  refine wpAnyH_take (i := 4) (oi := ?oi5) (v := ?vv5) ?hoi5 (by kernel_rfl) (by kernel_rfl) (by kernel_rfl) ?hq5 (Or.inr ⟨?hw5, ?hy5⟩) (by assumption) ?rest5
  case hoi5 => (simp only [List.getElem?_toArray, List.getElem?_cons_succ, List.getElem?_cons_zero]; rfl)
  case hq5 => exact fun _ _ _ h => h
  case hw5 => rfl
  case hy5 => rfl
  (try simp only [Act.put, List.setIfInBounds_toArray, List.set_cons_zero, List.set_cons_succ])
  refine wpAnyH_take (i := 5) (oi := ?oi6) (v := ?vv6) ?hoi6 (by kernel_rfl) (by kernel_rfl) (by kernel_rfl) ?hq6 (Or.inr ⟨?hw6, ?hy6⟩) (by assumption) ?rest6
  case hoi6 => (simp only [List.getElem?_toArray, List.getElem?_cons_succ, List.getElem?_cons_zero]; rfl)
  case hq6 => exact fun _ _ _ h => h
  case hw6 => rfl
  case hy6 => rfl
  (try simp only [Act.put, List.setIfInBounds_toArray, List.set_cons_zero, List.set_cons_succ])
  refine wpAnyH_take (i := 6) (oi := ?oi7) (v := ?vv7) ?hoi7 (by kernel_rfl) (by kernel_rfl) (by kernel_rfl) ?hq7 (Or.inr ⟨?hw7, ?hy7⟩) (by assumption) ?rest7
  case hoi7 => (simp only [List.getElem?_toArray, List.getElem?_cons_succ, List.getElem?_cons_zero]; rfl)
  case hq7 => exact fun _ _ _ h => h
  case hw7 => rfl
  case hy7 => rfl
  (try simp only [Act.put, List.setIfInBounds_toArray, List.set_cons_zero, List.set_cons_succ])
  refine wpAnyH_take (i := 7) (oi := ?oi8) (v := ?vv8) ?hoi8 (by kernel_rfl) (by kernel_rfl) (by kernel_rfl) ?hq8 (Or.inr ⟨?hw8, ?hy8⟩) (by assumption) ?rest8
  case hoi8 => (simp only [List.getElem?_toArray, List.getElem?_cons_succ, List.getElem?_cons_zero]; rfl)
  case hq8 => exact fun _ _ _ h => h
  case hw8 => rfl
  case hy8 => rfl
  (try simp only [Act.put, List.setIfInBounds_toArray, List.set_cons_zero, List.set_cons_succ])
  refine wpAnyH_take (i := 8) (oi := ?oi9) (v := ?vv9) ?hoi9 (by kernel_rfl) (by kernel_rfl) (by kernel_rfl) ?hq9 (Or.inr ⟨?hw9, ?hy9⟩) (by assumption) ?rest9
  case hoi9 => (simp only [List.getElem?_toArray, List.getElem?_cons_succ, List.getElem?_cons_zero]; rfl)
  case hq9 => exact fun _ _ _ h => h
  case hw9 => rfl
  case hy9 => rfl
  (try simp only [Act.put, List.setIfInBounds_toArray, List.set_cons_zero, List.set_cons_succ])
  refine wpAnyH_take (i := 9) (oi := ?oi10) (v := ?vv10) ?hoi10 (by kernel_rfl) (by kernel_rfl) (by kernel_rfl) ?hq10 (Or.inr ⟨?hw10, ?hy10⟩) (by assumption) ?rest10
  case hoi10 => (simp only [List.getElem?_toArray, List.getElem?_cons_succ, List.getElem?_cons_zero]; rfl)
  case hq10 => exact fun _ _ _ h => h
  case hw10 => rfl
  case hy10 => rfl
  (try simp only [Act.put, List.setIfInBounds_toArray, List.set_cons_zero, List.set_cons_succ])
  refine wpAnyH_take (i := 10) (oi := ?oi11) (v := ?vv11) ?hoi11 (by kernel_rfl) (by kernel_rfl) (by kernel_rfl) ?hq11 (Or.inl ⟨?hw11, ?hy11⟩) (by assumption) ?rest11
  case hoi11 => (simp only [List.getElem?_toArray, List.getElem?_cons_succ, List.getElem?_cons_zero]; rfl)
  case hq11 => exact fun _ _ _ h => h
  case hw11 => rfl
  case hy11 => (intro w hSw; (try dsimp only at hSw); go_simp; try with_reducible rfl)
  (try simp only [Act.put, List.setIfInBounds_toArray, List.set_cons_zero, List.set_cons_succ])
  refine wpAnyH_ready (rs := [11]) (by kernel_rfl) (by simp) ?_
  refine AllReadyH.cons rfl (fun K hK => ?_) AllReadyH.nil
  go_simp
  (first
    | (refine hK.out _ _ (by first | exact ⟨(HE.c2 (.tail _ (.tail _ (.head _)))).1, (HE.c2 (.tail _ (.tail _ (.head _)))).2.1, (HE.c2 (.head _)).1, (HE.c2 (.head _)).2.1⟩ | exact ⟨(HE.drew.c2 (.tail _ (.tail _ (.head _)))).1, (HE.drew.c2 (.tail _ (.tail _ (.head _)))).2.1, (HE.drew.c2 (.head _)).1, (HE.drew.c2 (.head _)).2.1⟩ | exact ⟨(HK.c2 (.tail _ (.tail _ (.head _)))).1, (HK.c2 (.tail _ (.tail _ (.head _)))).2.1, (HK.c2 (.head _)).1, (HK.c2 (.head _)).2.1⟩) (fun hHeld => ?_))
    | (go_wp2_with fail; refine hK.out _ _ (by first | exact ⟨(HE.c2 (.tail _ (.tail _ (.head _)))).1, (HE.c2 (.tail _ (.tail _ (.head _)))).2.1, (HE.c2 (.head _)).1, (HE.c2 (.head _)).2.1⟩ | exact ⟨(HE.drew.c2 (.tail _ (.tail _ (.head _)))).1, (HE.drew.c2 (.tail _ (.tail _ (.head _)))).2.1, (HE.drew.c2 (.head _)).1, (HE.drew.c2 (.head _)).2.1⟩ | exact ⟨(HK.c2 (.tail _ (.tail _ (.head _)))).1, (HK.c2 (.tail _ (.tail _ (.head _)))).2.1, (HK.c2 (.head _)).1, (HK.c2 (.head _)).2.1⟩) (fun hHeld => ?_)))
  clear hK K
  (try simp only [Act.put, List.setIfInBounds_toArray, List.set_cons_zero, List.set_cons_succ])
  refine wpAnyH_take (i := 12) (oi := ?oi12) (v := ?vv12) ?hoi12 (by kernel_rfl) (by kernel_rfl) (by kernel_rfl) ?hq12 (Or.inl ⟨?hw12, ?hy12⟩) (by assumption) ?rest12
  case hoi12 => (simp only [List.getElem?_toArray, List.getElem?_cons_succ, List.getElem?_cons_zero]; rfl)
  case hq12 => exact fun _ _ _ h => h
  case hw12 => rfl
  case hy12 => (intro w hSw; (try dsimp only at hSw); go_simp; try with_reducible rfl)
  (try simp only [Act.put, List.setIfInBounds_toArray, List.set_cons_zero, List.set_cons_succ])
  refine wpAnyH_done (by kernel_rfl) ?_ _
  clear z0 z1 z2 z3 y0 y1 y2 y3 x0 x1 x2 x3
  obtain ⟨z0, z1, z2, z3⟩ := HK.c2 (.tail _ (.head _))
  go_wp2_with fail
  refine bodyPost_ret (v := .tuple #[.agg #[.bool s1, .slice D1 m1 d1], .bool false]) (by simp [results, Tryz.results102, go_sem, z0, z1]) rfl ?_
  exact ⟨_, _, _, _, rfl, HK.bare⟩
set_option maxRecDepth 100000 in
set_option maxHeartbeats 3200000 in
theorem rootint_f (HE : FEnv W0 w bs L ts M) (h : ⟨.agg #[.bool s, .slice A n c], x, k, b⟩ ∈ L) (hk : k ≤ 4000) (hx : 0 ≤ x) :
    Calls Tryz.prog 102 #[.agg #[.bool s, .slice A n c]] w (fun e w' => ∃ (s : Bool) (A : Option Addr) (n c : Nat), e = .returned (.tuple #[.agg #[.bool s, .slice A n c], .bool (decide (((rt x.natAbs : Nat) : Int) * ((rt x.natAbs : Nat) : Int) = x))]) ∧ FEnv W0 w' bs (⟨.agg #[.bool s, .slice A n c], ((rt x.natAbs : Nat) : Int), k, true⟩ :: L) ts M) := by
  refine Calls.mono (R := (fun e w' => ∃ (s : Bool) (A : Option Addr) (n c : Nat), e = .returned (.tuple #[.agg #[.bool s, .slice A n c], .bool (decide (((rt x.natAbs : Nat) : Int) * ((rt x.natAbs : Nat) : Int) = x))]) ∧ FEnv w w' [] (⟨.agg #[.bool s, .slice A n c], ((rt x.natAbs : Nat) : Int), k, true⟩ :: L) [] M)) ?_ fun _ _ hh => by obtain ⟨s, A, n, c, e1, he⟩ := hh; exact ⟨s, A, n, c, e1, HE.back he⟩
  replace HE := (HE.here.box2 (.bool s) (.slice A n c)).box2 (.bool false) (.slice none 0 0)
  simp only [World.size_alloc] at HE
  obtain ⟨q0, q1, q2, q3⟩ := HE.c2 (.head _)
  obtain ⟨q4, q5, q6, q7⟩ := HE.c2 (.tail _ (.head _))
  go_enter Tryz.func102, Tryz.ntmps102
  go_wp2_with fail
  refine (rroot_f HE h (by omega) hx).mono ?_
  clear HE hx
  rintro e w1 ⟨s1, D1, m1, d1, rfl, HE⟩
  have hz1 := HE.lt2 (.head _)
  replace HE := HE.box2 (.bool s1) (.slice D1 m1 d1)
  clear q0 q1 q2 q3 q4 q5 q6 q7
  obtain ⟨q8, q9, q10, q11⟩ := HE.c2 (.head _)
  obtain ⟨q12, q13, q14, q15⟩ := HE.c2 (.tail _ (.head _))
  obtain ⟨q16, q17, q18, q19⟩ := HE.c2 (.tail _ (.tail _ (.head _)))
  go_wp2_with fail
  clear q8 q9 q10 q11 q12 q13 q14 q15 q16 q17 q18 q19
  have HC := Lib.hid (cmpI_dec (((rt x.natAbs : Nat) : Int) * ((rt x.natAbs : Nat) : Int)) x)
  go_region_held3 (fun w' => w'.cell? ⟨w.heap.size, 0, none⟩ = some (.bool s) ∧ w'.cell? ⟨w.heap.size, 1, none⟩ = some (.slice A n c) ∧ w'.cell? ⟨w1.heap.size, 0, none⟩ = some (.bool s1) ∧ w'.cell? ⟨w1.heap.size, 1, none⟩ = some (.slice D1 m1 d1)) (first | exact ⟨(HE.c2 (.tail _ (.tail _ (.head _)))).1, (HE.c2 (.tail _ (.tail _ (.head _)))).2.1, (HE.c2 (.head _)).1, (HE.c2 (.head _)).2.1⟩ | exact ⟨(HE.drew.c2 (.tail _ (.tail _ (.head _)))).1, (HE.drew.c2 (.tail _ (.tail _ (.head _)))).2.1, (HE.drew.c2 (.head _)).1, (HE.drew.c2 (.head _)).2.1⟩ | exact ⟨(HK.c2 (.tail _ (.head _))).1, (HK.c2 (.tail _ (.head _))).2.1, (HK.c2 (.tail _ (.tail _ (.head _)))).1, (HK.c2 (.tail _ (.tail _ (.head _)))).2.1⟩)
    (first
      | (go_at_call 100; refine (rmul_f (by with_reducible first | exact HE | exact HE.drew) (by repeat (first | exact .head _ | assumption | refine .tail _ ?_)) (by repeat (first | exact .head _ | assumption | refine .tail _ ?_)) (by omega)).mono ?_; rintro e wn ⟨sx, Ax, nx, cx, rfl, HE⟩)
      | (go_at_call 118; refine (rcmp_f (by with_reducible first | exact HE | exact HE.drew) (by repeat (first | exact .head _ | assumption | refine .tail _ ?_)) (by repeat (first | exact .head _ | assumption | refine .tail _ ?_)) (by omega)).mono ?_; rintro e wn ⟨rfl, HE⟩; have HK := HE.put2 (.tail _ (.head _)) [⟨w.heap.size, .bool s, .slice A n c⟩, ⟨w1.heap.size, .bool s1, .slice D1 m1 d1⟩] (fun b hb => by simp only [List.mem_cons, List.not_mem_nil, or_false] at hb; rcases hb with rfl | rfl <;> exact ⟨(by repeat (first | exact .head _ | assumption | refine .tail _ ?_)), by dsimp only; omega⟩) s1 (.slice D1 m1 d1); obtain ⟨z0, z1, z2, z3⟩ := HE.c2 (.tail _ (.head _))))
  go_wp2_with fail
  refine bodyPost_ret (v := .tuple #[.agg #[.bool s1, .slice D1 m1 d1], .bool (decide (((rt x.natAbs : Nat) : Int) * ((rt x.natAbs : Nat) : Int) = x))]) (by simp [results, Tryz.results102, go_sem, z0, z1, HC.out]) rfl ?_
  exact ⟨_, _, _, _, rfl, HK.bare.tl⟩
/-- What root hands back at any integer. -/
def rtI (x : Int) : Int := if x < 0 then 0 else ((rt x.natAbs : Nat) : Int)
instance (x : Int) : Decidable (Sq x) := inferInstanceAs (Decidable (_ ∧ _))
theorem sq_dec (x : Int) (hx : 0 ≤ x) : decide (((rt x.natAbs : Nat) : Int) * ((rt x.natAbs : Nat) : Int) = x) = decide (Sq x) := by
  unfold Sq; simp [hx]
theorem root_f (HE : FEnv W0 w bs L ts M) (h : ⟨.agg #[.bool s, .slice A n c], x, k, b⟩ ∈ L) (hk : k ≤ 4000) :
    Calls Tryz.prog 102 #[.agg #[.bool s, .slice A n c]] w (fun e w' => ∃ (s : Bool) (A : Option Addr) (n c : Nat), e = .returned (.tuple #[.agg #[.bool s, .slice A n c], .bool (decide (Sq x))]) ∧ FEnv W0 w' bs (⟨.agg #[.bool s, .slice A n c], rtI x, k, true⟩ :: L) ts M) := by
  by_cases hx : x < 0
  · refine (rootneg_f HE h hk hx).mono ?_
    rintro e w' ⟨s, A, n, c, e1, he⟩
    have h1 : decide (Sq x) = false := decide_eq_false (fun hs => by have := hs.1; omega)
    have h2 : rtI x = 0 := if_pos hx
    rw [h1, h2]
    exact ⟨s, A, n, c, e1, he⟩
  · refine (rootint_f HE h hk (by omega)).mono ?_
    rintro e w' ⟨s, A, n, c, e1, he⟩
    rw [sq_dec x (by omega)] at e1
    have h2 : rtI x = ((rt x.natAbs : Nat) : Int) := if_neg hx
    rw [h2]
    exact ⟨s, A, n, c, e1, he⟩
theorem rtI_den (q : Rat) : rtI (q.den : Int) ≠ 0 := by
  have h := q.den_pos
  unfold rtI
  rw [if_neg (by omega)]
  have := rt_pos (N := (q.den : Int).natAbs) (by omega)
  omega
set_option maxRecDepth 100000 in
set_option maxHeartbeats 2400000 in
theorem rfroot_f (HE : FEnv W0 w bs L ts M) (h : ⟨.agg #[.bool s, .slice A n c, .slice A' n' c'], q, k, b⟩ ∈ M) (hk : k ≤ 1500) (hn : Sq q.num) (hd : Sq (q.den : Int)) :
    Calls Tryz.prog 19 #[.agg #[.bool s, .slice A n c, .slice A' n' c']] w (fun e w' => ∃ (s : Bool) (A : Option Addr) (n c : Nat) (A' : Option Addr) (n' c' : Nat), e = .returned (.tuple #[.agg #[.bool s, .slice A n c, .slice A' n' c'], .bool true]) ∧ FEnv W0 w' bs L ts (⟨.agg #[.bool s, .slice A n c, .slice A' n' c'], Rat.divInt (rtI q.num) (rtI (q.den : Int)), 2 * k + 6, true⟩ :: M)) := by
  refine Calls.mono (R := (fun e w' => ∃ (s : Bool) (A : Option Addr) (n c : Nat) (A' : Option Addr) (n' c' : Nat), e = .returned (.tuple #[.agg #[.bool s, .slice A n c, .slice A' n' c'], .bool true]) ∧ FEnv w w' [] L [] (⟨.agg #[.bool s, .slice A n c, .slice A' n' c'], Rat.divInt (rtI q.num) (rtI (q.den : Int)), 2 * k + 6, true⟩ :: M))) ?_ fun _ _ hh => by obtain ⟨s, A, n, c, A', n', c', e1, he⟩ := hh; exact ⟨s, A, n, c, A', n', c', e1, HE.back he⟩
  replace HE := (HE.here.box3 (.bool s) (.slice A n c) (.slice A' n' c')).box3 (.bool false) (.slice none 0 0) (.slice none 0 0)
  simp only [World.size_alloc] at HE
  have HD := Lib.hid (rtI_den q)
  have h1 : decide (Sq q.num) = true := decide_eq_true hn
  have h2 : decide (Sq (q.den : Int)) = true := decide_eq_true hd
  clear hn hd
  have HS1 := Lib.hid h1
  have HS2 := Lib.hid h2
  clear h1 h2
  obtain ⟨q0, q1, q2, q3, q4, q5⟩ := HE.c3 (.head _)
  obtain ⟨q6, q7, q8, q9, q10, q11⟩ := HE.c3 (.tail _ (.head _))
  go_enter Tryz.func19, Tryz.ntmps19
  go_wp2_with fail
  refine (rparts_f HE h (by omega)).mono ?_
  clear HE
  rintro e w1 ⟨s1, D1, m1, d1, s2, D2, m2, d2, rfl, HE⟩
  replace HE := (HE.box2 (.bool s1) (.slice D1 m1 d1)).box2 (.bool s2) (.slice D2 m2 d2)
  simp only [World.size_alloc] at HE
  clear q0 q1 q2 q3 q4 q5 q6 q7 q8 q9 q10 q11
  obtain ⟨q12, q13, q14, q15⟩ := HE.c2 (.head _)
  obtain ⟨q16, q17, q18, q19⟩ := HE.c2 (.tail _ (.head _))
  obtain ⟨q20, q21, q22, q23, q24, q25⟩ := HE.c3 (.head _)
  obtain ⟨q26, q27, q28, q29, q30, q31⟩ := HE.c3 (.tail _ (.head _))
  go_wp2_with fail
  refine (root_f HE (.head _) (by omega)).mono ?_
  rw [HS1.out]
  clear HE
  rintro e w2 ⟨s3, D3, m3, d3, rfl, HE⟩
  replace HE := HE.box2 (.bool s3) (.slice D3 m3 d3)
  clear q12 q13 q14 q15 q16 q17 q18 q19 q20 q21 q22 q23 q24 q25 q26 q27 q28 q29 q30 q31
  obtain ⟨q32, q33, q34, q35⟩ := HE.c2 (.head _)
  obtain ⟨q36, q37, q38, q39⟩ := HE.c2 (.tail _ (.head _))
  obtain ⟨q40, q41, q42, q43⟩ := HE.c2 (.tail _ (.tail _ (.head _)))
  obtain ⟨q44, q45, q46, q47, q48, q49⟩ := HE.c3 (.head _)
  obtain ⟨q50, q51, q52, q53, q54, q55⟩ := HE.c3 (.tail _ (.head _))
  go_wp2_with fail
  refine (root_f HE (.tail _ (.tail _ (.head _))) (by omega)).mono ?_
  rw [HS2.out]
  clear HE
  rintro e w3 ⟨s4, D4, m4, d4, rfl, HE⟩
  replace HE := HE.box2 (.bool s4) (.slice D4 m4 d4)
  clear q32 q33 q34 q35 q36 q37 q38 q39 q40 q41 q42 q43 q44 q45 q46 q47 q48 q49 q50 q51 q52 q53 q54 q55
  obtain ⟨q56, q57, q58, q59⟩ := HE.c2 (.head _)
  obtain ⟨q60, q61, q62, q63⟩ := HE.c2 (.tail _ (.head _))
  obtain ⟨q64, q65, q66, q67⟩ := HE.c2 (.tail _ (.tail _ (.head _)))
  obtain ⟨q68, q69, q70, q71⟩ := HE.c2 (.tail _ (.tail _ (.tail _ (.head _))))
  obtain ⟨q72, q73, q74, q75, q76, q77⟩ := HE.c3 (.head _)
  obtain ⟨q78, q79, q80, q81, q82, q83⟩ := HE.c3 (.tail _ (.head _))
  go_wp2_with fail
  refine (form_f HE (.tail _ (.head _)) (.head _) (by omega) HD.out).mono ?_
  clear HE
  rintro e w4 ⟨sx, Ax, nx, cx, Ay, ny, cy, rfl, HE⟩
  clear q56 q57 q58 q59 q60 q61 q62 q63 q64 q65 q66 q67 q68 q69 q70 q71 q72 q73 q74 q75 q76 q77 q78 q79 q80 q81 q82 q83
  obtain ⟨q84, q85, q86, q87, q88, q89⟩ := HE.c3 (.head _)
  go_wp2_with fail
  refine bodyPost_ret (v := .tuple #[.agg #[.bool sx, .slice Ax nx cx, .slice Ay ny cy], .bool true]) (by simp [results, Tryz.results19, go_sem, q84, q85, q86]) rfl ?_
  have HK := (HE.done3 (D := Ax) (m := nx) (d := cx) (.head _) sx (.slice Ay ny cy)).bare
  exact ⟨_, _, _, _, _, _, _, rfl, (HK.pick (fun e he => .tail _ (.tail _ (.tail _ (.tail _ (he))))) (fun _ he => he)).hd (·.weak (by omega))⟩
set_option maxRecDepth 100000 in
set_option maxHeartbeats 2400000 in
theorem rfrootno_f (HE : FEnv W0 w bs L ts M) (h : ⟨.agg #[.bool s, .slice A n c, .slice A' n' c'], q, k, b⟩ ∈ M) (hk : k ≤ 1500) (hs : ¬ (Sq q.num ∧ Sq (q.den : Int))) :
    Calls Tryz.prog 19 #[.agg #[.bool s, .slice A n c, .slice A' n' c']] w (fun e w' => e = .returned (.tuple #[.agg #[.bool false, .slice none 0 0, .slice none 0 0], .bool false]) ∧ FEnv W0 w' bs L ts M) := by
  refine Calls.mono (R := (fun e w' => e = .returned (.tuple #[.agg #[.bool false, .slice none 0 0, .slice none 0 0], .bool false]) ∧ FEnv w w' [] L [] M)) ?_ fun _ _ hh => ⟨hh.1, HE.back hh.2⟩
  replace HE := (HE.here.box3 (.bool s) (.slice A n c) (.slice A' n' c')).box3 (.bool false) (.slice none 0 0) (.slice none 0 0)
  simp only [World.size_alloc] at HE
  by_cases hn : Sq q.num
  · have h1 : decide (Sq q.num) = true := decide_eq_true hn
    have h2 : decide (Sq (q.den : Int)) = false := decide_eq_false (fun hd => hs ⟨hn, hd⟩)
    clear hn hs
    have HS1 := Lib.hid h1
    have HS2 := Lib.hid h2
    clear h1 h2
    obtain ⟨q0, q1, q2, q3, q4, q5⟩ := HE.c3 (.head _)
    obtain ⟨q6, q7, q8, q9, q10, q11⟩ := HE.c3 (.tail _ (.head _))
    go_enter Tryz.func19, Tryz.ntmps19
    go_wp2_with fail
    refine (rparts_f HE h (by omega)).mono ?_
    clear HE
    rintro e w1 ⟨s1, D1, m1, d1, s2, D2, m2, d2, rfl, HE⟩
    replace HE := (HE.box2 (.bool s1) (.slice D1 m1 d1)).box2 (.bool s2) (.slice D2 m2 d2)
    simp only [World.size_alloc] at HE
    clear q0 q1 q2 q3 q4 q5 q6 q7 q8 q9 q10 q11
    obtain ⟨q12, q13, q14, q15⟩ := HE.c2 (.head _)
    obtain ⟨q16, q17, q18, q19⟩ := HE.c2 (.tail _ (.head _))
    obtain ⟨q20, q21, q22, q23, q24, q25⟩ := HE.c3 (.head _)
    obtain ⟨q26, q27, q28, q29, q30, q31⟩ := HE.c3 (.tail _ (.head _))
    go_wp2_with fail
    refine (root_f HE (.head _) (by omega)).mono ?_
    rw [HS1.out]
    clear HE
    rintro e w2 ⟨s3, D3, m3, d3, rfl, HE⟩
    replace HE := HE.box2 (.bool s3) (.slice D3 m3 d3)
    clear q12 q13 q14 q15 q16 q17 q18 q19 q20 q21 q22 q23 q24 q25 q26 q27 q28 q29 q30 q31
    obtain ⟨q32, q33, q34, q35⟩ := HE.c2 (.head _)
    obtain ⟨q36, q37, q38, q39⟩ := HE.c2 (.tail _ (.head _))
    obtain ⟨q40, q41, q42, q43⟩ := HE.c2 (.tail _ (.tail _ (.head _)))
    obtain ⟨q44, q45, q46, q47, q48, q49⟩ := HE.c3 (.head _)
    obtain ⟨q50, q51, q52, q53, q54, q55⟩ := HE.c3 (.tail _ (.head _))
    go_wp2_with fail
    refine (root_f HE (.tail _ (.tail _ (.head _))) (by omega)).mono ?_
    rw [HS2.out]
    clear HE
    rintro e w3 ⟨s4, D4, m4, d4, rfl, HE⟩
    replace HE := HE.box2 (.bool s4) (.slice D4 m4 d4)
    clear q32 q33 q34 q35 q36 q37 q38 q39 q40 q41 q42 q43 q44 q45 q46 q47 q48 q49 q50 q51 q52 q53 q54 q55
    obtain ⟨q56, q57, q58, q59, q60, q61⟩ := HE.c3 (.head _)
    have TF := (HE.tri3 (.head _)).put (.bool false) (.slice none 0 0) (.slice none 0 0)
    go_wp2_with fail
    obtain ⟨z0, z1, z2, -, -, -⟩ := TF.cells
    refine bodyPost_ret (v := .tuple #[.agg #[.bool false, .slice none 0 0, .slice none 0 0], .bool false]) (by simp [results, Tryz.results19, go_sem, z0, z1, z2]) rfl ?_
    exact ⟨rfl, ((HE.done3 (D := none) (m := 0) (d := 0) (.head _) false (.slice none 0 0)).bare).pick (fun e he => .tail _ (.tail _ (.tail _ (.tail _ (he))))) (fun _ he => he)⟩
  · have h1 : decide (Sq q.num) = false := decide_eq_false hn
    obtain ⟨o2, h2⟩ : ∃ o, decide (Sq (q.den : Int)) = o := ⟨_, rfl⟩
    clear hn hs
    have HS1 := Lib.hid h1
    have HS2 := Lib.hid h2
    clear h1 h2
    obtain ⟨q0, q1, q2, q3, q4, q5⟩ := HE.c3 (.head _)
    obtain ⟨q6, q7, q8, q9, q10, q11⟩ := HE.c3 (.tail _ (.head _))
    go_enter Tryz.func19, Tryz.ntmps19
    go_wp2_with fail
    refine (rparts_f HE h (by omega)).mono ?_
    clear HE
    rintro e w1 ⟨s1, D1, m1, d1, s2, D2, m2, d2, rfl, HE⟩
    replace HE := (HE.box2 (.bool s1) (.slice D1 m1 d1)).box2 (.bool s2) (.slice D2 m2 d2)
    simp only [World.size_alloc] at HE
    clear q0 q1 q2 q3 q4 q5 q6 q7 q8 q9 q10 q11
    obtain ⟨q12, q13, q14, q15⟩ := HE.c2 (.head _)
    obtain ⟨q16, q17, q18, q19⟩ := HE.c2 (.tail _ (.head _))
    obtain ⟨q20, q21, q22, q23, q24, q25⟩ := HE.c3 (.head _)
    obtain ⟨q26, q27, q28, q29, q30, q31⟩ := HE.c3 (.tail _ (.head _))
    go_wp2_with fail
    refine (root_f HE (.head _) (by omega)).mono ?_
    rw [HS1.out]
    clear HE
    rintro e w2 ⟨s3, D3, m3, d3, rfl, HE⟩
    replace HE := HE.box2 (.bool s3) (.slice D3 m3 d3)
    clear q12 q13 q14 q15 q16 q17 q18 q19 q20 q21 q22 q23 q24 q25 q26 q27 q28 q29 q30 q31
    obtain ⟨q32, q33, q34, q35⟩ := HE.c2 (.head _)
    obtain ⟨q36, q37, q38, q39⟩ := HE.c2 (.tail _ (.head _))
    obtain ⟨q40, q41, q42, q43⟩ := HE.c2 (.tail _ (.tail _ (.head _)))
    obtain ⟨q44, q45, q46, q47, q48, q49⟩ := HE.c3 (.head _)
    obtain ⟨q50, q51, q52, q53, q54, q55⟩ := HE.c3 (.tail _ (.head _))
    go_wp2_with fail
    refine (root_f HE (.tail _ (.tail _ (.head _))) (by omega)).mono ?_
    rw [HS2.out]
    clear HE
    rintro e w3 ⟨s4, D4, m4, d4, rfl, HE⟩
    replace HE := HE.box2 (.bool s4) (.slice D4 m4 d4)
    clear q32 q33 q34 q35 q36 q37 q38 q39 q40 q41 q42 q43 q44 q45 q46 q47 q48 q49 q50 q51 q52 q53 q54 q55
    obtain ⟨q56, q57, q58, q59, q60, q61⟩ := HE.c3 (.head _)
    have TF := (HE.tri3 (.head _)).put (.bool false) (.slice none 0 0) (.slice none 0 0)
    go_wp2_with fail
    obtain ⟨z0, z1, z2, -, -, -⟩ := TF.cells
    refine bodyPost_ret (v := .tuple #[.agg #[.bool false, .slice none 0 0, .slice none 0 0], .bool false]) (by simp [results, Tryz.results19, go_sem, z0, z1, z2]) rfl ?_
    exact ⟨rfl, ((HE.done3 (D := none) (m := 0) (d := 0) (.head _) false (.slice none 0 0)).bare).pick (fun e he => .tail _ (.tail _ (.tail _ (.tail _ (he))))) (fun _ he => he)⟩
end
end Go.Proofs.YtbihljnjaondcaaGreatDoor
/-! The reference of fractions: Power. -/
namespace Go.Proofs.YtbihljnjaondcaaGreatDoor
open Go Go.RowKit Lw
section
variable {W0 w : World} {bs : List Bx} {L : List En} {ts : List Bt} {M : List Qn} {s s' : Bool} {A A' B B' : Option Addr} {n c n' c' m d m' d' k k' : Nat} {q r : Rat} {x y : Int} {b b' : Bool}
theorem pow_succ_q (q : Rat) (j : Nat) : q ^ j * q = q ^ (j + 1) := (Rat.pow_succ q j).symm
theorem one_inv (r : Rat) : ((1 : Int) : Rat) * r⁻¹ = r⁻¹ := Rat.one_mul _
set_option maxRecDepth 100000 in
set_option maxHeartbeats 1600000 in
theorem rpower_range {z : Int} (HE : FEnv W0 w bs L ts M) (hz : z < -64 ∨ 64 < z) :
    Calls Tryz.prog 17 #[.agg #[.bool s, .slice A n c, .slice A' n' c'], .int .i64 z] w fun e w' => e = .returned (.tuple #[.agg #[.bool false, .slice none 0 0, .slice none 0 0], .int .i64 3]) ∧ FEnv W0 w' bs L ts M := by
  refine Calls.mono (R := fun e w' => e = .returned (.tuple #[.agg #[.bool false, .slice none 0 0, .slice none 0 0], .int .i64 3]) ∧ FEnv w w' [] L [] M) ?_ fun _ _ hh => ⟨hh.1, HE.back hh.2⟩
  replace HE := (HE.here.box3 (.bool s) (.slice A n c) (.slice A' n' c')).box3 (.bool false) (.slice none 0 0) (.slice none 0 0)
  simp only [World.size_alloc] at HE
  rcases hz with hz | hz
  · have h1 : (z < -64) = True := eq_true hz
    clear hz
    obtain ⟨q0, q1, q2, q3, q4, q5⟩ := HE.c3 (.head _)
    go_enter Tryz.func17, Tryz.ntmps17
    go_wp2_with fail
    refine bodyPost_ret (v := .tuple #[.agg #[.bool false, .slice none 0 0, .slice none 0 0], .int .i64 3]) (by simp [results, Tryz.results17, go_sem, q0, q1, q2]) rfl ?_
    exact ⟨rfl, HE.bare⟩
  · have h1 : (z < -64) = False := eq_false (by omega)
    have h2 : ((64 : Int) < z) = True := eq_true hz
    clear hz
    obtain ⟨q0, q1, q2, q3, q4, q5⟩ := HE.c3 (.head _)
    go_enter Tryz.func17, Tryz.ntmps17
    go_wp2_with fail
    refine bodyPost_ret (v := .tuple #[.agg #[.bool false, .slice none 0 0, .slice none 0 0], .int .i64 3]) (by simp [results, Tryz.results17, go_sem, q0, q1, q2]) rfl ?_
    exact ⟨rfl, HE.bare⟩
set_option maxRecDepth 100000 in
set_option maxHeartbeats 3200000 in
theorem rpower_f {t : Nat} (HE : FEnv W0 w bs L ts M) (h : ⟨.agg #[.bool s, .slice A n c, .slice A' n' c'], q, k, b⟩ ∈ M) (hk : k ≤ 2) (ht : t ≤ 64) :
    Calls Tryz.prog 17 #[.agg #[.bool s, .slice A n c, .slice A' n' c'], .int .i64 (t : Int)] w (fun e w' => ∃ (s : Bool) (A : Option Addr) (n c : Nat) (A' : Option Addr) (n' c' : Nat), e = .returned (.tuple #[.agg #[.bool s, .slice A n c, .slice A' n' c'], .int .i64 0]) ∧ FEnv W0 w' bs L ts (⟨.agg #[.bool s, .slice A n c, .slice A' n' c'], q ^ t, 6 + t * 4, true⟩ :: M)) := by
  refine Calls.mono (R := (fun e w' => ∃ (s : Bool) (A : Option Addr) (n c : Nat) (A' : Option Addr) (n' c' : Nat), e = .returned (.tuple #[.agg #[.bool s, .slice A n c, .slice A' n' c'], .int .i64 0]) ∧ FEnv w w' [] L [] (⟨.agg #[.bool s, .slice A n c, .slice A' n' c'], q ^ t, 6 + t * 4, true⟩ :: M))) ?_ fun _ _ hh => by obtain ⟨s, A, n, c, A', n', c', e1, he⟩ := hh; exact ⟨s, A, n, c, A', n', c', e1, HE.back he⟩
  replace HE := (HE.here.box3 (.bool s) (.slice A n c) (.slice A' n' c')).box3 (.bool false) (.slice none 0 0) (.slice none 0 0)
  simp only [World.size_alloc] at HE
  have h1 : ((t : Int) < -64) = False := eq_false (by omega)
  have h2 : ((64 : Int) < (t : Int)) = False := eq_false (by omega)
  have h3 : IntKind.i64.wrap (-(t : Int)) = -(t : Int) := w64 (by omega) (by omega)
  have h4 : max (t : Int) (-(t : Int)) = (t : Int) := by omega
  have h5 : ((t : Int) < 0) = False := eq_false (by omega)
  obtain ⟨q0, q1, q2, q3, q4, q5⟩ := HE.c3 (.head _)
  obtain ⟨q6, q7, q8, q9, q10, q11⟩ := HE.c3 (.tail _ (.head _))
  go_enter Tryz.func17, Tryz.ntmps17
  go_wp2_with fail
  refine (rfof_f HE (by omega) (by omega)).mono ?_
  clear HE
  rintro e w1 ⟨s0, A0, n0, c0, B0, m0, d0, rfl, HE⟩
  have hl0 := HE.tri3 (.head _)
  have hlt := hl0.lt
  clear hl0
  replace HE := HE.box3 (.bool s0) (.slice A0 n0 c0) (.slice B0 m0 d0)
  clear q0 q1 q2 q3 q4 q5 q6 q7 q8 q9 q10 q11
  obtain ⟨q12, q13, q14, q15, q16, q17⟩ := HE.c3 (.head _)
  obtain ⟨q18, q19, q20, q21, q22, q23⟩ := HE.c3 (.tail _ (.head _))
  obtain ⟨q24, q25, q26, q27, q28, q29⟩ := HE.c3 (.tail _ (.tail _ (.head _)))
  go_wp2_with fail
  clear q12 q13 q14 q15 q16 q17 q18 q19 q20 q21 q22 q23 q24 q25 q26 q27 q28 q29
  go_loopw [19] (fun iv wr => ∃ (j : Nat) (s1 : Bool) (A1 : Option Addr) (n1 c1 : Nat) (B1 : Option Addr) (m1 d1 : Nat), j ≤ t ∧ iv = .int .i64 (j : Int) ∧ FEnv w wr [] L [⟨w1.heap.size, .bool s1, .slice A1 n1 c1, .slice B1 m1 d1⟩, ⟨w.heap.size + 1, .bool false, .slice none 0 0, .slice none 0 0⟩, ⟨w.heap.size, .bool s, .slice A n c, .slice A' n' c'⟩] (⟨.agg #[.bool s1, .slice A1 n1 c1, .slice B1 m1 d1], q ^ j, 6 + j * 4, true⟩ :: M)) (fun iv _ => t - (intOf iv).toNat)
  case atStart =>
    rw [show ((1 : Int) : Rat) = q ^ 0 by rw [Rat.pow_zero]; rfl] at HE
    exact ⟨0, s0, A0, n0, c0, B0, m0, d0, Nat.zero_le _, rfl, HE⟩
  case round =>
    clear HE
    obtain ⟨j, s1, A1, n1, c1, B1, m1, d1, hj, rfl, HE⟩ := hrel
    by_cases hjt : j < t
    · have hq : ((j : Int) < (t : Int)) = True := eq_true (by omega)
      obtain ⟨q30, q31, q32, q33, q34, q35⟩ := HE.c3 (.head _)
      obtain ⟨q36, q37, q38, q39, q40, q41⟩ := HE.c3 (.tail _ (.head _))
      obtain ⟨q42, q43, q44, q45, q46, q47⟩ := HE.c3 (.tail _ (.tail _ (.head _)))
      go_wp2_with fail
      refine (rfmul_f HE (.head _) (.tail _ h) (by omega)).mono ?_
      rw [pow_succ_q]
      clear HE
      rintro e w3 ⟨s2, A2, n2, c2, B2, m2, d2, rfl, HE⟩
      clear q30 q31 q32 q33 q34 q35 q36 q37 q38 q39 q40 q41 q42 q43 q44 q45 q46 q47
      have HE2 := HE.put3 (s' := s2) (D := A2) (m := n2) (d := c2) (v := .slice B2 m2 d2) (.head _) [⟨w.heap.size + 1, .bool false, .slice none 0 0, .slice none 0 0⟩, ⟨w.heap.size, .bool s, .slice A n c, .slice A' n' c'⟩] (fun b hb => by simp only [List.mem_cons, List.not_mem_nil, or_false] at hb; rcases hb with rfl | rfl <;> exact ⟨(by repeat (first | exact .head _ | assumption | refine .tail _ ?_)), by dsimp only; omega⟩)
      obtain ⟨q0, q1, q2, q3, q4, q5⟩ := HE.c3 (.head _)
      have hj1 : IntKind.i64.wrap ((j : Int) + 1) = (j : Int) + 1 := w64 (by omega) (by omega)
      clear HE hq
      go_wp2_with fail
      go_roundw
      case rel =>
        exact ⟨j + 1, s2, A2, n2, c2, B2, m2, d2, by omega, by go_num, (HE2.hd (K := 6 + (j + 1) * 4) (·.weak (by omega))).pick (fun _ he => he) (fun _ he => by rcases List.mem_cons.1 he with rfl | he; exact .head _; exact .tail _ (.tail _ he))⟩
      case measure => simp [intOf]; omega
    · obtain rfl : j = t := by omega
      have hq : ((j : Int) < (j : Int)) = False := eq_false (by omega)
      obtain ⟨q48, q49, q50, q51, q52, q53⟩ := HE.c3 (.head _)
      obtain ⟨q54, q55, q56, q57, q58, q59⟩ := HE.c3 (.tail _ (.head _))
      obtain ⟨q60, q61, q62, q63, q64, q65⟩ := HE.c3 (.tail _ (.tail _ (.head _)))
      have TF := (HE.tri3 (.tail _ (.head _))).put (.bool s1) (.slice A1 n1 c1) (.slice B1 m1 d1)
      go_wp2_with fail
      obtain ⟨z0, z1, z2, -, -, -⟩ := TF.cells
      refine bodyPost_ret (v := .tuple #[.agg #[.bool s1, .slice A1 n1 c1, .slice B1 m1 d1], .int .i64 0]) (by simp [results, Tryz.results17, go_sem, z0, z1, z2]) rfl ?_
      exact ⟨_, _, _, _, _, _, _, rfl, (HE.done3 (D := A1) (m := n1) (d := c1) (.tail _ (.head _)) s1 (.slice B1 m1 d1)).bare⟩
set_option maxRecDepth 100000 in
set_option maxHeartbeats 3200000 in
theorem rpowneg_f {t : Nat} (HE : FEnv W0 w bs L ts M) (h : ⟨.agg #[.bool s, .slice A n c, .slice A' n' c'], q, k, b⟩ ∈ M) (hk : k ≤ 2) (ht : t ≤ 64) (ht0 : 0 < t) (hq0 : q ^ t ≠ 0) :
    Calls Tryz.prog 17 #[.agg #[.bool s, .slice A n c, .slice A' n' c'], .int .i64 (-(t : Int))] w (fun e w' => ∃ (s : Bool) (A : Option Addr) (n c : Nat) (A' : Option Addr) (n' c' : Nat), e = .returned (.tuple #[.agg #[.bool s, .slice A n c, .slice A' n' c'], .int .i64 0]) ∧ FEnv W0 w' bs L ts (⟨.agg #[.bool s, .slice A n c, .slice A' n' c'], (q ^ t)⁻¹, 600, true⟩ :: M)) := by
  refine Calls.mono (R := (fun e w' => ∃ (s : Bool) (A : Option Addr) (n c : Nat) (A' : Option Addr) (n' c' : Nat), e = .returned (.tuple #[.agg #[.bool s, .slice A n c, .slice A' n' c'], .int .i64 0]) ∧ FEnv w w' [] L [] (⟨.agg #[.bool s, .slice A n c, .slice A' n' c'], (q ^ t)⁻¹, 600, true⟩ :: M))) ?_ fun _ _ hh => by obtain ⟨s, A, n, c, A', n', c', e1, he⟩ := hh; exact ⟨s, A, n, c, A', n', c', e1, HE.back he⟩
  replace HE := (HE.here.box3 (.bool s) (.slice A n c) (.slice A' n' c')).box3 (.bool false) (.slice none 0 0) (.slice none 0 0)
  simp only [World.size_alloc] at HE
  have HQ0 := Lib.hid hq0
  clear hq0
  have h1 : (-(t : Int) < -64) = False := eq_false (by omega)
  have h2 : ((64 : Int) < -(t : Int)) = False := eq_false (by omega)
  have h3 : IntKind.i64.wrap (t : Int) = (t : Int) := w64 (by omega) (by omega)
  have h4 : max (-(t : Int)) (t : Int) = (t : Int) := by omega
  have h5 : (-(t : Int) < 0) = True := eq_true (by omega)
  have h6 : ((64 : Int) < (t : Int)) = False := eq_false (by omega)
  have h7 : ((0 : Int) < (t : Int)) = True := eq_true (by omega)
  obtain ⟨q0, q1, q2, q3, q4, q5⟩ := HE.c3 (.head _)
  obtain ⟨q6, q7, q8, q9, q10, q11⟩ := HE.c3 (.tail _ (.head _))
  go_enter Tryz.func17, Tryz.ntmps17
  go_wp2_with fail
  refine (rfof_f HE (by omega) (by omega)).mono ?_
  clear HE
  rintro e w1 ⟨s0, A0, n0, c0, B0, m0, d0, rfl, HE⟩
  have hl0 := HE.tri3 (.head _)
  have hlt := hl0.lt
  clear hl0
  replace HE := HE.box3 (.bool s0) (.slice A0 n0 c0) (.slice B0 m0 d0)
  clear q0 q1 q2 q3 q4 q5 q6 q7 q8 q9 q10 q11
  obtain ⟨q12, q13, q14, q15, q16, q17⟩ := HE.c3 (.head _)
  obtain ⟨q18, q19, q20, q21, q22, q23⟩ := HE.c3 (.tail _ (.head _))
  obtain ⟨q24, q25, q26, q27, q28, q29⟩ := HE.c3 (.tail _ (.tail _ (.head _)))
  go_wp2_with fail
  clear q12 q13 q14 q15 q16 q17 q18 q19 q20 q21 q22 q23 q24 q25 q26 q27 q28 q29
  go_loopw [19] (fun iv wr => ∃ (j : Nat) (s1 : Bool) (A1 : Option Addr) (n1 c1 : Nat) (B1 : Option Addr) (m1 d1 : Nat), j ≤ t ∧ iv = .int .i64 (j : Int) ∧ FEnv w wr [] L [⟨w1.heap.size, .bool s1, .slice A1 n1 c1, .slice B1 m1 d1⟩, ⟨w.heap.size + 1, .bool false, .slice none 0 0, .slice none 0 0⟩, ⟨w.heap.size, .bool s, .slice A n c, .slice A' n' c'⟩] (⟨.agg #[.bool s1, .slice A1 n1 c1, .slice B1 m1 d1], q ^ j, 6 + j * 4, true⟩ :: M)) (fun iv _ => t - (intOf iv).toNat)
  case atStart =>
    rw [show ((1 : Int) : Rat) = q ^ 0 by rw [Rat.pow_zero]; rfl] at HE
    exact ⟨0, s0, A0, n0, c0, B0, m0, d0, Nat.zero_le _, rfl, HE⟩
  case round =>
    clear HE
    obtain ⟨j, s1, A1, n1, c1, B1, m1, d1, hj, rfl, HE⟩ := hrel
    by_cases hjt : j < t
    · have hq : ((j : Int) < (t : Int)) = True := eq_true (by omega)
      obtain ⟨q30, q31, q32, q33, q34, q35⟩ := HE.c3 (.head _)
      obtain ⟨q36, q37, q38, q39, q40, q41⟩ := HE.c3 (.tail _ (.head _))
      obtain ⟨q42, q43, q44, q45, q46, q47⟩ := HE.c3 (.tail _ (.tail _ (.head _)))
      go_wp2_with fail
      refine (rfmul_f HE (.head _) (.tail _ h) (by omega)).mono ?_
      rw [pow_succ_q]
      clear HE
      rintro e w3 ⟨s2, A2, n2, c2, B2, m2, d2, rfl, HE⟩
      clear q30 q31 q32 q33 q34 q35 q36 q37 q38 q39 q40 q41 q42 q43 q44 q45 q46 q47
      have HE2 := HE.put3 (s' := s2) (D := A2) (m := n2) (d := c2) (v := .slice B2 m2 d2) (.head _) [⟨w.heap.size + 1, .bool false, .slice none 0 0, .slice none 0 0⟩, ⟨w.heap.size, .bool s, .slice A n c, .slice A' n' c'⟩] (fun b hb => by simp only [List.mem_cons, List.not_mem_nil, or_false] at hb; rcases hb with rfl | rfl <;> exact ⟨(by repeat (first | exact .head _ | assumption | refine .tail _ ?_)), by dsimp only; omega⟩)
      obtain ⟨q0, q1, q2, q3, q4, q5⟩ := HE.c3 (.head _)
      have hj1 : IntKind.i64.wrap ((j : Int) + 1) = (j : Int) + 1 := w64 (by omega) (by omega)
      clear HE hq
      go_wp2_with fail
      go_roundw
      case rel =>
        exact ⟨j + 1, s2, A2, n2, c2, B2, m2, d2, by omega, by go_num, (HE2.hd (K := 6 + (j + 1) * 4) (·.weak (by omega))).pick (fun _ he => he) (fun _ he => by rcases List.mem_cons.1 he with rfl | he; exact .head _; exact .tail _ (.tail _ he))⟩
      case measure => simp [intOf]; omega
    · obtain rfl : j = t := by omega
      have hq : ((j : Int) < (j : Int)) = False := eq_false (by omega)
      obtain ⟨q48, q49, q50, q51, q52, q53⟩ := HE.c3 (.head _)
      obtain ⟨q54, q55, q56, q57, q58, q59⟩ := HE.c3 (.tail _ (.head _))
      obtain ⟨q60, q61, q62, q63, q64, q65⟩ := HE.c3 (.tail _ (.tail _ (.head _)))
      go_wp2_with fail
      clear q48 q49 q50 q51 q52 q53 q54 q55 q56 q57 q58 q59 q60 q61 q62 q63 q64 q65
      go_region_held3 (fun w' => w'.cell? ⟨w1.heap.size, 0, none⟩ = some (.bool s1) ∧ w'.cell? ⟨w1.heap.size, 1, none⟩ = some (.slice A1 n1 c1) ∧ w'.cell? ⟨w1.heap.size, 2, none⟩ = some (.slice B1 m1 d1)) (first | exact ⟨(HE.c3 (.head _)).1, (HE.c3 (.head _)).2.1, (HE.c3 (.head _)).2.2.1⟩ | exact ⟨(HE.drew.c3 (.head _)).1, (HE.drew.c3 (.head _)).2.1, (HE.drew.c3 (.head _)).2.2.1⟩ | exact ⟨(HK.c3 (.tail _ (.head _))).1, (HK.c3 (.tail _ (.head _))).2.1, (HK.c3 (.tail _ (.head _))).2.2.1⟩)
        (first
          | (go_at_call 93; refine (rfof_f (by with_reducible first | exact HE | exact HE.drew) (by omega) (by omega)).mono ?_; rintro e wn ⟨sx, Ax, nx, cx, Ay, ny, cy, rfl, HE⟩)
          | (go_at_call 95; refine (rfdiv_f (by with_reducible first | exact HE | exact HE.drew) (by repeat (first | exact .head _ | assumption | refine .tail _ ?_)) (by repeat (first | exact .head _ | assumption | refine .tail _ ?_)) (by omega) HQ0.out).mono ?_; rintro e wn ⟨sy, Au, nu, cu, Av, nv, cv, rfl, HE⟩; have HK := HE.put3 (s' := sy) (D := Au) (m := nu) (d := cu) (v := .slice Av nv cv) (.tail _ (.head _)) [⟨w1.heap.size, .bool s1, .slice A1 n1 c1, .slice B1 m1 d1⟩, ⟨w.heap.size, .bool s, .slice A n c, .slice A' n' c'⟩] (fun b hb => by simp only [List.mem_cons, List.not_mem_nil, or_false] at hb; rcases hb with rfl | rfl <;> exact ⟨(by repeat (first | exact .head _ | assumption | refine .tail _ ?_)), by dsimp only; omega⟩); obtain ⟨z0, z1, z2, z3, z4, z5⟩ := HE.c3 (.tail _ (.head _))))
      go_wp2_with fail
      refine bodyPost_ret (v := .tuple #[.agg #[.bool sy, .slice Au nu cu, .slice Av nv cv], .int .i64 0]) (by simp [results, Tryz.results17, go_sem, z0, z1, z2]) rfl ?_
      have HF := HK.bare
      rw [one_inv] at HF
      exact ⟨_, _, _, _, _, _, _, rfl, (HF.hd (K := 600) (·.weak (by omega))).pick (fun _ he => he) (fun _ he => by rcases List.mem_cons.1 he with rfl | he; exact .head _; exact .tail _ (.tail _ (.tail _ he)))⟩
set_option maxRecDepth 100000 in
set_option maxHeartbeats 3200000 in
theorem rpownegz_f {t : Nat} (HE : FEnv W0 w bs L ts M) (h : ⟨.agg #[.bool s, .slice A n c, .slice A' n' c'], q, k, b⟩ ∈ M) (hk : k ≤ 2) (ht : t ≤ 64) (ht0 : 0 < t) (hq0 : q ^ t = 0) :
    Calls Tryz.prog 17 #[.agg #[.bool s, .slice A n c, .slice A' n' c'], .int .i64 (-(t : Int))] w (fun e w' => e = .returned (.tuple #[.agg #[.bool false, .slice none 0 0, .slice none 0 0], .int .i64 8]) ∧ FEnv W0 w' bs L ts M) := by
  refine Calls.mono (R := (fun e w' => e = .returned (.tuple #[.agg #[.bool false, .slice none 0 0, .slice none 0 0], .int .i64 8]) ∧ FEnv w w' [] L [] M)) ?_ fun _ _ hh => ⟨hh.1, HE.back hh.2⟩
  replace HE := (HE.here.box3 (.bool s) (.slice A n c) (.slice A' n' c')).box3 (.bool false) (.slice none 0 0) (.slice none 0 0)
  simp only [World.size_alloc] at HE
  have HQ0 := Lib.hid hq0
  clear hq0
  have h1 : (-(t : Int) < -64) = False := eq_false (by omega)
  have h2 : ((64 : Int) < -(t : Int)) = False := eq_false (by omega)
  have h3 : IntKind.i64.wrap (t : Int) = (t : Int) := w64 (by omega) (by omega)
  have h4 : max (-(t : Int)) (t : Int) = (t : Int) := by omega
  have h5 : (-(t : Int) < 0) = True := eq_true (by omega)
  have h6 : ((64 : Int) < (t : Int)) = False := eq_false (by omega)
  have h7 : ((0 : Int) < (t : Int)) = True := eq_true (by omega)
  obtain ⟨q0, q1, q2, q3, q4, q5⟩ := HE.c3 (.head _)
  obtain ⟨q6, q7, q8, q9, q10, q11⟩ := HE.c3 (.tail _ (.head _))
  go_enter Tryz.func17, Tryz.ntmps17
  go_wp2_with fail
  refine (rfof_f HE (by omega) (by omega)).mono ?_
  clear HE
  rintro e w1 ⟨s0, A0, n0, c0, B0, m0, d0, rfl, HE⟩
  have hl0 := HE.tri3 (.head _)
  have hlt := hl0.lt
  clear hl0
  replace HE := HE.box3 (.bool s0) (.slice A0 n0 c0) (.slice B0 m0 d0)
  clear q0 q1 q2 q3 q4 q5 q6 q7 q8 q9 q10 q11
  obtain ⟨q12, q13, q14, q15, q16, q17⟩ := HE.c3 (.head _)
  obtain ⟨q18, q19, q20, q21, q22, q23⟩ := HE.c3 (.tail _ (.head _))
  obtain ⟨q24, q25, q26, q27, q28, q29⟩ := HE.c3 (.tail _ (.tail _ (.head _)))
  go_wp2_with fail
  clear q12 q13 q14 q15 q16 q17 q18 q19 q20 q21 q22 q23 q24 q25 q26 q27 q28 q29
  go_loopw [19] (fun iv wr => ∃ (j : Nat) (s1 : Bool) (A1 : Option Addr) (n1 c1 : Nat) (B1 : Option Addr) (m1 d1 : Nat), j ≤ t ∧ iv = .int .i64 (j : Int) ∧ FEnv w wr [] L [⟨w1.heap.size, .bool s1, .slice A1 n1 c1, .slice B1 m1 d1⟩, ⟨w.heap.size + 1, .bool false, .slice none 0 0, .slice none 0 0⟩, ⟨w.heap.size, .bool s, .slice A n c, .slice A' n' c'⟩] (⟨.agg #[.bool s1, .slice A1 n1 c1, .slice B1 m1 d1], q ^ j, 6 + j * 4, true⟩ :: M)) (fun iv _ => t - (intOf iv).toNat)
  case atStart =>
    rw [show ((1 : Int) : Rat) = q ^ 0 by rw [Rat.pow_zero]; rfl] at HE
    exact ⟨0, s0, A0, n0, c0, B0, m0, d0, Nat.zero_le _, rfl, HE⟩
  case round =>
    clear HE
    obtain ⟨j, s1, A1, n1, c1, B1, m1, d1, hj, rfl, HE⟩ := hrel
    by_cases hjt : j < t
    · have hq : ((j : Int) < (t : Int)) = True := eq_true (by omega)
      obtain ⟨q30, q31, q32, q33, q34, q35⟩ := HE.c3 (.head _)
      obtain ⟨q36, q37, q38, q39, q40, q41⟩ := HE.c3 (.tail _ (.head _))
      obtain ⟨q42, q43, q44, q45, q46, q47⟩ := HE.c3 (.tail _ (.tail _ (.head _)))
      go_wp2_with fail
      refine (rfmul_f HE (.head _) (.tail _ h) (by omega)).mono ?_
      rw [pow_succ_q]
      clear HE
      rintro e w3 ⟨s2, A2, n2, c2, B2, m2, d2, rfl, HE⟩
      clear q30 q31 q32 q33 q34 q35 q36 q37 q38 q39 q40 q41 q42 q43 q44 q45 q46 q47
      have HE2 := HE.put3 (s' := s2) (D := A2) (m := n2) (d := c2) (v := .slice B2 m2 d2) (.head _) [⟨w.heap.size + 1, .bool false, .slice none 0 0, .slice none 0 0⟩, ⟨w.heap.size, .bool s, .slice A n c, .slice A' n' c'⟩] (fun b hb => by simp only [List.mem_cons, List.not_mem_nil, or_false] at hb; rcases hb with rfl | rfl <;> exact ⟨(by repeat (first | exact .head _ | assumption | refine .tail _ ?_)), by dsimp only; omega⟩)
      obtain ⟨q0, q1, q2, q3, q4, q5⟩ := HE.c3 (.head _)
      have hj1 : IntKind.i64.wrap ((j : Int) + 1) = (j : Int) + 1 := w64 (by omega) (by omega)
      clear HE hq
      go_wp2_with fail
      go_roundw
      case rel =>
        exact ⟨j + 1, s2, A2, n2, c2, B2, m2, d2, by omega, by go_num, (HE2.hd (K := 6 + (j + 1) * 4) (·.weak (by omega))).pick (fun _ he => he) (fun _ he => by rcases List.mem_cons.1 he with rfl | he; exact .head _; exact .tail _ (.tail _ he))⟩
      case measure => simp [intOf]; omega
    · obtain rfl : j = t := by omega
      have hq : ((j : Int) < (j : Int)) = False := eq_false (by omega)
      obtain ⟨q48, q49, q50, q51, q52, q53⟩ := HE.c3 (.head _)
      obtain ⟨q54, q55, q56, q57, q58, q59⟩ := HE.c3 (.tail _ (.head _))
      obtain ⟨q60, q61, q62, q63, q64, q65⟩ := HE.c3 (.tail _ (.tail _ (.head _)))
      go_wp2_with fail
      clear q48 q49 q50 q51 q52 q53 q54 q55 q56 q57 q58 q59 q60 q61 q62 q63 q64 q65
      go_region_held3 (fun w' => w'.cell? ⟨w1.heap.size, 0, none⟩ = some (.bool s1) ∧ w'.cell? ⟨w1.heap.size, 1, none⟩ = some (.slice A1 n1 c1) ∧ w'.cell? ⟨w1.heap.size, 2, none⟩ = some (.slice B1 m1 d1)) (first | exact ⟨(HE.c3 (.head _)).1, (HE.c3 (.head _)).2.1, (HE.c3 (.head _)).2.2.1⟩ | exact ⟨(HE.drew.c3 (.head _)).1, (HE.drew.c3 (.head _)).2.1, (HE.drew.c3 (.head _)).2.2.1⟩ | exact ⟨(HK.c3 (.tail _ (.head _))).1, (HK.c3 (.tail _ (.head _))).2.1, (HK.c3 (.tail _ (.head _))).2.2.1⟩)
        (first
          | (go_at_call 93; refine (rfof_f (by with_reducible first | exact HE | exact HE.drew) (by omega) (by omega)).mono ?_; rintro e wn ⟨sx, Ax, nx, cx, Ay, ny, cy, rfl, HE⟩)
          | (go_at_call 95; refine (rfdivz_f (by with_reducible first | exact HE | exact HE.drew) (by repeat (first | exact .head _ | assumption | refine .tail _ ?_)) (by repeat (first | exact .head _ | assumption | refine .tail _ ?_)) (by omega) HQ0.out).mono ?_; rintro e wn ⟨rfl, HE⟩; have HK := HE.put3 (s' := false) (D := none) (m := 0) (d := 0) (v := .slice none 0 0) (.tail _ (.head _)) [⟨w1.heap.size, .bool s1, .slice A1 n1 c1, .slice B1 m1 d1⟩, ⟨w.heap.size, .bool s, .slice A n c, .slice A' n' c'⟩] (fun b hb => by simp only [List.mem_cons, List.not_mem_nil, or_false] at hb; rcases hb with rfl | rfl <;> exact ⟨(by repeat (first | exact .head _ | assumption | refine .tail _ ?_)), by dsimp only; omega⟩); obtain ⟨z0, z1, z2, z3, z4, z5⟩ := HE.c3 (.tail _ (.head _))))
      go_wp2_with fail
      refine bodyPost_ret (v := .tuple #[.agg #[.bool false, .slice none 0 0, .slice none 0 0], .int .i64 8]) (by simp [results, Tryz.results17, go_sem, z0, z1, z2]) rfl ?_
      exact ⟨rfl, HK.bare.pick (fun _ he => he) (fun _ he => .tail _ (.tail _ he))⟩
end
end Go.Proofs.YtbihljnjaondcaaGreatDoor
/-! The reference of fractions: Power (of the program). -/
namespace Go.Proofs.YtbihljnjaondcaaGreatDoor
open Go Go.RowKit Lw
section
variable {W0 w : World} {bs : List Bx} {L : List En} {ts : List Bt} {M : List Qn} {s s' : Bool} {A A' B B' : Option Addr} {n c n' c' m d m' d' k k' : Nat} {q r : Rat} {x y : Int} {b b' : Bool}
theorem inv_pow_mul {q : Rat} (h : q ≠ 0) (t : Nat) : q⁻¹ ^ t * q ^ t = 1 := by
  induction t with
  | zero => rw [Rat.pow_zero, Rat.pow_zero, Rat.mul_one]
  | succ t ih =>
    rw [Rat.pow_succ, Rat.pow_succ, Rat.mul_assoc, ← Rat.mul_assoc q⁻¹, Rat.mul_comm q⁻¹, Rat.mul_assoc, Rat.inv_mul_cancel q h, Rat.mul_one]
    exact ih
theorem pow_ne {q : Rat} (h : q ≠ 0) (t : Nat) : q ^ t ≠ 0 := fun e => by
  have := inv_pow_mul h t
  rw [e, Rat.mul_zero] at this
  exact absurd this (by decide)
theorem inv_pow_q {q : Rat} (h : q ≠ 0) (t : Nat) : q⁻¹ ^ t = (q ^ t)⁻¹ := by
  have h1 := inv_pow_mul h t
  have h2 := Rat.mul_inv_cancel (q ^ t) (pow_ne h t)
  rw [← Rat.mul_one (q⁻¹ ^ t), ← h2, ← Rat.mul_assoc, h1, Rat.one_mul]
set_option maxRecDepth 100000 in
set_option maxHeartbeats 3200000 in
theorem fpower_range {z : Int} (HE : FEnv W0 w bs L ts M) (hz : z < -64 ∨ 64 < z) :
    Calls Tryz.prog 14 #[.agg #[.bool s, .slice A n c, .slice A' n' c'], .int .i64 z] w (fun e w' => e = .returned (errV 3) ∧ FEnv W0 w' bs L ts M) := by
  refine Calls.mono (R := (fun e w' => e = .returned (errV 3) ∧ FEnv w w' [] L [] M)) ?_ fun _ _ hh => ⟨hh.1, HE.back hh.2⟩
  replace HE := (HE.here.box3 (.bool s) (.slice A n c) (.slice A' n' c')).box3 (.bool false) (.slice none 0 0) (.slice none 0 0)
  simp only [World.size_alloc] at HE
  rcases hz with hz | hz
  · have h1 : (z < -64) = True := eq_true hz
    clear hz
    obtain ⟨q0, q1, q2, q3, q4, q5⟩ := HE.c3 (.head _)
    go_enter Tryz.func14, Tryz.ntmps14
    go_wp2_with fail
    refine bodyPost_ret (v := errV 3) (by simp [errV, results, Tryz.results14, go_sem, q0, q1, q2]) rfl ?_
    exact ⟨rfl, HE.bare⟩
  · have h1 : (z < -64) = False := eq_false (by omega)
    have h2 : ((64 : Int) < z) = True := eq_true hz
    clear hz
    obtain ⟨q0, q1, q2, q3, q4, q5⟩ := HE.c3 (.head _)
    go_enter Tryz.func14, Tryz.ntmps14
    go_wp2_with fail
    refine bodyPost_ret (v := errV 3) (by simp [errV, results, Tryz.results14, go_sem, q0, q1, q2]) rfl ?_
    exact ⟨rfl, HE.bare⟩
set_option maxRecDepth 100000 in
set_option maxHeartbeats 3200000 in
theorem fpower_zero {t : Nat} (HE : FEnv W0 w bs L ts M) (h : ⟨.agg #[.bool s, .slice A n c, .slice A' n' c'], q, k, b⟩ ∈ M) (hk : k ≤ 50) (ht : t ≤ 64) (ht0 : 0 < t) (hq : q = 0) :
    Calls Tryz.prog 14 #[.agg #[.bool s, .slice A n c, .slice A' n' c'], .int .i64 (-(t : Int))] w (fun e w' => e = .returned (errV 8) ∧ FEnv W0 w' bs L ts M) := by
  refine Calls.mono (R := (fun e w' => e = .returned (errV 8) ∧ FEnv w w' [] L [] M)) ?_ fun _ _ hh => ⟨hh.1, HE.back hh.2⟩
  replace HE := (HE.here.box3 (.bool s) (.slice A n c) (.slice A' n' c')).box3 (.bool false) (.slice none 0 0) (.slice none 0 0)
  simp only [World.size_alloc] at HE
  have HQ := Lib.hid hq
  clear hq
  have h1 : (-(t : Int) < -64) = False := eq_false (by omega)
  have h2 : ((64 : Int) < -(t : Int)) = False := eq_false (by omega)
  have h5 : (-(t : Int) < 0) = True := eq_true (by omega)
  have h6 : ((64 : Int) < (t : Int)) = False := eq_false (by omega)
  have h7 : ((0 : Int) < (t : Int)) = True := eq_true (by omega)
  obtain ⟨q0, q1, q2, q3, q4, q5⟩ := HE.c3 (.head _)
  obtain ⟨q6, q7, q8, q9, q10, q11⟩ := HE.c3 (.tail _ (.head _))
  go_enter Tryz.func14, Tryz.ntmps14
  go_wp2_with fail
  refine (known_f HE h (by omega)).mono ?_
  clear HE
  rintro e w1 ⟨sa, Aa, na, ca, Ab, nb, cb, rfl, HE⟩
  clear q0 q1 q2 q3 q4 q5 q6 q7 q8 q9 q10 q11
  obtain rfl := (n_zero ((HE.fr _ (.head _)).own).2.1).2 HQ.out
  obtain ⟨q12, q13, q14, q15, q16, q17⟩ := HE.c3 (.head _)
  obtain ⟨q18, q19, q20, q21, q22, q23⟩ := HE.c3 (.tail _ (.head _))
  have HP := HE.put3 (s' := sa) (D := Aa) (m := 0) (d := ca) (v := .slice Ab nb cb) (.tail _ (.head _)) [⟨w.heap.size + 1, .bool false, .slice none 0 0, .slice none 0 0⟩] (fun b hb => by simp only [List.mem_cons, List.not_mem_nil, or_false] at hb; subst hb; exact ⟨.head _, by dsimp only; omega⟩)
  obtain ⟨x0, x1, x2, x3, x4, x5⟩ := HP.c3 (.head _)
  obtain ⟨y0, y1, y2, y3, y4, y5⟩ := HP.c3 (.tail _ (.head _))
  have TF := (HP.tri3 (.tail _ (.head _))).put (.bool false) (.slice none 0 0) (.slice none 0 0)
  have HF := (HP.done3 (D := none) (m := 0) (d := 0) (.tail _ (.head _)) false (.slice none 0 0)).bare.tlq
  clear HP HE
  go_wp2_with fail
  obtain ⟨z0, z1, z2, -, -, -⟩ := TF.cells
  refine bodyPost_ret (v := errV 8) (by simp [errV, results, Tryz.results14, go_sem, z0, z1, z2]) rfl ?_
  exact ⟨rfl, HF⟩
set_option maxRecDepth 100000 in
set_option maxHeartbeats 3200000 in
theorem fpower_f {t : Nat} (HE : FEnv W0 w bs L ts M) (h : ⟨.agg #[.bool s, .slice A n c, .slice A' n' c'], q, k, b⟩ ∈ M) (hk : k ≤ 50) (ht : t ≤ 64) :
    Calls Tryz.prog 14 #[.agg #[.bool s, .slice A n c, .slice A' n' c'], .int .i64 (t : Int)] w (GotE W0 bs L ts M (q ^ t) (2 * ((k + 2) * t + 1))) := by
  refine Calls.mono (R := (GotE w [] L [] M (q ^ t) (2 * ((k + 2) * t + 1)))) ?_ fun _ _ hh => GotE.of HE hh
  replace HE := (HE.here.box3 (.bool s) (.slice A n c) (.slice A' n' c')).box3 (.bool false) (.slice none 0 0) (.slice none 0 0)
  simp only [World.size_alloc] at HE
  have h1 : ((t : Int) < -64) = False := eq_false (by omega)
  have h2 : ((64 : Int) < (t : Int)) = False := eq_false (by omega)
  have h5 : ((t : Int) < 0) = False := eq_false (by omega)
  have hkl := known_lt HE h
  have HN := Lib.hid (show q.num.natAbs < pw (k + 2) ∧ ((q.den : Int)).natAbs < pw (k + 2) from ⟨Nat.lt_of_lt_of_le hkl.1 (pw_le (by omega)), by rw [Int.natAbs_natCast]; exact Nat.lt_of_lt_of_le hkl.2 (pw_le (by omega))⟩)
  clear hkl
  obtain ⟨q0, q1, q2, q3, q4, q5⟩ := HE.c3 (.head _)
  obtain ⟨q6, q7, q8, q9, q10, q11⟩ := HE.c3 (.tail _ (.head _))
  go_enter Tryz.func14, Tryz.ntmps14
  go_wp2_with fail
  refine (known_f HE h (by omega)).mono ?_
  clear HE
  rintro e w1 ⟨sa, Aa, na, ca, Ab, nb, cb, rfl, HE⟩
  clear q0 q1 q2 q3 q4 q5 q6 q7 q8 q9 q10 q11
  obtain ⟨q12, q13, q14, q15, q16, q17⟩ := HE.c3 (.head _)
  obtain ⟨q18, q19, q20, q21, q22, q23⟩ := HE.c3 (.tail _ (.head _))
  have HP := HE.put3 (s' := sa) (D := Aa) (m := na) (d := ca) (v := .slice Ab nb cb) (.tail _ (.head _)) [⟨w.heap.size + 1, .bool false, .slice none 0 0, .slice none 0 0⟩] (fun b hb => by simp only [List.mem_cons, List.not_mem_nil, or_false] at hb; subst hb; exact ⟨.head _, by dsimp only; omega⟩)
  obtain ⟨x0, x1, x2, x3, x4, x5⟩ := HP.c3 (.head _)
  obtain ⟨y0, y1, y2, y3, y4, y5⟩ := HP.c3 (.tail _ (.head _))
  go_wp2_with fail
  replace HE := HP
  clear HP x0 x1 x2 x3 x4 x5 y0 y1 y2 y3 y4 y5
  refine (pair_f HE (.head _)).mono ?_
  clear HE
  rintro e w5 ⟨s3, A3, n3, c3, s4, A4, n4, c4, rfl, HE⟩
  replace HE := (HE.box2 (.bool s3) (.slice A3 n3 c3)).box2 (.bool s4) (.slice A4 n4 c4)
  simp only [World.size_alloc] at HE
  clear q12 q13 q14 q15 q16 q17 q18 q19 q20 q21 q22 q23
  obtain ⟨q24, q25, q26, q27⟩ := HE.c2 (.head _)
  obtain ⟨q28, q29, q30, q31⟩ := HE.c2 (.tail _ (.head _))
  go_wp2_with fail
  clear q24 q25 q26 q27 q28 q29 q30 q31
  go_region_held3 (fun w' => w'.cell? ⟨w5.heap.size, 0, none⟩ = some (.bool s3) ∧ w'.cell? ⟨w5.heap.size, 1, none⟩ = some (.slice A3 n3 c3) ∧ w'.cell? ⟨w5.heap.size + 1, 0, none⟩ = some (.bool s4) ∧ w'.cell? ⟨w5.heap.size + 1, 1, none⟩ = some (.slice A4 n4 c4)) (first | exact ⟨(HE.c2 (.tail _ (.head _))).1, (HE.c2 (.tail _ (.head _))).2.1, (HE.c2 (.head _)).1, (HE.c2 (.head _)).2.1⟩ | exact ⟨(HE.drew.c2 (.tail _ (.head _))).1, (HE.drew.c2 (.tail _ (.head _))).2.1, (HE.drew.c2 (.head _)).1, (HE.drew.c2 (.head _)).2.1⟩ | exact ⟨(HK.c2 (.tail _ (.head _))).1, (HK.c2 (.tail _ (.head _))).2.1, (HK.c2 (.head _)).1, (HK.c2 (.head _)).2.1⟩)
    (first
      | (go_at_call 87; refine (raise_f (by with_reducible first | exact HE | exact HE.drew) (by repeat (first | exact .head _ | assumption | refine .tail _ ?_)) (by omega) (by omega) (by first | exact HN.out.1 | exact HN.out.2)).mono ?_; rintro e wn ⟨sx, Ax, nx, cx, rfl, HE⟩)
      | (go_at_call 86; refine (lowest_f (q := q ^ t) (by with_reducible first | exact HE | exact HE.drew) (by repeat (first | exact .head _ | assumption | refine .tail _ ?_)) (by repeat (first | exact .head _ | assumption | refine .tail _ ?_)) (Rat.num_pow _ _) (by rw [Rat.den_pow]; exact Int.natCast_pow _ _)).mono ?_; rintro e wn ⟨sx, Ax, nx, cx, Ay, ny, cy, rfl, HE⟩; have HK := HE.done3 (D := Ax) (m := nx) (d := cx) (.tail _ (.head _)) sx (.slice Ay ny cy); obtain ⟨z0, z1, z2, z3, z4, z5⟩ := HE.c3 (.tail _ (.head _))))
  go_wp2_with fail
  refine bodyPost_ret (v := .tuple #[.agg #[.bool sx, .slice Ax nx cx, .slice Ay ny cy], .nilIface]) (by simp [results, Tryz.results14, go_sem, z0, z1, z2]) rfl ?_
  exact ⟨_, _, _, _, _, _, _, rfl, (HK.bare.pick (M' := ⟨_, _, _, _⟩ :: M) (fun e he => .tail _ (.tail _ (.tail _ (.tail _ (he))))) (fun _ he => by rcases List.mem_cons.1 he with rfl | he; exact .head _; exact .tail _ (.tail _ he))).hd (·.weak (by omega))⟩
set_option maxRecDepth 100000 in
set_option maxHeartbeats 3200000 in
theorem fpowneg_f {t : Nat} (HE : FEnv W0 w bs L ts M) (h : ⟨.agg #[.bool s, .slice A n c, .slice A' n' c'], q, k, b⟩ ∈ M) (hk : k ≤ 50) (ht : t ≤ 64) (ht0 : 0 < t) (hq : q ≠ 0) :
    Calls Tryz.prog 14 #[.agg #[.bool s, .slice A n c, .slice A' n' c'], .int .i64 (-(t : Int))] w (GotE W0 bs L ts M (q⁻¹ ^ t) (2 * ((k + 2) * t + 1))) := by
  refine Calls.mono (R := (GotE w [] L [] M (q⁻¹ ^ t) (2 * ((k + 2) * t + 1)))) ?_ fun _ _ hh => GotE.of HE hh
  replace HE := (HE.here.box3 (.bool s) (.slice A n c) (.slice A' n' c')).box3 (.bool false) (.slice none 0 0) (.slice none 0 0)
  simp only [World.size_alloc] at HE
  have HQ := Lib.hid hq
  clear hq
  have h1 : (-(t : Int) < -64) = False := eq_false (by omega)
  have h2 : ((64 : Int) < -(t : Int)) = False := eq_false (by omega)
  have h5 : (-(t : Int) < 0) = True := eq_true (by omega)
  have h6 : ((64 : Int) < (t : Int)) = False := eq_false (by omega)
  have h7 : ((0 : Int) < (t : Int)) = True := eq_true (by omega)
  have h3 : IntKind.i64.wrap (t : Int) = (t : Int) := w64 (by omega) (by omega)
  obtain ⟨q0, q1, q2, q3, q4, q5⟩ := HE.c3 (.head _)
  obtain ⟨q6, q7, q8, q9, q10, q11⟩ := HE.c3 (.tail _ (.head _))
  go_enter Tryz.func14, Tryz.ntmps14
  go_wp2_with fail
  refine (known_f HE h (by omega)).mono ?_
  clear HE
  rintro e w1 ⟨sa, Aa, na, ca, Ab, nb, cb, rfl, HE⟩
  clear q0 q1 q2 q3 q4 q5 q6 q7 q8 q9 q10 q11
  have hn0 : ((na : Int) == 0) = false := by rw [beq_eq_false_iff_ne]; have := mt (n_zero ((HE.fr _ (.head _)).own).2.1).1 HQ.out; omega
  obtain ⟨q12, q13, q14, q15, q16, q17⟩ := HE.c3 (.head _)
  obtain ⟨q18, q19, q20, q21, q22, q23⟩ := HE.c3 (.tail _ (.head _))
  have HP := HE.put3 (s' := sa) (D := Aa) (m := na) (d := ca) (v := .slice Ab nb cb) (.tail _ (.head _)) [⟨w.heap.size + 1, .bool false, .slice none 0 0, .slice none 0 0⟩] (fun b hb => by simp only [List.mem_cons, List.not_mem_nil, or_false] at hb; subst hb; exact ⟨.head _, by dsimp only; omega⟩)
  obtain ⟨x0, x1, x2, x3, x4, x5⟩ := HP.c3 (.head _)
  obtain ⟨y0, y1, y2, y3, y4, y5⟩ := HP.c3 (.tail _ (.head _))
  go_wp2_with fail
  replace HE := HP
  clear HP x0 x1 x2 x3 x4 x5 y0 y1 y2 y3 y4 y5
  refine (inverse_f HE (.head _) HQ.out).mono ?_
  clear HE
  rintro e w2 ⟨sb, Ba, ma, da, Bb, mb, db, rfl, HE⟩
  clear q12 q13 q14 q15 q16 q17 q18 q19 q20 q21 q22 q23
  have hkl := known_lt HE (.head _)
  have HN := Lib.hid (show q⁻¹.num.natAbs < pw (k + 2) ∧ ((q⁻¹.den : Int)).natAbs < pw (k + 2) from ⟨Nat.lt_of_lt_of_le hkl.1 (pw_le (by omega)), by rw [Int.natAbs_natCast]; exact Nat.lt_of_lt_of_le hkl.2 (pw_le (by omega))⟩)
  clear hkl
  obtain ⟨x0, x1, x2, x3, x4, x5⟩ := HE.c3 (.head _)
  have HP := HE.put3 (s' := sb) (D := Ba) (m := ma) (d := da) (v := .slice Bb mb db) (.head _) [⟨w.heap.size + 1, .bool false, .slice none 0 0, .slice none 0 0⟩] (fun b hb => by simp only [List.mem_cons, List.not_mem_nil, or_false] at hb; subst hb; exact ⟨.tail _ (.head _), by dsimp only; omega⟩)
  obtain ⟨y0, y1, y2, y3, y4, y5⟩ := HP.c3 (.head _)
  go_wp2_with fail
  replace HE := HP
  clear HP x0 x1 x2 x3 x4 x5 y0 y1 y2 y3 y4 y5
  refine (pair_f HE (.head _)).mono ?_
  clear HE
  rintro e w5 ⟨s3, A3, n3, c3, s4, A4, n4, c4, rfl, HE⟩
  replace HE := (HE.box2 (.bool s3) (.slice A3 n3 c3)).box2 (.bool s4) (.slice A4 n4 c4)
  simp only [World.size_alloc] at HE
  obtain ⟨q24, q25, q26, q27⟩ := HE.c2 (.head _)
  obtain ⟨q28, q29, q30, q31⟩ := HE.c2 (.tail _ (.head _))
  go_wp2_with fail
  clear q24 q25 q26 q27 q28 q29 q30 q31
  go_region_held3 (fun w' => w'.cell? ⟨w5.heap.size, 0, none⟩ = some (.bool s3) ∧ w'.cell? ⟨w5.heap.size, 1, none⟩ = some (.slice A3 n3 c3) ∧ w'.cell? ⟨w5.heap.size + 1, 0, none⟩ = some (.bool s4) ∧ w'.cell? ⟨w5.heap.size + 1, 1, none⟩ = some (.slice A4 n4 c4)) (first | exact ⟨(HE.c2 (.tail _ (.head _))).1, (HE.c2 (.tail _ (.head _))).2.1, (HE.c2 (.head _)).1, (HE.c2 (.head _)).2.1⟩ | exact ⟨(HE.drew.c2 (.tail _ (.head _))).1, (HE.drew.c2 (.tail _ (.head _))).2.1, (HE.drew.c2 (.head _)).1, (HE.drew.c2 (.head _)).2.1⟩ | exact ⟨(HK.c2 (.tail _ (.head _))).1, (HK.c2 (.tail _ (.head _))).2.1, (HK.c2 (.head _)).1, (HK.c2 (.head _)).2.1⟩)
    (first
      | (go_at_call 87; refine (raise_f (by with_reducible first | exact HE | exact HE.drew) (by repeat (first | exact .head _ | assumption | refine .tail _ ?_)) (by omega) (by omega) (by first | exact HN.out.1 | exact HN.out.2)).mono ?_; rintro e wn ⟨sx, Ax, nx, cx, rfl, HE⟩)
      | (go_at_call 86; refine (lowest_f (q := q⁻¹ ^ t) (by with_reducible first | exact HE | exact HE.drew) (by repeat (first | exact .head _ | assumption | refine .tail _ ?_)) (by repeat (first | exact .head _ | assumption | refine .tail _ ?_)) (Rat.num_pow _ _) (by rw [Rat.den_pow]; exact Int.natCast_pow _ _)).mono ?_; rintro e wn ⟨sx, Ax, nx, cx, Ay, ny, cy, rfl, HE⟩; have HK := HE.done3 (D := Ax) (m := nx) (d := cx) (.tail _ (.head _)) sx (.slice Ay ny cy); obtain ⟨z0, z1, z2, z3, z4, z5⟩ := HE.c3 (.tail _ (.head _))))
  go_wp2_with fail
  refine bodyPost_ret (v := .tuple #[.agg #[.bool sx, .slice Ax nx cx, .slice Ay ny cy], .nilIface]) (by simp [results, Tryz.results14, go_sem, z0, z1, z2]) rfl ?_
  exact ⟨_, _, _, _, _, _, _, rfl, (HK.bare.pick (M' := ⟨_, _, _, _⟩ :: M) (fun e he => .tail _ (.tail _ (.tail _ (.tail _ (he))))) (fun _ he => by rcases List.mem_cons.1 he with rfl | he; exact .head _; exact .tail _ (.tail _ (.tail _ he)))).hd (·.weak (by omega))⟩
end
end Go.Proofs.YtbihljnjaondcaaGreatDoor
/-! The reference of fractions: Grid. -/
namespace Go.Proofs.YtbihljnjaondcaaGreatDoor
open Go Go.RowKit Lw
section
variable {W0 w : World} {bs : List Bx} {L : List En} {ts : List Bt} {M : List Qn} {s s' : Bool} {A A' B B' : Option Addr} {n c n' c' m d m' d' k k' : Nat} {q r : Rat} {x y : Int} {b b' : Bool}
set_option maxRecDepth 100000 in
set_option maxHeartbeats 1600000 in
theorem rfgrid_range {z : Int} (HE : FEnv W0 w bs L ts M) (hz : z < 0 ∨ 256 < z) :
    Calls Tryz.prog 18 #[.agg #[.bool s, .slice A n c, .slice A' n' c'], .int .i64 z] w fun e w' => e = .returned (.tuple #[.agg #[.bool false, .slice none 0 0, .slice none 0 0], .int .i64 3]) ∧ FEnv W0 w' bs L ts M := by
  refine Calls.mono (R := fun e w' => e = .returned (.tuple #[.agg #[.bool false, .slice none 0 0, .slice none 0 0], .int .i64 3]) ∧ FEnv w w' [] L [] M) ?_ fun _ _ hh => ⟨hh.1, HE.back hh.2⟩
  replace HE := (HE.here.box3 (.bool s) (.slice A n c) (.slice A' n' c')).box3 (.bool false) (.slice none 0 0) (.slice none 0 0)
  simp only [World.size_alloc] at HE
  rcases hz with hz | hz
  · have h1 : (z < 0) = True := eq_true hz
    clear hz
    obtain ⟨q0, q1, q2, q3, q4, q5⟩ := HE.c3 (.head _)
    go_enter Tryz.func18, Tryz.ntmps18
    go_wp2_with fail
    refine bodyPost_ret (v := .tuple #[.agg #[.bool false, .slice none 0 0, .slice none 0 0], .int .i64 3]) (by simp [results, Tryz.results18, go_sem, q0, q1, q2]) rfl ?_
    exact ⟨rfl, HE.bare⟩
  · have h1 : (z < 0) = False := eq_false (by omega)
    have h2 : ((256 : Int) < z) = True := eq_true hz
    clear hz
    obtain ⟨q0, q1, q2, q3, q4, q5⟩ := HE.c3 (.head _)
    go_enter Tryz.func18, Tryz.ntmps18
    go_wp2_with fail
    refine bodyPost_ret (v := .tuple #[.agg #[.bool false, .slice none 0 0, .slice none 0 0], .int .i64 3]) (by simp [results, Tryz.results18, go_sem, q0, q1, q2]) rfl ?_
    exact ⟨rfl, HE.bare⟩
set_option maxRecDepth 100000 in
set_option maxHeartbeats 1600000 in
theorem fgrid_range {z : Int} (HE : FEnv W0 w bs L ts M) (hz : z < 0 ∨ 256 < z) :
    Calls Tryz.prog 15 #[.agg #[.bool s, .slice A n c, .slice A' n' c'], .int .i64 z] w fun e w' => e = .returned (errV 3) ∧ FEnv W0 w' bs L ts M := by
  refine Calls.mono (R := fun e w' => e = .returned (errV 3) ∧ FEnv w w' [] L [] M) ?_ fun _ _ hh => ⟨hh.1, HE.back hh.2⟩
  replace HE := (HE.here.box3 (.bool s) (.slice A n c) (.slice A' n' c')).box3 (.bool false) (.slice none 0 0) (.slice none 0 0)
  simp only [World.size_alloc] at HE
  rcases hz with hz | hz
  · have h1 : (z < 0) = True := eq_true hz
    clear hz
    obtain ⟨q0, q1, q2, q3, q4, q5⟩ := HE.c3 (.head _)
    go_enter Tryz.func15, Tryz.ntmps15
    go_wp2_with fail
    refine bodyPost_ret (v := errV 3) (by simp [errV, results, Tryz.results15, go_sem, q0, q1, q2]) rfl ?_
    exact ⟨rfl, HE.bare⟩
  · have h1 : (z < 0) = False := eq_false (by omega)
    have h2 : ((256 : Int) < z) = True := eq_true hz
    clear hz
    obtain ⟨q0, q1, q2, q3, q4, q5⟩ := HE.c3 (.head _)
    go_enter Tryz.func15, Tryz.ntmps15
    go_wp2_with fail
    refine bodyPost_ret (v := errV 3) (by simp [errV, results, Tryz.results15, go_sem, q0, q1, q2]) rfl ?_
    exact ⟨rfl, HE.bare⟩
end
end Go.Proofs.YtbihljnjaondcaaGreatDoor
