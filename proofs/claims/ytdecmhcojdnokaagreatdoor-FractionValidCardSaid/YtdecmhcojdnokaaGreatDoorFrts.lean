/- What Root gives at any fraction, and at a square. -/
import Derived.Test.YtdecmhcojdnokaaGreatDoorFroot
import Derived.Test.YtdecmhcojdnokaaGreatDoorFawake
namespace Lw
theorem rt_sq (n : Nat) : rt (n * n) = n := by
  refine (rt_eq (Nat.le_refl _) ?_).symm
  rw [Nat.add_mul, Nat.mul_add]
  omega
theorem sq_self (a : Int) : Sq (a * a) ∧ rt (a * a).natAbs = a.natAbs := by
  have h : rt (a * a).natAbs = a.natAbs := by rw [Int.natAbs_mul]; exact rt_sq _
  refine ⟨⟨?_, ?_⟩, h⟩
  · rw [← Int.natAbs_mul_self' a]; exact Int.mul_nonneg (Int.natCast_nonneg _) (Int.natCast_nonneg _)
  · rw [h]; exact Int.natAbs_mul_self' a
theorem absQ_num (q : Rat) : (absQ q).num = (q.num.natAbs : Int) ∧ (absQ q).den = q.den := by
  unfold absQ
  split
  · rename_i h
    have h1 := num_neg.2 h
    rw [(rat_neg q).1, (rat_neg q).2]
    exact ⟨by omega, rfl⟩
  · rename_i h
    have h1 : ¬ q.num < 0 := fun e => h (num_neg.1 e)
    exact ⟨by omega, rfl⟩
/-- The root of a square is the absolute value. -/
theorem root_sq (q : Rat) : Sq (q * q).num ∧ Sq ((q * q).den : Int) ∧ (absQ q).num = ((rt (q * q).num.natAbs : Nat) : Int) ∧ ((absQ q).den : Int) = ((rt ((q * q).den : Int).natAbs : Nat) : Int) := by
  obtain ⟨h1, h2⟩ := sq_num q
  obtain ⟨a1, a2⟩ := absQ_num q
  have h3 : ((q * q).den : Int) = (q.den : Int) * (q.den : Int) := by rw [h2, Int.natCast_mul]
  rw [h1, h3, a1, a2, (sq_self _).2, (sq_self _).2, Int.natAbs_natCast]
  exact ⟨(sq_self _).1, (sq_self _).1, rfl, rfl⟩
theorem sgQ_nonneg {q : Rat} (h : 0 ≤ q) : decide (sgQ q < 0) = false := by
  rw [decide_eq_false_iff_not]
  rcases tri q 0 with h1 | h1 | h1
  · exact absurd h (Rat.not_le.2 h1)
  · rw [h1, sgQ_zero]; decide
  · rw [sgQ_pos h1]; decide
theorem sgQ_nn {q : Rat} (h : 0 ≤ q) : decide (0 ≤ sgQ q) = true := by
  rw [decide_eq_true_iff]
  have h1 := sgQ_nonneg h
  rw [decide_eq_false_iff_not] at h1
  omega
/-- What the law of roots asks of the grid with steps of 1 / P. -/
theorem roots_facts (q : Rat) {P : Nat} (hP : 0 < P) : Rat.divInt 1 (P : Int) ≠ 0 ∧ (0 : Int) ≤ sgQ (q - Rat.divInt (q.num * (P : Int) / (q.den : Int)) (P : Int)) ∧
    cmpQ (q - Rat.divInt (q.num * (P : Int) / (q.den : Int)) (P : Int)) (Rat.divInt 1 (P : Int)) = -1 ∧
    ((Rat.divInt (q.num * (P : Int) / (q.den : Int)) (P : Int) * (Rat.divInt 1 (P : Int))⁻¹).den : Int) = 1 := by
  have hp : (0 : Int) < (P : Int) := by omega
  refine ⟨?_, ?_, ?_, ?_⟩
  · rw [Ne, ← Rat.zero_divInt (P : Int), Rat.divInt_eq_divInt_iff (by omega) (by omega)]; omega
  · rw [Rat.sub_eq_add_neg]; exact of_decide_eq_true (sgQ_nn (grid_low hp))
  · rw [Rat.sub_eq_add_neg]; exact cmpQ_lt (grid_high hp)
  · rw [grid_whole hp]; rfl
end Lw
namespace Go.Proofs.YtdecmhcojdnokaaGreatDoor
open Go Go.RowKit Lw
section
variable {W0 w : World} {bs : List Bx} {L : List En} {ts : List Bt} {M : List Qn} {s b : Bool} {A A' : Option Addr} {n c n' c' k : Nat} {q : Rat}
theorem froot_any (HE : FEnv W0 w bs L ts M) (h : ⟨.agg #[.bool s, .slice A n c, .slice A' n' c'], q, k, b⟩ ∈ M) (hk : k ≤ 20000) :
    Calls Tryz.prog 48 #[.agg #[.bool s, .slice A n c, .slice A' n' c']] w (fun e w' => ∃ (s : Bool) (A : Option Addr) (n c : Nat) (A' : Option Addr) (n' c' : Nat) (ok : Bool) (r : Rat),
      e = .returned (.tuple #[.agg #[.bool s, .slice A n c, .slice A' n' c'], .bool ok]) ∧ ((ok = true ∧ r * r = q ∧ 0 ≤ r) ∨ (ok = false ∧ r = 0)) ∧ FEnv W0 w' bs L ts (⟨.agg #[.bool s, .slice A n c, .slice A' n' c'], r, k + 2 + (k + 2), true⟩ :: M)) := by
  by_cases hn : Sq q.num
  · by_cases hd : Sq (q.den : Int)
    · obtain ⟨r, r1, r2, r3, r4⟩ := root_form (x := rt q.num.natAbs) (y := rt (q.den : Int).natAbs) hn.2 (Int.ofNat_inj.1 (by rw [Int.natCast_mul]; exact hd.2))
      refine (froot_yes HE h hk hn hd (r := r) r1 (by rw [r2])).mono ?_
      rintro e w' ⟨s, A, n, c, A', n', c', rfl, he⟩
      exact ⟨s, A, n, c, A', n', c', true, r, rfl, .inl ⟨rfl, r3, r4⟩, he⟩
    · refine (froot_no1 HE h hk hn hd).mono ?_
      rintro e w' ⟨rfl, he⟩
      exact ⟨false, none, 0, 0, none, 0, 0, false, 0, rfl, .inr ⟨rfl, rfl⟩, he.zero _⟩
  · refine (froot_no0 HE h hk hn).mono ?_
    rintro e w' ⟨rfl, he⟩
    exact ⟨false, none, 0, 0, none, 0, 0, false, 0, rfl, .inr ⟨rfl, rfl⟩, he.zero _⟩
theorem froot_sq (HE : FEnv W0 w bs L ts M) (h : ⟨.agg #[.bool s, .slice A n c, .slice A' n' c'], q * q, k, b⟩ ∈ M) (hk : k ≤ 20000) :
    Calls Tryz.prog 48 #[.agg #[.bool s, .slice A n c, .slice A' n' c']] w (fun e w' => ∃ (s : Bool) (A : Option Addr) (n c : Nat) (A' : Option Addr) (n' c' : Nat), e = .returned (.tuple #[.agg #[.bool s, .slice A n c, .slice A' n' c'], .bool true]) ∧ FEnv W0 w' bs L ts (⟨.agg #[.bool s, .slice A n c, .slice A' n' c'], absQ q, k + 2 + (k + 2), true⟩ :: M)) :=
  froot_yes HE h hk (root_sq q).1 (root_sq q).2.1 (root_sq q).2.2.1 (root_sq q).2.2.2
theorem froot_sqv {v : Value} (HE : FEnv W0 w bs L ts M) (h : ⟨v, q * q, k, b⟩ ∈ M) (hk : k ≤ 20000) :
    Calls Tryz.prog 48 #[v] w (fun e w' => ∃ (s : Bool) (A : Option Addr) (n c : Nat) (A' : Option Addr) (n' c' : Nat), e = .returned (.tuple #[.agg #[.bool s, .slice A n c, .slice A' n' c'], .bool true]) ∧ FEnv W0 w' bs L ts (⟨.agg #[.bool s, .slice A n c, .slice A' n' c'], absQ q, k + 2 + (k + 2), true⟩ :: M)) := by
  obtain ⟨s, A, n, c, A', n', c', e1⟩ := (HE.fr _ h).shape
  dsimp only at e1
  subst e1
  exact froot_sq HE h hk
theorem fgrid_v {v : Value} {m : Nat} (HE : FEnv W0 w bs L ts M) (h : ⟨v, q, k, b⟩ ∈ M) (hk : k ≤ 8000) (hm : m ≤ 256) :
    Calls Tryz.prog 47 #[v, .int .i64 m] w (GotE W0 bs L ts M (Rat.divInt (q.num * ((2 ^ m : Nat) : Int) / (q.den : Int)) ((2 ^ m : Nat) : Int)) (2 * k + 60)) := by
  obtain ⟨s, A, n, c, A', n', c', e1⟩ := (HE.fr _ h).shape
  dsimp only at e1
  subst e1
  exact fgrid_f HE h hk hm
theorem fabs_v {v : Value} (HE : FEnv W0 w bs L ts M) (h : ⟨v, q, k, b⟩ ∈ M) (hk : k ≤ 100000) :
    Calls Tryz.prog 30 #[v] w (GotV W0 bs L ts M (absQ q) k) := by
  obtain ⟨s, A, n, c, A', n', c', e1⟩ := (HE.fr _ h).shape
  dsimp only at e1
  subst e1
  exact (fabs_f HE h hk).mono fun _ _ hh => GotV.of hh
theorem fneg_v {v : Value} (HE : FEnv W0 w bs L ts M) (h : ⟨v, q, k, b⟩ ∈ M) (hk : k ≤ 100000) :
    Calls Tryz.prog 28 #[v] w (GotV W0 bs L ts M (-q) k) := by
  obtain ⟨s, A, n, c, A', n', c', e1⟩ := (HE.fr _ h).shape
  dsimp only at e1
  subst e1
  exact (fneg_f HE h hk).mono fun _ _ hh => GotV.of hh
theorem fparts_v {v : Value} (HE : FEnv W0 w bs L ts M) (h : ⟨v, q, k, b⟩ ∈ M) (hk : k ≤ 100000) :
    Calls Tryz.prog 15 #[v] w (GotP W0 bs L ts M q.num (q.den : Int) (k + 2)) := by
  obtain ⟨s, A, n, c, A', n', c', e1⟩ := (HE.fr _ h).shape
  dsimp only at e1
  subst e1
  exact fparts_f HE h hk
theorem fsub_w {v v' : Value} {r : Rat} {k' : Nat} {b' : Bool} (HE : FEnv W0 w bs L ts M) (h : ⟨v, q, k, b⟩ ∈ M) (h' : ⟨v', r, k', b'⟩ ∈ M) (hk : k + k' ≤ 8000) :
    Calls Tryz.prog 36 #[v, v'] w (GotQ W0 bs L ts M (q - r) (k + k' + 2)) := by
  obtain ⟨s, A, n, c, A', n', c', e1⟩ := (HE.fr _ h).shape
  obtain ⟨t, B, m, d, B', m', d', e2⟩ := (HE.fr _ h').shape
  dsimp only at e1 e2
  subst e1 e2
  exact fsub_f HE h h' hk
theorem ftext_v {v : Value} (HE : FEnv W0 w bs L ts M) (h : ⟨v, q, k, b⟩ ∈ M) (hk : k ≤ 40000) :
    Calls Tryz.prog 58 #[v] w (fun e w' => e = .returned (.string ⟨(qtxt q).toArray⟩) ∧ FEnv W0 w' bs L ts M) := by
  obtain ⟨s, A, n, c, A', n', c', e1⟩ := (HE.fr _ h).shape
  dsimp only at e1
  subst e1
  exact ftext_f HE h hk
theorem froot_anyv {v : Value} (HE : FEnv W0 w bs L ts M) (h : ⟨v, q, k, b⟩ ∈ M) (hk : k ≤ 20000) :
    Calls Tryz.prog 48 #[v] w (fun e w' => ∃ (s : Bool) (A : Option Addr) (n c : Nat) (A' : Option Addr) (n' c' : Nat) (ok : Bool) (r : Rat),
      e = .returned (.tuple #[.agg #[.bool s, .slice A n c, .slice A' n' c'], .bool ok]) ∧ ((ok = true ∧ r * r = q ∧ 0 ≤ r) ∨ (ok = false ∧ r = 0)) ∧ FEnv W0 w' bs L ts (⟨.agg #[.bool s, .slice A n c, .slice A' n' c'], r, k + 2 + (k + 2), true⟩ :: M)) := by
  obtain ⟨s, A, n, c, A', n', c', e1⟩ := (HE.fr _ h).shape
  dsimp only at e1
  subst e1
  exact froot_any HE h hk
end
end Go.Proofs.YtdecmhcojdnokaaGreatDoor
/-! Walk of fraction: From at a denominator above 0, and at 0. -/
namespace Go.Proofs.YtdecmhcojdnokaaGreatDoor
open Go Go.RowKit Lw
section
variable {W0 w : World} {bs : List Bx} {L : List En} {ts : List Bt} {M : List Qn} {s s' : Bool} {A A' : Option Addr} {n c n' c' k k' : Nat} {x y : Int} {b b' : Bool}
set_option maxRecDepth 100000 in
set_option maxHeartbeats 1600000 in
theorem frompos_f (HE : FEnv W0 w bs L ts M) (h : ⟨.agg #[.bool s, .slice A n c], x, k, b⟩ ∈ L) (h' : ⟨.agg #[.bool s', .slice A' n' c'], y, k', b'⟩ ∈ L) (hk : k + k' ≤ 40000) (hy : 0 < y) :
    Calls Tryz.prog 14 #[.agg #[.bool s, .slice A n c], .agg #[.bool s', .slice A' n' c']] w (GotE W0 bs L ts M (Rat.divInt x y) (k + 1 + (k' + 1))) := by
  refine Calls.mono (R := GotE w [] L [] M (Rat.divInt x y) (k + 1 + (k' + 1))) ?_ fun _ _ hh => GotE.of HE hh
  replace HE := ((HE.here.box2 (.bool s) (.slice A n c)).box2 (.bool s') (.slice A' n' c')).box3 (.bool false) (.slice none 0 0) (.slice none 0 0)
  simp only [World.size_alloc] at HE
  have HS := Lib.hid (show signI y = 1 by unfold signI; rw [if_neg (by omega), if_neg (by omega)])
  have HY := Lib.hid hy
  clear hy
  obtain ⟨q0, q1, q2, q3⟩ := HE.c2 (.head _)
  obtain ⟨q4, q5, q6, q7⟩ := HE.c2 (.tail _ (.head _))
  go_enter Tryz.func14, Tryz.ntmps14
  go_wp2_with fail
  refine (isign_f HE h' (by omega)).mono ?_
  rw [HS.out]
  clear HE
  rintro e w1 ⟨rfl, HE⟩
  clear q0 q1 q2 q3 q4 q5 q6 q7
  obtain ⟨q0, q1, q2, q3⟩ := HE.c2 (.head _)
  obtain ⟨q4, q5, q6, q7⟩ := HE.c2 (.tail _ (.head _))
  go_wp2_with fail
  refine (reduce_f HE h h' hk HY.out).mono ?_
  clear HE
  rintro e w2 ⟨sx, Ax, nx, cx, Ay, ny, cy, rfl, HE⟩
  clear q0 q1 q2 q3 q4 q5 q6 q7
  obtain ⟨q0, q1, q2, q3, q4, q5⟩ := HE.c3 (.head _)
  have TF := (HE.tri3 (.head _)).put (.bool sx) (.slice Ax nx cx) (.slice Ay ny cy)
  go_wp2_with fail
  obtain ⟨x0, x1, x2, -, -, -⟩ := TF.cells
  refine bodyPost_ret (v := .tuple #[.agg #[.bool sx, .slice Ax nx cx, .slice Ay ny cy], .nilIface]) (by simp [results, Tryz.results14, go_sem, x0, x1, x2]) rfl ?_
  exact ⟨_, _, _, _, _, _, _, rfl, (HE.done3 (D := Ax) (m := nx) (d := cx) (.head _) sx (.slice Ay ny cy)).bare⟩
set_option maxRecDepth 100000 in
set_option maxHeartbeats 1600000 in
theorem fromz_f (HE : FEnv W0 w bs L ts M) (h' : ⟨.agg #[.bool s', .slice A' n' c'], y, k', b'⟩ ∈ L) (hk : k' ≤ 40000) (hy : y = 0) :
    Calls Tryz.prog 14 #[.agg #[.bool s, .slice A n c], .agg #[.bool s', .slice A' n' c']] w (fun e w' => e = .returned (errV 8) ∧ FEnv W0 w' bs L ts M) := by
  refine Calls.mono (R := fun e w' => e = .returned (errV 8) ∧ FEnv w w' [] L [] M) ?_ fun _ _ hh => ⟨hh.1, HE.back hh.2⟩
  replace HE := ((HE.here.box2 (.bool s) (.slice A n c)).box2 (.bool s') (.slice A' n' c')).box3 (.bool false) (.slice none 0 0) (.slice none 0 0)
  simp only [World.size_alloc] at HE
  have HS := Lib.hid (show signI y = 0 by unfold signI; rw [if_neg (by omega), if_pos hy])
  clear hy
  obtain ⟨q0, q1, q2, q3⟩ := HE.c2 (.head _)
  go_enter Tryz.func14, Tryz.ntmps14
  go_wp2_with fail
  refine (isign_f HE h' (by omega)).mono ?_
  rw [HS.out]
  clear HE
  rintro e w1 ⟨rfl, HE⟩
  clear q0 q1 q2 q3
  obtain ⟨q0, q1, q2, q3, q4, q5⟩ := HE.c3 (.head _)
  have TF := (HE.tri3 (.head _)).put (.bool false) (.slice none 0 0) (.slice none 0 0)
  go_wp2_with fail
  obtain ⟨x0, x1, x2, -, -, -⟩ := TF.cells
  refine bodyPost_ret (v := errV 8) (by simp [errV, results, Tryz.results14, go_sem, x0, x1, x2]) rfl ?_
  exact ⟨rfl, (HE.done3 (D := none) (m := 0) (d := 0) (.head _) false (.slice none 0 0)).bare⟩
end
end Go.Proofs.YtdecmhcojdnokaaGreatDoor
