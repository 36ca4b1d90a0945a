/- Rational numbers: numerator and denominator of sums, products, quotients, as the program finds them. -/
import Derived.Test.YtdecmhcojdnokaaGreatDoorNum
import Derived.Lib.TrailingZeros
namespace Lw
theorem rat_mk {n : Int} {d : Nat} {n' : Int} {d' : Nat} (hd : d ≠ 0) (hd' : d' ≠ 0) (hc : n'.natAbs.Coprime d') (h : n' * d = n * d') : (mkRat n d).num = n' ∧ (mkRat n d).den = d' := by
  have e : mkRat n d = ⟨n', d', hd', hc⟩ := by
    rw [← Rat.mkRat_self ⟨n', d', hd', hc⟩, Rat.mkRat_eq_iff hd hd']
    exact h.symm
  rw [e]; exact ⟨rfl, rfl⟩
theorem rat_neg (a : Rat) : (-a).num = -a.num ∧ (-a).den = a.den := ⟨rfl, rfl⟩
theorem rat_norm {n : Int} {d : Nat} (hd : d ≠ 0) : (mkRat n d).num = n / (n.natAbs.gcd d : Nat) ∧ (mkRat n d).den = d / n.natAbs.gcd d := by
  rw [← Rat.normalize_eq_mkRat hd, Rat.normalize_eq]
  exact ⟨rfl, rfl⟩
theorem rat_may {n : Int} {d g : Nat} (h1 h2 h3 h4) : (Rat.maybeNormalize n d g h1 h2 h3 h4).num = n / (g : Int) ∧ (Rat.maybeNormalize n d g h1 h2 h3 h4).den = d / g := by
  unfold Rat.maybeNormalize
  split
  · rename_i h
    subst h
    exact ⟨(Int.ediv_one _).symm, (Nat.div_one _).symm⟩
  · exact ⟨Int.divExact_eq_ediv h1, Nat.divExact_eq_div h2⟩
theorem rat_add (a b : Rat) (g g1 : Nat) (hg : g = a.den.gcd b.den) (hg1 : g1 = (a.num * ((b.den / g : Nat) : Int) + b.num * ((a.den / g : Nat) : Int)).natAbs.gcd g) :
    (a + b).num = (a.num * ((b.den / g : Nat) : Int) + b.num * ((a.den / g : Nat) : Int)) / (g1 : Int) ∧ (a + b).den = (a.den / g) * (b.den / g1) := by
  show (Rat.add a b).num = _ ∧ (Rat.add a b).den = _
  unfold Rat.add
  simp only []
  split
  · rename_i h
    rw [← hg] at h
    rw [h] at hg1 ⊢
    rw [Nat.gcd_one_right] at hg1
    subst hg1
    simp only [Nat.div_one]
    exact ⟨by simp, trivial⟩
  · rename_i h
    have hm := rat_may (n := a.num * ((b.den / a.den.gcd b.den : Nat) : Int) + b.num * ((a.den / a.den.gcd b.den : Nat) : Int)) (d := a.den / a.den.gcd b.den * b.den)
      (g := (a.num * ((b.den / a.den.gcd b.den : Nat) : Int) + b.num * ((a.den / a.den.gcd b.den : Nat) : Int)).natAbs.gcd (a.den.gcd b.den))
    subst hg
    subst hg1
    have hd : ∀ t : Nat, (t.gcd (a.den.gcd b.den)) ∣ b.den := fun t => Nat.dvd_trans (Nat.gcd_dvd_right t _) (Nat.gcd_dvd_right _ _)
    refine ⟨(hm _ _ _ _).1, ?_⟩
    rw [(hm _ _ _ _).2, Nat.mul_div_assoc _ (hd _)]
theorem rat_mul (a b : Rat) (g h : Nat) (hg : g = a.num.natAbs.gcd b.den) (hh : h = b.num.natAbs.gcd a.den) :
    (a * b).num = (a.num / (g : Int)) * (b.num / (h : Int)) ∧ (a * b).den = (a.den / h) * (b.den / g) := by
  show (Rat.mul a b).num = _ ∧ (Rat.mul a b).den = _
  unfold Rat.mul
  subst hg hh
  simp only [Int.divExact_eq_ediv, Nat.divExact_eq_div]
  exact ⟨trivial, trivial⟩
theorem rat_inv {a : Rat} (h : a ≠ 0) : (a⁻¹).num = (if a.num < 0 then -(a.den : Int) else a.den) ∧ (a⁻¹).den = a.num.natAbs := by
  show (Rat.inv a).num = _ ∧ (Rat.inv a).den = _
  unfold Rat.inv
  have h0 : a.num ≠ 0 := fun e => h (Rat.num_eq_zero.1 e)
  split
  · exact ⟨rfl, rfl⟩
  · split
    · exact ⟨rfl, rfl⟩
    · omega
theorem rat_div (a b : Rat) : a / b = a * b⁻¹ := Rat.div_def a b
/-- The one fraction in lowest terms. -/
theorem rat_eq {a : Rat} {n : Int} {d : Nat} (hd : d ≠ 0) (hc : n.natAbs.Coprime d) (h : mkRat n d = a) : a.num = n ∧ a.den = d := by
  subst h
  exact rat_mk hd hd hc rfl
theorem rat_floor (a : Rat) : a.floor = a.num / (a.den : Int) := by
  show Rat.floor a = _
  unfold Rat.floor
  split
  · rename_i h; rw [h]; simp
  · rfl
end Lw
/-! The binary algorithm for the greatest common divisor of two words. -/
namespace Lw
open Go
def tz (x : Nat) : Nat := Lib.ctz 64 x
theorem tz_spec {x : Nat} (h0 : x ≠ 0) (h : x < 18446744073709551616) : ∃ m, x = 2 ^ tz x * (2 * m + 1) ∧ tz x < 64 := by
  unfold tz Lib.ctz
  rw [if_neg h0]
  exact Lib.ctzFrom_spec 64 x (by omega) h
theorem odd_cop (m k : Nat) : Nat.Coprime (2 ^ k) (2 * m + 1) := by
  apply Nat.Coprime.pow_left
  unfold Nat.Coprime
  rw [Nat.gcd_rec, show (2 * m + 1) % 2 = 1 by omega]
  rfl
theorem pow_dvd_odd {j k m : Nat} (h : 2 ^ j ∣ 2 ^ k * (2 * m + 1)) : j ≤ k := by
  have h1 : 2 ^ j ∣ 2 ^ k := Nat.Coprime.dvd_of_dvd_mul_right (odd_cop m j) h
  exact (Nat.pow_dvd_pow_iff_le_right (by omega)).1 h1
theorem or_dvd {j x y : Nat} : 2 ^ j ∣ (x ||| y) ↔ 2 ^ j ∣ x ∧ 2 ^ j ∣ y := by
  rw [Nat.dvd_iff_mod_eq_zero, Nat.dvd_iff_mod_eq_zero, Nat.dvd_iff_mod_eq_zero, Nat.or_mod_two_pow, Nat.or_eq_zero_iff]
theorem shr_tz {x m : Nat} (h : x = 2 ^ tz x * (2 * m + 1)) : x / 2 ^ tz x = 2 * m + 1 := by
  have hp : 0 < 2 ^ tz x := Nat.pow_pos (by omega)
  generalize 2 ^ tz x = P at *
  rw [h, Nat.mul_div_cancel_left _ hp]
/-- The twos of both are those of x or y. -/
theorem gcd_start {x y : Nat} (hx : x ≠ 0) (hy : y ≠ 0) (hxl : x < 18446744073709551616) (hyl : y < 18446744073709551616) :
    Nat.gcd x y = Nat.gcd (x / 2 ^ tz x) y * 2 ^ tz (x ||| y) ∧ (x / 2 ^ tz x) % 2 = 1 ∧ tz x < 64 ∧ tz (x ||| y) < 64 ∧ x ||| y < 18446744073709551616 := by
  have ho : x ||| y ≠ 0 := fun e => hx (Nat.or_eq_zero_iff.1 e).1
  have hol : x ||| y < 18446744073709551616 := Nat.or_lt_two_pow (n := 64) hxl hyl
  obtain ⟨a, ha, hal⟩ := tz_spec hx hxl
  obtain ⟨b, hb, hbl⟩ := tz_spec hy hyl
  obtain ⟨c, hc, hcl⟩ := tz_spec ho hol
  have e1 := shr_tz ha
  have hd : 2 ^ tz (x ||| y) ∣ (x ||| y) := ⟨_, hc⟩
  obtain ⟨d1, d2⟩ := or_dvd.1 hd
  have l1 : tz (x ||| y) ≤ tz x := pow_dvd_odd (m := a) (by rw [← ha]; exact d1)
  have l2 : tz (x ||| y) ≤ tz y := pow_dvd_odd (m := b) (by rw [← hb]; exact d2)
  have l3 : ¬ (tz (x ||| y) + 1 ≤ tz x ∧ tz (x ||| y) + 1 ≤ tz y) := by
    rintro ⟨k1, k2⟩
    have f1 : 2 ^ (tz (x ||| y) + 1) ∣ x := Nat.dvd_trans (Nat.pow_dvd_pow 2 k1) ⟨_, ha⟩
    have f2 : 2 ^ (tz (x ||| y) + 1) ∣ y := Nat.dvd_trans (Nat.pow_dvd_pow 2 k2) ⟨_, hb⟩
    have := pow_dvd_odd (m := c) (j := tz (x ||| y) + 1) (k := tz (x ||| y)) (by rw [← hc]; exact or_dvd.2 ⟨f1, f2⟩)
    omega
  refine ⟨?_, by rw [e1]; omega, hal, hcl, hol⟩
  rw [e1]
  generalize tz (x ||| y) = t at *
  clear hd d1 d2 e1 hc ho hol
  generalize tz x = i at *
  generalize tz y = j at *
  subst ha hb
  rw [Nat.Coprime.gcd_mul_left_cancel_right _ (odd_cop a j)]
  rcases Nat.lt_or_ge t i with h1 | h1
  · obtain rfl : j = t := by omega
    obtain ⟨k, rfl⟩ := Nat.exists_eq_add_of_le l1
    rw [Nat.pow_add, Nat.mul_assoc, Nat.gcd_mul_left, Nat.mul_comm]
    congr 1
    exact Nat.Coprime.gcd_mul_left_cancel _ (odd_cop b k)
  · obtain rfl : i = t := by omega
    obtain ⟨k, rfl⟩ := Nat.exists_eq_add_of_le l2
    rw [Nat.pow_add, Nat.mul_assoc, Nat.gcd_mul_left, Nat.mul_comm]
    congr 1
    exact Nat.Coprime.gcd_mul_left_cancel_right _ (odd_cop a k)
theorem odd_of {x : Nat} (h : x % 2 = 1) : x = 2 * (x / 2) + 1 := by omega
/-- One round: the smaller of x and the odd part of y, and their difference. -/
theorem gcd_round {x y : Nat} (hx : x % 2 = 1) (hy : y ≠ 0) (hyl : y < 18446744073709551616) :
    Nat.gcd x (y / 2 ^ tz y) = Nat.gcd x y ∧ (y / 2 ^ tz y) % 2 = 1 ∧ y / 2 ^ tz y ≤ y ∧ tz y < 64 := by
  obtain ⟨b, hb, hbl⟩ := tz_spec hy hyl
  have e := shr_tz hb
  refine ⟨?_, by rw [e]; omega, Nat.div_le_self _ _, hbl⟩
  rw [e]
  conv => rhs; rw [hb]
  rw [odd_of hx, Nat.Coprime.gcd_mul_left_cancel_right _ (odd_cop _ _)]
theorem gcd_sub {x y : Nat} (h : x ≤ y) : Nat.gcd x (y - x) = Nat.gcd x y := Nat.gcd_sub_self_right h
end Lw
/-! Fractions: the arithmetic of sums, products, comparisons as the program finds them. -/
namespace Lw
theorem divInt_le {n d : Int} (hd : 0 < d) : (Rat.divInt n d).num.natAbs ≤ n.natAbs ∧ (Rat.divInt n d).den ≤ d.natAbs := by
  constructor
  · rw [Rat.num_divInt, Int.sign_eq_one_of_pos hd, Int.one_mul]; exact Int.natAbs_ediv_le_natAbs _ _
  · rw [Rat.den_divInt, if_neg (by omega)]; exact Nat.div_le_self _ _
theorem den_pos (a : Rat) : (0 : Int) < (a.den : Int) := by have := a.den_pos; omega
theorem den_ne (a : Rat) : (a.den : Int) ≠ 0 := by have := den_pos a; omega
theorem add_ratio (a b : Rat) : a + b = Rat.divInt (a.num * b.den + b.num * a.den) (a.den * b.den) := by
  conv => lhs; rw [← Rat.num_divInt_den a, ← Rat.num_divInt_den b]
  rw [Rat.divInt_add_divInt _ _ (den_ne a) (den_ne b)]
theorem mul_ratio (a b : Rat) : a * b = Rat.divInt (a.num * b.num) (a.den * b.den) := by
  conv => lhs; rw [← Rat.num_divInt_den a, ← Rat.num_divInt_den b]
  rw [Rat.divInt_mul_divInt]
theorem add_bound (a b : Rat) : (a + b).num.natAbs ≤ a.num.natAbs * b.den + b.num.natAbs * a.den ∧ (a + b).den ≤ a.den * b.den := by
  have h := divInt_le (n := a.num * b.den + b.num * a.den) (Int.mul_pos (den_pos a) (den_pos b))
  rw [← add_ratio, Int.natAbs_mul, Int.natAbs_natCast, Int.natAbs_natCast] at h
  refine ⟨Nat.le_trans h.1 (Nat.le_trans (Int.natAbs_add_le _ _) ?_), h.2⟩
  rw [Int.natAbs_mul, Int.natAbs_mul, Int.natAbs_natCast, Int.natAbs_natCast]
  exact Nat.le_refl _
theorem mul_bound (a b : Rat) : (a * b).num.natAbs ≤ a.num.natAbs * b.num.natAbs ∧ (a * b).den ≤ a.den * b.den := by
  have h := divInt_le (n := a.num * b.num) (Int.mul_pos (den_pos a) (den_pos b))
  rw [← mul_ratio, Int.natAbs_mul, Int.natAbs_mul, Int.natAbs_natCast, Int.natAbs_natCast] at h
  exact h
/-- A sum in lowest terms, as plus finds it. -/
theorem add_long (a b : Rat) {g D E S g1 : Int} (hg : g = (Nat.gcd a.den b.den : Nat)) (hD : D = (a.den : Int) / g) (hE : E = (b.den : Int) / g) (hS : S = a.num * E + b.num * D) (hg1 : g1 = (Nat.gcd S.natAbs g.natAbs : Nat)) :
    (a + b).num = S / g1 ∧ ((a + b).den : Int) = D * ((b.den : Int) / g1) ∧ g ≠ 0 ∧ g1 ≠ 0 := by
  have hgp : 0 < Nat.gcd a.den b.den := Nat.gcd_pos_of_pos_left _ a.den_pos
  have h := rat_add a b _ _ rfl rfl
  obtain ⟨G, hG⟩ : ∃ G, G = Nat.gcd a.den b.den := ⟨_, rfl⟩
  rw [← hG] at h hg hgp
  subst hg
  rw [← Int.natCast_ediv] at hD hE
  subst hD hE hS
  rw [Int.natAbs_natCast] at hg1
  subst hg1
  refine ⟨h.1, ?_, by omega, ?_⟩
  · rw [h.2, Int.natCast_mul, Int.natCast_ediv, Int.natCast_ediv]
  · have := Nat.gcd_pos_of_pos_right (a.num * ((b.den / G : Nat) : Int) + b.num * ((a.den / G : Nat) : Int)).natAbs hgp
    omega
/-- A product in lowest terms, as times finds it. -/
theorem mul_long (a b : Rat) {g h : Int} (hg : g = (Nat.gcd a.num.natAbs b.den : Nat)) (hh : h = (Nat.gcd b.num.natAbs a.den : Nat)) :
    (a * b).num = (a.num / g) * (b.num / h) ∧ ((a * b).den : Int) = ((a.den : Int) / h) * ((b.den : Int) / g) ∧ g ≠ 0 ∧ h ≠ 0 := by
  have h1 := rat_mul a b _ _ rfl rfl
  have p1 : 0 < Nat.gcd a.num.natAbs b.den := Nat.gcd_pos_of_pos_right _ b.den_pos
  have p2 : 0 < Nat.gcd b.num.natAbs a.den := Nat.gcd_pos_of_pos_right _ a.den_pos
  subst hg hh
  refine ⟨h1.1, ?_, by omega, by omega⟩
  rw [h1.2, Int.natCast_mul, Int.natCast_ediv, Int.natCast_ediv]
/-- n / d in lowest terms, as reduce finds it. -/
theorem red_long {n d g : Int} (hd : 0 < d) (hg : g = (Nat.gcd n.natAbs d.natAbs : Nat)) : (Rat.divInt n d).num = n / g ∧ ((Rat.divInt n d).den : Int) = d / g ∧ g ≠ 0 := by
  have p1 : 0 < Nat.gcd n.natAbs d.natAbs := Nat.gcd_pos_of_pos_right _ (by omega)
  have e : Int.gcd d n = Nat.gcd n.natAbs d.natAbs := Int.gcd_comm d n
  subst hg
  refine ⟨?_, ?_, by omega⟩
  · rw [Rat.num_divInt, Int.sign_eq_one_of_pos hd, Int.one_mul, e]
  · rw [Rat.den_divInt, if_neg (by omega), e, Int.natCast_ediv, Int.natAbs_of_nonneg (by omega)]
/-- The sign of a - b. -/
def cmpQ (a b : Rat) : Int := if a < b then -1 else if b < a then 1 else 0
/-- The sign of a. -/
def sgQ (a : Rat) : Int := if a < 0 then -1 else if 0 < a then 1 else 0
theorem floor_eq (a : Rat) : a.num / (a.den : Int) = a.floor := (rat_floor a).symm
end Lw
/-! Fractions: the order, roots and grids. -/
namespace Lw
theorem cmpQ_lt {a b : Rat} (h : a < b) : cmpQ a b = -1 := by unfold cmpQ; rw [if_pos h]
theorem cmpQ_gt {a b : Rat} (h : b < a) : cmpQ a b = 1 := by
  unfold cmpQ; rw [if_neg (Rat.not_lt.2 (Rat.le_of_lt h)), if_pos h]
theorem cmpQ_self (a : Rat) : cmpQ a a = 0 := by unfold cmpQ; rw [if_neg Rat.lt_irrefl, if_neg Rat.lt_irrefl]
theorem tri (a b : Rat) : a < b ∨ a = b ∨ b < a := by
  by_cases h1 : a < b
  · exact .inl h1
  · by_cases h2 : b < a
    · exact .inr (.inr h2)
    · exact .inr (.inl (Rat.le_antisymm (Rat.not_lt.1 h2) (Rat.not_lt.1 h1)))
theorem cmpQ_swap (a b : Rat) : cmpQ a b = -cmpQ b a := by
  rcases tri a b with h | h | h
  · rw [cmpQ_lt h, cmpQ_gt h]
  · subst h; rw [cmpQ_self]; rfl
  · rw [cmpQ_lt h, cmpQ_gt h]; rfl
theorem cmpQ_zero {a b : Rat} : cmpQ a b = 0 ↔ a = b := by
  rcases tri a b with h | h | h
  · rw [cmpQ_lt h]; exact ⟨fun e => by simp at e, fun e => by subst e; exact absurd h Rat.lt_irrefl⟩
  · subst h; exact ⟨fun _ => rfl, fun _ => cmpQ_self a⟩
  · rw [cmpQ_gt h]; exact ⟨fun e => by simp at e, fun e => by subst e; exact absurd h Rat.lt_irrefl⟩
theorem cmpQ_le {a b : Rat} : cmpQ a b ≤ 0 ↔ a ≤ b := by
  rcases tri a b with h | h | h
  · rw [cmpQ_lt h]; exact ⟨fun _ => Rat.le_of_lt h, fun _ => by omega⟩
  · subst h; rw [cmpQ_self]; exact ⟨fun _ => Rat.le_refl, fun _ => by omega⟩
  · rw [cmpQ_gt h]; exact ⟨fun e => by simp at e, fun e => absurd h (Rat.not_lt.2 e)⟩
theorem cmpQ_trans {a b c : Rat} (h : cmpQ a b ≤ 0) (h' : cmpQ b c ≤ 0) : cmpQ a c ≤ 0 := cmpQ_le.2 (Rat.le_trans (cmpQ_le.1 h) (cmpQ_le.1 h'))
theorem cmpQ_add (a b c : Rat) : cmpQ (a + c) (b + c) = cmpQ a b := by
  rcases tri a b with h | h | h
  · rw [cmpQ_lt h, cmpQ_lt (Rat.add_lt_add_right.2 h)]
  · subst h; rw [cmpQ_self, cmpQ_self]
  · rw [cmpQ_gt h, cmpQ_gt (Rat.add_lt_add_right.2 h)]
theorem sgQ_neg {a : Rat} (h : a < 0) : sgQ a = -1 := by unfold sgQ; rw [if_pos h]
theorem sgQ_zero : sgQ 0 = 0 := by unfold sgQ; rw [if_neg Rat.lt_irrefl, if_neg Rat.lt_irrefl]
theorem sgQ_pos {a : Rat} (h : 0 < a) : sgQ a = 1 := by unfold sgQ; rw [if_neg (Rat.not_lt.2 (Rat.le_of_lt h)), if_pos h]
theorem cmpQ_mul (a b c : Rat) : cmpQ (a * c) (b * c) = cmpQ a b * sgQ c := by
  rcases tri c 0 with hc | hc | hc
  · have hc' : 0 < -c := by have := Rat.neg_lt_neg (a := c) (b := 0) hc; rwa [show (-0 : Rat) = 0 from rfl] at this
    rw [sgQ_neg hc]
    have e : ∀ x : Rat, x * c = -(x * -c) := fun x => by rw [Rat.mul_neg, Rat.neg_neg]
    rcases tri a b with h | h | h
    · have := Rat.neg_lt_neg (Rat.mul_lt_mul_of_pos_right h hc')
      rw [← e, ← e] at this
      rw [cmpQ_lt h, cmpQ_gt this]; rfl
    · subst h; rw [cmpQ_self, cmpQ_self]; rfl
    · have := Rat.neg_lt_neg (Rat.mul_lt_mul_of_pos_right h hc')
      rw [← e, ← e] at this
      rw [cmpQ_gt h, cmpQ_lt this]; rfl
  · subst hc; rw [Rat.mul_zero, Rat.mul_zero, cmpQ_self, sgQ_zero, Int.mul_zero]
  · rw [sgQ_pos hc, Int.mul_one]
    rcases tri a b with h | h | h
    · rw [cmpQ_lt h, cmpQ_lt (Rat.mul_lt_mul_of_pos_right h hc)]
    · subst h; rw [cmpQ_self, cmpQ_self]
    · rw [cmpQ_gt h, cmpQ_gt (Rat.mul_lt_mul_of_pos_right h hc)]
theorem cmpQ_num (a b : Rat) : cmpQ a b = if a.num * b.den < b.num * a.den then -1 else if a.num * b.den = b.num * a.den then 0 else 1 := by
  rcases tri a b with h | h | h
  · rw [cmpQ_lt h, if_pos ((Rat.lt_iff a b).1 h)]
  · subst h; rw [cmpQ_self, if_neg (by omega), if_pos rfl]
  · have h2 := (Rat.lt_iff b a).1 h
    rw [cmpQ_gt h, if_neg (by omega), if_neg (by omega)]
theorem num_neg {a : Rat} : a.num < 0 ↔ a < 0 := by
  have := Rat.lt_iff a 0
  rw [show (0 : Rat).num = 0 from rfl, show (0 : Rat).den = 1 from rfl] at this
  rw [this]; simp
theorem sgQ_num (a : Rat) : sgQ a = if a.num < 0 then -1 else if a.num = 0 then 0 else 1 := by
  rcases tri a 0 with h | h | h
  · rw [sgQ_neg h, if_pos (num_neg.2 h)]
  · subst h; rw [sgQ_zero]; rfl
  · have h1 : ¬ a.num < 0 := fun e => absurd h (Rat.not_lt.2 (Rat.le_of_lt (num_neg.1 e)))
    have h2 : a.num ≠ 0 := fun e => by rw [Rat.num_eq_zero] at e; subst e; exact Rat.lt_irrefl h
    rw [sgQ_pos h, if_neg h1, if_neg h2]
theorem sub_self_sg (a : Rat) : sgQ (a + -a) = 0 := by rw [Rat.add_neg_cancel, sgQ_zero]
theorem div_back {a b : Rat} (h : b ≠ 0) : cmpQ (a * b⁻¹ * b) a = 0 := by
  rw [cmpQ_zero, Rat.mul_assoc, Rat.inv_mul_cancel b h, Rat.mul_one]
end Lw
namespace Lw
theorem divInt_pos {x y : Int} (hx : 0 < x) (hy : 0 < y) : 0 < Rat.divInt x y := by
  refine Rat.lt_of_le_of_ne (Rat.divInt_nonneg (Int.le_of_lt hx) (Int.le_of_lt hy)) ?_
  intro e
  have h := (Rat.divInt_eq_divInt_iff (d₁ := 1) (d₂ := y) (n₁ := 0) (n₂ := x) (by omega) (by omega)).1 (by rw [← e]; exact Rat.zero_divInt 1)
  simp at h; omega
theorem grid_low {q : Rat} {u : Int} (hu : 0 < u) : 0 ≤ q + -Rat.divInt (q.num * u / (q.den : Int)) u := by
  have hd := den_pos q
  rw [← Rat.sub_eq_add_neg]
  conv => rhs; lhs; rw [← Rat.num_divInt_den q]
  rw [Rat.divInt_sub_divInt _ _ (by omega) (by omega)]
  refine Rat.divInt_nonneg ?_ (Int.le_of_lt (Int.mul_pos hd hu))
  have := Int.mul_ediv_add_emod (q.num * u) (q.den : Int)
  have h2 := Int.emod_nonneg (q.num * u) (show (q.den : Int) ≠ 0 by omega)
  rw [Int.mul_comm (q.num * u / (q.den : Int))]
  omega
theorem grid_high {q : Rat} {u : Int} (hu : 0 < u) : q + -Rat.divInt (q.num * u / (q.den : Int)) u < Rat.divInt 1 u := by
  have hd := den_pos q
  rw [Rat.lt_iff_sub_pos, ← Rat.sub_eq_add_neg]
  conv => rhs; rhs; lhs; rw [← Rat.num_divInt_den q]
  rw [Rat.divInt_sub_divInt _ _ (by omega) (by omega), Rat.divInt_sub_divInt _ _ (by omega) (Int.ne_of_gt (Int.mul_pos hd hu))]
  refine divInt_pos ?_ (Int.mul_pos hu (Int.mul_pos hd hu))
  have := Int.mul_ediv_add_emod (q.num * u) (q.den : Int)
  have h2 := Int.emod_lt_of_pos (q.num * u) hd
  have h3 : (q.num * u - q.num * u / (q.den : Int) * (q.den : Int)) * u < (q.den : Int) * u := by
    refine Int.mul_lt_mul_of_pos_right ?_ hu
    rw [Int.mul_comm (q.num * u / (q.den : Int))]
    omega
  omega
theorem grid_whole {f u : Int} (hu : 0 < u) : (Rat.divInt f u * (Rat.divInt 1 u)⁻¹).den = 1 := by
  rw [Rat.inv_divInt, Rat.divInt_mul_divInt, Int.mul_comm u 1, Rat.divInt_mul_right (by omega)]
  rw [Rat.den_divInt, if_neg (by omega)]
  simp
end Lw
namespace Lw
theorem sq_num (a : Rat) : (a * a).num = a.num * a.num ∧ (a * a).den = a.den * a.den := by
  have h := rat_mul a a _ _ rfl rfl
  rw [show Nat.gcd a.num.natAbs a.den = 1 from a.reduced] at h
  simpa using h
theorem root_form {q : Rat} {x y : Nat} (hx : (x : Int) * (x : Int) = q.num) (hy : y * y = q.den) : ∃ r : Rat, r.num = (x : Int) ∧ r.den = y ∧ r * r = q ∧ 0 ≤ r := by
  have hc : Nat.Coprime (x : Int).natAbs y := by
    have h1 := q.reduced
    rw [← hx, ← hy, Int.natAbs_mul, Int.natAbs_natCast] at h1
    rw [Int.natAbs_natCast]
    exact Nat.Coprime.coprime_dvd_left ⟨x, rfl⟩ (Nat.Coprime.coprime_dvd_right ⟨y, rfl⟩ h1)
  have hy0 : y ≠ 0 := by
    intro e; subst e; exact q.den_nz hy.symm
  refine ⟨⟨x, y, hy0, hc⟩, rfl, rfl, ?_, ?_⟩
  · have := sq_num ⟨x, y, hy0, hc⟩
    exact Rat.ext (this.1.trans hx) (this.2.trans hy)
  · rw [← Rat.num_nonneg]; exact Int.natCast_nonneg x
theorem abs_num (a : Rat) : ∀ r : Rat, r.num = (a.num.natAbs : Int) → r.den = a.den → r = if a < 0 then -a else a := by
  intro r h1 h2
  split
  · rename_i h
    have := num_neg.2 h
    exact Rat.ext (by rw [(rat_neg a).1]; omega) (by rw [(rat_neg a).2]; omega)
  · rename_i h
    have h3 : ¬ a.num < 0 := fun e => h (num_neg.1 e)
    exact Rat.ext (by omega) h2
end Lw
