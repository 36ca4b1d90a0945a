/- Rational numbers: numerator and denominator of sums, products, quotients, as the program finds them. -/
import Derived.Test.YtbihljnjaondcaaGreatDoorNum
import Derived.Lib.TrailingZeros
namespace Lw
theorem rat_neg (a : Rat) : (-a).num = -a.num ∧ (-a).den = a.den := ⟨rfl, rfl⟩
theorem rat_mul (a b : Rat) (g h : Nat) (hg : g = a.num.natAbs.gcd b.den) (hh : h = b.num.natAbs.gcd a.den) :
    (a * b).num = (a.num / (g : Int)) * (b.num / (h : Int)) ∧ (a * b).den = (a.den / h) * (b.den / g) := by
  show (Rat.mul a b).num = _ ∧ (Rat.mul a b).den = _
  unfold Rat.mul
  subst hg hh
  simp only [Int.divExact_eq_ediv, Nat.divExact_eq_div]
  exact ⟨trivial, trivial⟩
theorem rat_inv {a : Rat} (h : a ≠ 0) : (a⁻¹).num = (if a.num < 0 then -(a.den : Int) else a.den) ∧ (a⁻¹).den = a.num.natAbs := by
  show (Rat.inv a).num = _ ∧ (Rat.inv a).den = _
  unfold Rat.inv
  have h0 : a.num ≠ 0 := fun e => h (Rat.num_eq_zero.1 e)
  split
  · exact ⟨rfl, rfl⟩
  · split
    · exact ⟨rfl, rfl⟩
    · omega
theorem rat_floor (a : Rat) : a.floor = a.num / (a.den : Int) := by
  show Rat.floor a = _
  unfold Rat.floor
  split
  · rename_i h; rw [h]; simp
  · rfl
end Lw
/-! The binary algorithm for the greatest common divisor of two words. -/
namespace Lw
open Go
def tz (x : Nat) : Nat := Lib.ctz 64 x
theorem tz_spec {x : Nat} (h0 : x ≠ 0) (h : x < 18446744073709551616) : ∃ m, x = 2 ^ tz x * (2 * m + 1) ∧ tz x < 64 := by
  unfold tz Lib.ctz
  rw [if_neg h0]
  exact Lib.ctzFrom_spec 64 x (by omega) h
theorem odd_cop (m k : Nat) : Nat.Coprime (2 ^ k) (2 * m + 1) := by
  apply Nat.Coprime.pow_left
  unfold Nat.Coprime
  rw [Nat.gcd_rec, show (2 * m + 1) % 2 = 1 by omega]
  rfl
theorem pow_dvd_odd {j k m : Nat} (h : 2 ^ j ∣ 2 ^ k * (2 * m + 1)) : j ≤ k := by
  have h1 : 2 ^ j ∣ 2 ^ k := Nat.Coprime.dvd_of_dvd_mul_right (odd_cop m j) h
  exact (Nat.pow_dvd_pow_iff_le_right (by omega)).1 h1
theorem or_dvd {j x y : Nat} : 2 ^ j ∣ (x ||| y) ↔ 2 ^ j ∣ x ∧ 2 ^ j ∣ y := by
  rw [Nat.dvd_iff_mod_eq_zero, Nat.dvd_iff_mod_eq_zero, Nat.dvd_iff_mod_eq_zero, Nat.or_mod_two_pow, Nat.or_eq_zero_iff]
theorem shr_tz {x m : Nat} (h : x = 2 ^ tz x * (2 * m + 1)) : x / 2 ^ tz x = 2 * m + 1 := by
  have hp : 0 < 2 ^ tz x := Nat.pow_pos (by omega)
  generalize 2 ^ tz x = P at *
  rw [h, Nat.mul_div_cancel_left _ hp]
/-- The twos of both are those of x or y. -/
theorem gcd_start {x y : Nat} (hx : x ≠ 0) (hy : y ≠ 0) (hxl : x < 18446744073709551616) (hyl : y < 18446744073709551616) :
    Nat.gcd x y = Nat.gcd (x / 2 ^ tz x) y * 2 ^ tz (x ||| y) ∧ (x / 2 ^ tz x) % 2 = 1 ∧ tz x < 64 ∧ tz (x ||| y) < 64 ∧ x ||| y < 18446744073709551616 := by
  have ho : x ||| y ≠ 0 := fun e => hx (Nat.or_eq_zero_iff.1 e).1
  have hol : x ||| y < 18446744073709551616 := Nat.or_lt_two_pow (n := 64) hxl hyl
  obtain ⟨a, ha, hal⟩ := tz_spec hx hxl
  obtain ⟨b, hb, hbl⟩ := tz_spec hy hyl
  obtain ⟨c, hc, hcl⟩ := tz_spec ho hol
  have e1 := shr_tz ha
  have hd : 2 ^ tz (x ||| y) ∣ (x ||| y) := ⟨_, hc⟩
  obtain ⟨d1, d2⟩ := or_dvd.1 hd
  have l1 : tz (x ||| y) ≤ tz x := pow_dvd_odd (m := a) (by rw [← ha]; exact d1)
  have l2 : tz (x ||| y) ≤ tz y := pow_dvd_odd (m := b) (by rw [← hb]; exact d2)
  have l3 : ¬ (tz (x ||| y) + 1 ≤ tz x ∧ tz (x ||| y) + 1 ≤ tz y) := by
    rintro ⟨k1, k2⟩
    have f1 : 2 ^ (tz (x ||| y) + 1) ∣ x := Nat.dvd_trans (Nat.pow_dvd_pow 2 k1) ⟨_, ha⟩
    have f2 : 2 ^ (tz (x ||| y) + 1) ∣ y := Nat.dvd_trans (Nat.pow_dvd_pow 2 k2) ⟨_, hb⟩
    have := pow_dvd_odd (m := c) (j := tz (x ||| y) + 1) (k := tz (x ||| y)) (by rw [← hc]; exact or_dvd.2 ⟨f1, f2⟩)
    omega
  refine ⟨?_, by rw [e1]; omega, hal, hcl, hol⟩
  rw [e1]
  generalize tz (x ||| y) = t at *
  clear hd d1 d2 e1 hc ho hol
  generalize tz x = i at *
  generalize tz y = j at *
  subst ha hb
  rw [Nat.Coprime.gcd_mul_left_cancel_right _ (odd_cop a j)]
  rcases Nat.lt_or_ge t i with h1 | h1
  · obtain rfl : j = t := by omega
    obtain ⟨k, rfl⟩ := Nat.exists_eq_add_of_le l1
    rw [Nat.pow_add, Nat.mul_assoc, Nat.gcd_mul_left, Nat.mul_comm]
    congr 1
    exact Nat.Coprime.gcd_mul_left_cancel _ (odd_cop b k)
  · obtain rfl : i = t := by omega
    obtain ⟨k, rfl⟩ := Nat.exists_eq_add_of_le l2
    rw [Nat.pow_add, Nat.mul_assoc, Nat.gcd_mul_left, Nat.mul_comm]
    congr 1
    exact Nat.Coprime.gcd_mul_left_cancel_right _ (odd_cop a k)
theorem odd_of {x : Nat} (h : x % 2 = 1) : x = 2 * (x / 2) + 1 := by omega
/-- One round: the smaller of x and the odd part of y, and their difference. -/
theorem gcd_round {x y : Nat} (hx : x % 2 = 1) (hy : y ≠ 0) (hyl : y < 18446744073709551616) :
    Nat.gcd x (y / 2 ^ tz y) = Nat.gcd x y ∧ (y / 2 ^ tz y) % 2 = 1 ∧ y / 2 ^ tz y ≤ y ∧ tz y < 64 := by
  obtain ⟨b, hb, hbl⟩ := tz_spec hy hyl
  have e := shr_tz hb
  refine ⟨?_, by rw [e]; omega, Nat.div_le_self _ _, hbl⟩
  rw [e]
  conv => rhs; rw [hb]
  rw [odd_of hx, Nat.Coprime.gcd_mul_left_cancel_right _ (odd_cop _ _)]
theorem gcd_sub {x y : Nat} (h : x ≤ y) : Nat.gcd x (y - x) = Nat.gcd x y := Nat.gcd_sub_self_right h
end Lw
/-! Fractions: the arithmetic of sums, products, comparisons as the program finds them. -/
namespace Lw
theorem divInt_le {n d : Int} (hd : 0 < d) : (Rat.divInt n d).num.natAbs ≤ n.natAbs ∧ (Rat.divInt n d).den ≤ d.natAbs := by
  constructor
  · rw [Rat.num_divInt, Int.sign_eq_one_of_pos hd, Int.one_mul]; exact Int.natAbs_ediv_le_natAbs _ _
  · rw [Rat.den_divInt, if_neg (by omega)]; exact Nat.div_le_self _ _
theorem den_pos (a : Rat) : (0 : Int) < (a.den : Int) := by have := a.den_pos; omega
theorem den_ne (a : Rat) : (a.den : Int) ≠ 0 := by have := den_pos a; omega
theorem mul_ratio (a b : Rat) : a * b = Rat.divInt (a.num * b.num) (a.den * b.den) := by
  conv => lhs; rw [← Rat.num_divInt_den a, ← Rat.num_divInt_den b]
  rw [Rat.divInt_mul_divInt]
theorem mul_bound (a b : Rat) : (a * b).num.natAbs ≤ a.num.natAbs * b.num.natAbs ∧ (a * b).den ≤ a.den * b.den := by
  have h := divInt_le (n := a.num * b.num) (Int.mul_pos (den_pos a) (den_pos b))
  rw [← mul_ratio, Int.natAbs_mul, Int.natAbs_mul, Int.natAbs_natCast, Int.natAbs_natCast] at h
  exact h
/-- A product in lowest terms, as times finds it. -/
theorem mul_long (a b : Rat) {g h : Int} (hg : g = (Nat.gcd a.num.natAbs b.den : Nat)) (hh : h = (Nat.gcd b.num.natAbs a.den : Nat)) :
    (a * b).num = (a.num / g) * (b.num / h) ∧ ((a * b).den : Int) = ((a.den : Int) / h) * ((b.den : Int) / g) ∧ g ≠ 0 ∧ h ≠ 0 := by
  have h1 := rat_mul a b _ _ rfl rfl
  have p1 : 0 < Nat.gcd a.num.natAbs b.den := Nat.gcd_pos_of_pos_right _ b.den_pos
  have p2 : 0 < Nat.gcd b.num.natAbs a.den := Nat.gcd_pos_of_pos_right _ a.den_pos
  subst hg hh
  refine ⟨h1.1, ?_, by omega, by omega⟩
  rw [h1.2, Int.natCast_mul, Int.natCast_ediv, Int.natCast_ediv]
/-- n / d in lowest terms, as reduce finds it. -/
theorem red_long {n d g : Int} (hd : 0 < d) (hg : g = (Nat.gcd n.natAbs d.natAbs : Nat)) : (Rat.divInt n d).num = n / g ∧ ((Rat.divInt n d).den : Int) = d / g ∧ g ≠ 0 := by
  have p1 : 0 < Nat.gcd n.natAbs d.natAbs := Nat.gcd_pos_of_pos_right _ (by omega)
  have e : Int.gcd d n = Nat.gcd n.natAbs d.natAbs := Int.gcd_comm d n
  subst hg
  refine ⟨?_, ?_, by omega⟩
  · rw [Rat.num_divInt, Int.sign_eq_one_of_pos hd, Int.one_mul, e]
  · rw [Rat.den_divInt, if_neg (by omega), e, Int.natCast_ediv, Int.natAbs_of_nonneg (by omega)]
theorem floor_eq (a : Rat) : a.num / (a.den : Int) = a.floor := (rat_floor a).symm
end Lw
/-! Fractions: the order, roots and grids. -/
namespace Lw
theorem tri (a b : Rat) : a < b ∨ a = b ∨ b < a := by
  by_cases h1 : a < b
  · exact .inl h1
  · by_cases h2 : b < a
    · exact .inr (.inr h2)
    · exact .inr (.inl (Rat.le_antisymm (Rat.not_lt.1 h2) (Rat.not_lt.1 h1)))
end Lw
namespace Lw
end Lw
namespace Lw
theorem sq_num (a : Rat) : (a * a).num = a.num * a.num ∧ (a * a).den = a.den * a.den := by
  have h := rat_mul a a _ _ rfl rfl
  rw [show Nat.gcd a.num.natAbs a.den = 1 from a.reduced] at h
  simpa using h
theorem root_form {q : Rat} {x y : Nat} (hx : (x : Int) * (x : Int) = q.num) (hy : y * y = q.den) : ∃ r : Rat, r.num = (x : Int) ∧ r.den = y ∧ r * r = q ∧ 0 ≤ r := by
  have hc : Nat.Coprime (x : Int).natAbs y := by
    have h1 := q.reduced
    rw [← hx, ← hy, Int.natAbs_mul, Int.natAbs_natCast] at h1
    rw [Int.natAbs_natCast]
    exact Nat.Coprime.coprime_dvd_left ⟨x, rfl⟩ (Nat.Coprime.coprime_dvd_right ⟨y, rfl⟩ h1)
  have hy0 : y ≠ 0 := by
    intro e; subst e; exact q.den_nz hy.symm
  refine ⟨⟨x, y, hy0, hc⟩, rfl, rfl, ?_, ?_⟩
  · have := sq_num ⟨x, y, hy0, hc⟩
    exact Rat.ext (this.1.trans hx) (this.2.trans hy)
  · rw [← Rat.num_nonneg]; exact Int.natCast_nonneg x
end Lw
