/- Walks of integer: smallDivisor, smallRoot. -/
import Derived.Test.YtajlehaminddiaaDoorDivw
import Derived.Lib.ItoaNum
namespace Lw
open Go Go.RowKit
/-- The greatest number whose square is at most N. -/
def rtF : Nat → Nat → Nat
  | 0, _ => 0
  | f + 1, N => if (f + 1) * (f + 1) ≤ N then f + 1 else rtF f N
def rt (N : Nat) : Nat := rtF N N
theorem rtF_spec (f N : Nat) (h : N < (f + 1) * (f + 1)) : rtF f N * rtF f N ≤ N ∧ N < (rtF f N + 1) * (rtF f N + 1) := by
  induction f with
  | zero => unfold rtF; omega
  | succ f ih =>
    unfold rtF
    split
    · rename_i h1; exact ⟨h1, h⟩
    · rename_i h1; exact ih (by omega)
theorem rt_le (N : Nat) : rt N * rt N ≤ N := (rtF_spec N N (by have := Nat.le_mul_self (N + 1); omega)).1
theorem rt_lt (N : Nat) : N < (rt N + 1) * (rt N + 1) := (rtF_spec N N (by have := Nat.le_mul_self (N + 1); omega)).2
theorem rt_eq {N r : Nat} (h1 : r * r ≤ N) (h2 : N < (r + 1) * (r + 1)) : r = rt N := by
  have h3 := rt_le N
  have h4 := rt_lt N
  rcases Nat.lt_trichotomy r (rt N) with h | h | h
  · have : (r + 1) * (r + 1) ≤ rt N * rt N := Nat.mul_le_mul h h
    omega
  · exact h
  · have : (rt N + 1) * (rt N + 1) ≤ r * r := Nat.mul_le_mul h h
    omega
theorem rt_le_of {N x : Nat} (h : N < (x + 1) * (x + 1)) : rt N ≤ x := by
  have h3 := rt_le N
  rcases Nat.lt_or_ge x (rt N) with h1 | h1
  · have : (x + 1) * (x + 1) ≤ rt N * rt N := Nat.mul_le_mul h1 h1
    omega
  · exact h1
theorem le_rt {N x : Nat} (h : x * x ≤ N) : x ≤ rt N := by
  have h4 := rt_lt N
  rcases Nat.lt_or_ge (rt N) x with h1 | h1
  · have : (rt N + 1) * (rt N + 1) ≤ x * x := Nat.mul_le_mul h1 h1
    omega
  · exact h1
/-- A step of Newton's method stays at or above the root. -/
theorem newton_ge {N x : Nat} (hx : 0 < x) : rt N ≤ (x + N / x) / 2 := by
  have h1 := rt_le N
  have h2 : 2 * (x * rt N) ≤ x * x + rt N * rt N := by
    rcases Nat.le_total x (rt N) with h | h
    · obtain ⟨d, hd⟩ := Nat.exists_eq_add_of_le h
      rw [hd]; grind
    · obtain ⟨d, hd⟩ := Nat.exists_eq_add_of_le h
      generalize rt N = r at *
      subst hd; grind
  have h3 : x * (2 * rt N - x) ≤ N := by
    rw [Nat.mul_sub]
    have : x * (2 * rt N) = 2 * (x * rt N) := by rw [Nat.mul_left_comm]
    omega
  have h4 : 2 * rt N - x ≤ N / x := by rw [Nat.le_div_iff_mul_le hx, Nat.mul_comm]; exact h3
  omega
theorem newton_end {N x : Nat} (hx : 0 < x) (h : rt N ≤ x) (h2 : x ≤ (x + N / x) / 2) : x = rt N := by
  have h3 : x ≤ N / x := by omega
  rw [Nat.le_div_iff_mul_le hx] at h3
  have := le_rt h3
  omega
theorem quo_le {N x : Nat} (h : rt N ≤ x) (hx : 0 < x) : N / x ≤ x + 2 := by
  have h1 := rt_lt N
  have h2 : (rt N + 1) * (rt N + 1) ≤ (x + 1) * (x + 1) := Nat.mul_le_mul (by omega) (by omega)
  have h3 : (x + 1) * (x + 1) = x * (x + 2) + 1 := by grind
  have h4 : N / x < x + 3 := by
    rw [Nat.div_lt_iff_lt_mul hx, Nat.mul_comm]
    have : x * (x + 3) = x * (x + 2) + x := by grind
    omega
  omega
theorem rt_pos {N : Nat} (h : N ≠ 0) : 1 ≤ rt N := le_rt (by omega)
theorem rt_lt_of_sq {N x : Nat} (h : N < x * x) : rt N < x := by
  have := rt_le N
  rcases Nat.lt_or_ge (rt N) x with h1 | h1
  · exact h1
  · have : x * x ≤ rt N * rt N := Nat.mul_le_mul h1 h1
    omega
theorem bitLen_spec {x : Nat} (h0 : x ≠ 0) (h : x < 18446744073709551616) : 1 ≤ Lib.bitLen x ∧ 2 ^ (Lib.bitLen x - 1) ≤ x ∧ x < 2 ^ Lib.bitLen x ∧ Lib.bitLen x ≤ 64 := by
  have h2 : x < 2 ^ 64 := by simpa using h
  obtain ⟨a, b, c⟩ := Lib.bitLenAux_bounds 64 x h2 h0
  exact ⟨a, b, c, Lib.bitLen_le x 64 (by omega) h2⟩
/-- Where Newton's method begins. -/
theorem start_ge {x : Nat} (h0 : x ≠ 0) (h : x < 18446744073709551616) : rt x ≤ 2 ^ ((Lib.bitLen x + 1) / 2) ∧ 2 ^ ((Lib.bitLen x + 1) / 2) ≤ 4294967296 ∧ 1 ≤ 2 ^ ((Lib.bitLen x + 1) / 2) := by
  obtain ⟨h1, h2, h3, h4⟩ := bitLen_spec h0 h
  refine ⟨Nat.le_of_lt (rt_lt_of_sq ?_), ?_, Nat.pow_pos (by omega)⟩
  · rw [← Nat.pow_add]
    exact Nat.lt_of_lt_of_le h3 (Nat.pow_le_pow_right (by omega) (by omega))
  · have : 2 ^ ((Lib.bitLen x + 1) / 2) ≤ 2 ^ 32 := Nat.pow_le_pow_right (by omega) (by omega)
    simpa using this
end Lw
namespace Go.Proofs.YtajlehaminddiaaDoor
open Go Go.RowKit Lw
set_option maxHeartbeats 800000 in
theorem smallDivisor_any (x y : Nat) (w : World) (hx : x ≤ 18446744073709551615) (hy : y ≤ 18446744073709551615) :
    Calls Tryd.prog 87 #[.int .u64 x, .int .u64 y] w fun e w' => e = .returned (.int .u64 ((Nat.gcd x y : Nat) : Int)) ∧ ∃ q, w' = w.drewN q := by
  go_enter Tryd.func87, Tryd.ntmps87
  go_wp2
  go_loopw [0, 1] (fun a b wr => ∃ u v q : Nat, u ≤ 18446744073709551615 ∧ v ≤ 18446744073709551615 ∧ a = .int .u64 u ∧ b = .int .u64 v ∧ Hid (Nat.gcd u v = Nat.gcd x y) ∧ wr = w.drewN q) (fun _ b _ => (intOf b).toNat)
  case atStart => exact ⟨x, y, 0, hx, hy, rfl, rfl, Lib.hid rfl, rfl⟩
  case round =>
    obtain ⟨u, v, q, hu, hv, rfl, rfl, hg, rfl⟩ := hrel
    by_cases h0 : v = 0
    · subst h0
      have HG : Hid (u = Nat.gcd x y) := Lib.hid (by rw [← hg.out, Nat.gcd_zero_right])
      go_wp2
      go_ret
      exact ⟨ret_int (by rw [← HG.out]), q, rfl⟩
    · have HG : Hid (Nat.gcd v (u % v) = Nat.gcd x y) := Lib.hid (by rw [← hg.out, Nat.gcd_comm u v, Nat.gcd_rec v u, Nat.gcd_comm])
      have hm := Nat.mod_lt u (show 0 < v by omega)
      have HM := Lib.hid hm
      clear hm
      have hv1 : 1 ≤ v := by omega
      have hbq : ((v : Int) != 0) = true := by rw [bne_iff_ne]; omega
      clear h0
      go_wp2
      go_quiet (fail)
      go_wp2
      go_roundw
      case rel => exact ⟨v, u % v, q + nq, hv, by have := HM.out; omega, rfl, congrArg _ (Int.natCast_emod u v).symm, HG, by rw [World.drewN_drewN]⟩
      case measure =>
        show ((u : Int) % (v : Int)).toNat < ((v : Int)).toNat
        rw [← Int.natCast_emod, Int.toNat_natCast, Int.toNat_natCast]
        exact HM.out

set_option maxHeartbeats 800000 in
theorem smallRoot_any (x : Nat) (w : World) (hx : x ≤ 18446744073709551615) :
    Calls Tryd.prog 81 #[.int .u64 x] w fun e w' => e = .returned (.int .u64 ((rt x : Nat) : Int)) ∧ w = w' := by
  by_cases h0 : x = 0
  · subst h0
    go_enter Tryd.func81, Tryd.ntmps81
    go_wp2
    go_ret
    exact ⟨rfl, rfl⟩
  · obtain ⟨s1, s2, s3⟩ := start_ge h0 (by omega)
    have hbl := (Lw.bitLen_spec h0 (by omega)).2.2.2
    have S1 := Lib.hid s1
    have hbq : ((x : Int) == 0) = false := by rw [beq_eq_false_iff_ne]; omega
    have hk : ∀ w, Calls Tryd.prog 96 #[.int .u64 (x : Int)] w fun e w' => e = .returned (.int .i64 ((Lib.bitLen x : Nat) : Int)) ∧ w = w' := fun w => (Tryd.bits_Len64 x w (by omega) (by omega)).mono fun e w' h => ⟨by rw [h.1, Int.toNat_natCast], h.2.symm⟩
    have Hk := Lib.hid hk
    clear hk s1
    generalize Lib.bitLen x = L at *
    obtain ⟨P, hP⟩ : ∃ P : Nat, P = 2 ^ ((L + 1) / 2) := ⟨_, rfl⟩
    rw [← hP] at S1 s2 s3
    have hw : IntKind.u64.wrap (2 ^ ((L + 1) / 2)) = (P : Int) := by
      have e : ((P : Nat) : Int) = 2 ^ ((L + 1) / 2) := by rw [hP]; simp
      rw [← e]
      exact IntWalk.u64_in _ (by omega)
    clear hP
    go_enter Tryd.func81, Tryd.ntmps81
    go_wp2_with fail
    refine (Hk.out _).mono ?_
    rintro e w1 ⟨rfl, rfl⟩
    go_wp2_with fail
    go_loop [3, 4] (fun v _ => ∃ u : Nat, 1 ≤ u ∧ u ≤ 4294967296 ∧ v = .int .u64 u ∧ Hid (rt x ≤ u)) (fun v _ => (intOf v).toNat)
    case atStart => exact ⟨P, s3, s2, congrArg (Value.int .u64) hw, S1⟩
    case round =>
      obtain ⟨u, hu, hu2, rfl, hr⟩ := hrel
      have hge := newton_ge (N := x) (x := u) hu
      have hend := newton_end (N := x) (x := u) hu hr.out
      have hq2 := quo_le hr.out hu
      have hq : IntKind.u64.wrap ((x : Int) / (u : Int)) = ((x / u : Nat) : Int) := by
        rw [← Int.natCast_ediv]
        exact IntWalk.u64_in _ (by have := Nat.div_le_self x u; generalize x / u = Q at *; omega)
      obtain ⟨Q, hQ⟩ : ∃ Q, Q = x / u := ⟨_, rfl⟩
      rw [← hQ] at hge hend hq2 hq
      clear hQ
      have HE := Lib.hid hend
      have HG := Lib.hid hge
      clear hend hge hw
      by_cases hd : u ≤ (u + Q) / 2
      · have HR := Lib.hid (HE.out hd)
        go_wp2_with fail
        go_ret
        exact ⟨ret_int (by rw [← HR.out]), rfl⟩
      · go_wp2_with fail
        go_round
        case rel => exact ⟨(u + Q) / 2, by have := HG.out; have := rt_pos h0; omega, by omega, by go_num, HG⟩
        case measure => simp [intOf]; omega
end Go.Proofs.YtajlehaminddiaaDoor
