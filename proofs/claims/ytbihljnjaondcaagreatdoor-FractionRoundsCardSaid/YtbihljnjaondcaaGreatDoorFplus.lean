/- Walk of fraction: plus. -/
import Derived.Test.YtbihljnjaondcaaGreatDoorFshort
namespace Lw
open Go
theorem mul_pw {q r : Rat} {k k' : Nat} (h1 : q.num.natAbs < pw k ∧ q.den < pw (k + 1)) (h2 : r.num.natAbs < pw k' ∧ r.den < pw (k' + 1)) : (q * r).num.natAbs < pw (k + k' + 2) ∧ (q * r).den < pw (k + k' + 2) := by
  have hb := mul_bound q r
  have e1 := Nat.mul_lt_mul'' h1.1 h2.1
  have e3 := Nat.mul_lt_mul'' h1.2 h2.2
  rw [← pw_add] at e1 e3
  rw [show k + 1 + (k' + 1) = k + k' + 2 by omega] at e3
  have e4 : pw (k + k') ≤ pw (k + k' + 2) := pw_le (by omega)
  omega
theorem Fop.weak {w : World} {v : Value} {q : Rat} {k K : Nat} {b : Bool} (h : Fop w ⟨v, q, k, b⟩) (hk : k ≤ K) : Fop w ⟨v, q, K, b⟩ := by
  obtain ⟨s, A, n, c, A', n', c', ns, ms, e1, r1, r2, e2, e3, e4, e5, e6⟩ := h
  exact ⟨s, A, n, c, A', n', c', ns, ms, e1, r1, r2, e2, e3, Nat.le_trans e4 hk, Nat.le_trans e5 hk, e6⟩
end Lw
namespace Go.Proofs.YtbihljnjaondcaaGreatDoor
open Go Go.RowKit Lw
section
variable {W0 w : World} {bs : List Bx} {L : List En} {ts : List Bt} {M : List Qn} {s s' : Bool} {A A' B B' : Option Addr} {n c n' c' m d m' d' k k' : Nat} {q r : Rat} {x y : Int}
theorem FEnv.tlq {e : Qn} (h : FEnv W0 w bs L ts (e :: M)) : FEnv W0 w bs L ts M := ⟨h.env, fun e' he => h.fr e' (.tail _ he), h.tri, h.tz, h.tab, h.lo, h.lot⟩
theorem FEnv.hd {v : Value} {q : Rat} {k K : Nat} {b : Bool} (h : FEnv W0 w bs L ts (⟨v, q, k, b⟩ :: M)) (hk : Fop w ⟨v, q, k, b⟩ → Fop w ⟨v, q, K, b⟩) : FEnv W0 w bs L ts (⟨v, q, K, b⟩ :: M) := h.tlq.cons (hk (h.fr _ (.head _)))
theorem ratio_f (HE : FEnv W0 w bs L ts M) (n1 : -9223372036854775808 ≤ x) (n2 : x ≤ 9223372036854775807) (d0 : 0 < y) (d2 : y ≤ 9223372036854775807) :
    Calls Tryz.prog 150 #[.int .i64 x, .int .i64 y] w (GotQ W0 bs L ts M (Rat.divInt x y) 2) := by
  refine (ratio_any x y w n1 n2 (by omega) d2 (by omega) (HE.tz.next HE.below)).mono fun e w' hh => ?_
  obtain ⟨A, c, A', c', rfl, hc, hc', hr, hr', hb⟩ := hh
  have hl := divInt_le (n := x) d0
  have hp : pw 2 = 18446744073709551616 := rfl
  exact ⟨_, _, _, _, _, _, _, rfl, (HE.next hb).cons (own_fop hr hr' (len_z (by omega)) (len_rd (by omega)) hc hc')⟩
end
end Go.Proofs.YtbihljnjaondcaaGreatDoor
