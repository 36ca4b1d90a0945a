/- The reference's integers over the environment of fractions. -/
import Derived.Test.YtdecmhcojdnokaaGreatDoorFawake
import Derived.Test.YtdecmhcojdnokaaGreatDoorRefm
namespace Go.Proofs.YtdecmhcojdnokaaGreatDoor
open Go Go.RowKit Lw
section
variable {W0 w : World} {bs : List Bx} {L : List En} {ts : List Bt} {M : List Qn} {v v' : Value} {x y : Int} {k k' : Nat} {b b' : Bool}
theorem rof_f {z : Int} (HE : FEnv W0 w bs L ts M) (h1 : -9223372036854775808 ≤ z) (h2 : z ≤ 9223372036854775807) :
    Calls Tryz.prog 71 #[.int .i64 z] w (GotI W0 bs L ts M z 2) := (refof_env HE.env.here h1 h2).mono fun _ _ hh => HE.goti hh
theorem rsign_f (HE : FEnv W0 w bs L ts M) (h : ⟨v, x, k, b⟩ ∈ L) (hk : k ≤ 100000) :
    Calls Tryz.prog 72 #[v] w fun e w' => e = .returned (.int .i64 (signI x)) ∧ FEnv W0 w' bs L ts M := (refsign_env HE.env.here h hk).mono fun _ _ hh => ⟨hh.1, HE.step hh.2⟩
theorem rneg_f (HE : FEnv W0 w bs L ts M) (h : ⟨v, x, k, b⟩ ∈ L) (hk : k ≤ 10000) :
    Calls Tryz.prog 85 #[v] w (GotI W0 bs L ts M (-x) k) := (refneg_env HE.env.here h hk).mono fun _ _ hh => HE.goti hh
theorem radd_f (HE : FEnv W0 w bs L ts M) (h : ⟨v, x, k, b⟩ ∈ L) (h' : ⟨v', y, k', b'⟩ ∈ L) (hk : k ≤ 10000 ∧ k' ≤ 10000) :
    Calls Tryz.prog 87 #[v, v'] w (GotI W0 bs L ts M (x + y) (k + k' + 1)) :=
  (refadd_env HE.env.here h h' hk).mono fun _ _ ⟨A, c, e1, _, _, he⟩ => ⟨_, A, _, c, e1, HE.step he⟩
theorem rmul_f (HE : FEnv W0 w bs L ts M) (h : ⟨v, x, k, b⟩ ∈ L) (h' : ⟨v', y, k', b'⟩ ∈ L) (hk : k ≤ 10000 ∧ k' ≤ 10000) :
    Calls Tryz.prog 83 #[v, v'] w (GotI W0 bs L ts M (x * y) (k + k' + 1)) :=
  (refmul_env HE.env.here h h' hk).mono fun _ _ ⟨A, c, e1, _, _, he⟩ => ⟨_, A, _, c, e1, HE.step he⟩
theorem rcmp_f (HE : FEnv W0 w bs L ts M) (h : ⟨v, x, k, b⟩ ∈ L) (h' : ⟨v', y, k', b'⟩ ∈ L) (hk : k ≤ 10000 ∧ k' ≤ 10000) :
    Calls Tryz.prog 78 #[v, v'] w fun e w' => e = .returned (.int .i64 (cmpI x y)) ∧ FEnv W0 w' bs L ts M := (refcmp_env HE.env.here h h' hk).mono fun _ _ hh => ⟨hh.1, HE.step hh.2⟩
theorem rgcd_f (HE : FEnv W0 w bs L ts M) (h : ⟨v, x, k, b⟩ ∈ L) (h' : ⟨v', y, k', b'⟩ ∈ L) (hk : k + k' ≤ 10000) :
    Calls Tryz.prog 79 #[v, v'] w (GotI W0 bs L ts M ((Nat.gcd x.natAbs y.natAbs : Nat) : Int) (k + k' + 1)) := (refgcd_env HE.env.here h h' hk).mono fun _ _ hh => HE.goti hh
theorem rdiv_f (HE : FEnv W0 w bs L ts M) (h : ⟨v, x, k, b⟩ ∈ L) (h' : ⟨v', y, k', b'⟩ ∈ L) (hk : k + k' ≤ 10000) (hy : y ≠ 0) :
    Calls Tryz.prog 95 #[v, v'] w fun e w' => ∃ (s s' : Bool) (D D' : Option Addr) (m d m' d' : Nat), e = .returned (.tuple #[.agg #[.bool s, .slice D m d], .agg #[.bool s', .slice D' m' d'], .int .i64 0]) ∧
      FEnv W0 w' bs (⟨.agg #[.bool s, .slice D m d], x / y, k + 1, true⟩ :: ⟨.agg #[.bool s', .slice D' m' d'], x % y, k', true⟩ :: L) ts M := by
  have H1 := HE.env.ops _ h
  have H2 := HE.env.ops _ h'
  have hz := lt_div hy H1.lt
  have hz' := lt_mod (x := x) hy H2.lt
  obtain ⟨s, A, n, c, ns, B, e1, h2, h3, h4, h5, h6, e7, h8⟩ := H1
  obtain ⟨s', A', n', c', ns', B', e1', h2', h3', h4', h5', h6', e7', h8'⟩ := H2
  dsimp only at e1 e7 e1' e7' h5 h5' hz hz'
  subst e1 e1' e7 e7'
  refine (refDiv_any s s' A A' ns ns' n n' c c' B B' w h2 h2' h3 h3' h4 h4' (by omega) (by omega) h6 h6' hy).mono ?_
  rintro e w' ⟨A9, A8, c9, c8, rfl, hc9, hc8, hr9, hr8, hb⟩
  exact ⟨_, _, A9, A8, _, c9, _, c8, rfl, ((HE.next hb).push (own_opd hr8 hc8 hz')).push (own_opd hr9 hc9 hz)⟩
end
end Go.Proofs.YtdecmhcojdnokaaGreatDoor
