/- More of what the laws' walks keep: quotients, divisors, roots. -/
import Derived.Test.YtobffffcihlkbaaDoorEnvs
import Derived.Test.YtobffffcihlkbaaDoorDivs
import Derived.Test.YtobffffcihlkbaaDoorGcdl
import Derived.Test.YtobffffcihlkbaaDoorRootl
namespace Lw
open Go Go.RowKit
theorem lt_div {x y : Int} {k : Nat} (hy : y ≠ 0) (h : x.natAbs < pw k) : (x / y).natAbs < pw (k + 1) := by
  have h1 := Int.emod_add_mul_ediv x y
  have h2 := Int.emod_nonneg x hy
  have h3 := Int.emod_lt x hy
  have h4 : y.natAbs * (x / y).natAbs = (x - x % y).natAbs := by
    rw [← Int.natAbs_mul]; congr 1; omega
  have h5 : (x - x % y).natAbs + 1 ≤ x.natAbs + y.natAbs := by omega
  have hq : (x / y).natAbs ≤ x.natAbs + 1 := by
    generalize (x / y).natAbs = q at *
    generalize y.natAbs = d at *
    refine Nat.le_of_not_lt fun hlt => ?_
    have hd : 1 ≤ d := by omega
    have h6 : d * (x.natAbs + 2) ≤ d * q := Nat.mul_le_mul_left _ hlt
    have h7 : 1 * x.natAbs ≤ d * x.natAbs := Nat.mul_le_mul_right _ hd
    rw [Nat.mul_add] at h6
    omega
  have := pw_pos k
  rw [pw_succ]; omega
theorem lt_mod {x y : Int} {k : Nat} (hy : y ≠ 0) (h : y.natAbs < pw k) : (x % y).natAbs < pw k := by
  have h2 := Int.emod_nonneg x hy
  have h3 := Int.emod_lt x hy
  omega
theorem lt_gcd {x y k k' : Nat} (h : x < pw k) (h' : y < pw k') : ((Nat.gcd x y : Nat) : Int).natAbs < pw (k + k') := by
  rw [Int.natAbs_natCast]
  have h1 : pw k ≤ pw (k + k') := pw_le (by omega)
  have h2 : pw k' ≤ pw (k + k') := pw_le (by omega)
  rcases Nat.eq_zero_or_pos x with e | e
  · subst e; rw [Nat.gcd_zero_left]; omega
  · have := Nat.gcd_le_left y e; omega
theorem lt_rt {x k : Nat} (h : x < pw k) : ((rt x : Nat) : Int).natAbs < pw k := by
  rw [Int.natAbs_natCast]
  have h1 := rt_le x
  rcases Nat.eq_zero_or_pos (rt x) with e | e
  · rw [e]; exact pw_pos k
  · have := Nat.mul_le_mul_left (rt x) e
    omega
end Lw
namespace Go.Proofs.YtobffffcihlkbaaDoor
open Go Go.RowKit Lw
section
variable {t : TypeId} {W0 w : World} {bs : List Bx} {L : List En} {v v' : Value} {x y : Int} {k k' : Nat} {b b' : Bool}
theorem own_opd {w : World} {z : Int} {K : Nat} {A : Option Addr} {c : Nat} (hr : Rd w w.heap.size A (mg z)) (hc : (mg z).length ≤ c) (hz : z.natAbs < pw K) : Opd w ⟨.agg #[.bool (sg z), .slice A (mg z).length c], z, K, true⟩ :=
  ⟨sg z, A, _, c, mg z, _, rfl, hr, Nat.le_refl _, rfl, len_z hz, hc, zv_own z, vB_own z⟩
theorem div_env (HE : Env t W0 w bs L) (h : ⟨v, x, k, b⟩ ∈ L) (h' : ⟨v', y, k', b'⟩ ∈ L) (hk : k + k' ≤ 100000) (hy : y ≠ 0) :
    Calls Tryd.prog 7 #[v, v'] w fun e w' => ∃ (s s' : Bool) (D D' : Option Addr) (m d m' d' : Nat), e = .returned (.tuple #[.agg #[.bool s, .slice D m d], .agg #[.bool s', .slice D' m' d'], .nilIface]) ∧ Env t W0 w' bs (⟨.agg #[.bool s, .slice D m d], x / y, k + 1, true⟩ :: ⟨.agg #[.bool s', .slice D' m' d'], x % y, k', true⟩ :: L) := by
  have H1 := HE.ops _ h
  have H2 := HE.ops _ h'
  have hz := lt_div hy H1.lt
  have hz' := lt_mod (x := x) hy H2.lt
  obtain ⟨s, A, n, c, ns, B, e1, h2, h3, h4, h5, h6, e7, h8⟩ := H1
  obtain ⟨s', A', n', c', ns', B', e1', h2', h3', h4', h5', h6', e7', h8'⟩ := H2
  dsimp only at e1 e7 e1' e7' h5 h5' hz hz'
  subst e1 e1' e7 e7'
  refine (divs_any s s' A A' ns ns' n n' c c' B B' w h2 h2' h3 h3' h4 h4' (by omega) (by omega) h6 h6' hy (.inr longOK)).mono fun e w' hh => ?_
  obtain ⟨A3, c3, A4, c4, rfl, hc3, hc4, hr3, hr4, hb⟩ := hh
  exact ⟨_, _, _, _, _, _, _, _, rfl, ((HE.next hb).cons (own_opd hr4 hc4 hz')).cons (own_opd hr3 hc3 hz)⟩
theorem divz_env (HE : Env t W0 w bs L) (h : ⟨v, x, k, b⟩ ∈ L) (h' : ⟨v', y, k', b'⟩ ∈ L) (hk : k + k' ≤ 100000) (hy : y = 0) :
    Calls Tryd.prog 7 #[v, v'] w fun e w' => e = .returned (.tuple #[.agg #[.bool false, .slice none 0 0], .agg #[.bool false, .slice none 0 0], .iface 48 (.int .i64 8)]) ∧ Env t W0 w' bs L := by
  have H1 := HE.ops _ h
  have H2 := HE.ops _ h'
  obtain ⟨s, A, n, c, ns, B, e1, h2, h3, h4, h5, h6, e7, h8⟩ := H1
  obtain ⟨s', A', n', c', ns', B', e1', h2', h3', h4', h5', h6', e7', h8'⟩ := H2
  dsimp only at e1 e7 e1' e7' h5 h5'
  subst e1 e1' e7 e7'
  exact (divzero_any s s' A A' ns ns' n n' c c' B B' w h2 h2' h3 h3' h4 h4' (by omega) (by omega) h6 h6' hy).mono fun e w' hh => ⟨hh.1, HE.next hh.2⟩
theorem gcd_env (HE : Env t W0 w bs L) (h : ⟨v, x, k, b⟩ ∈ L) (h' : ⟨v', y, k', b'⟩ ∈ L) (hk : k + k' ≤ 100000) :
    Calls Tryd.prog 13 #[v, v'] w fun e w' => ∃ (s : Bool) (D : Option Addr) (m d : Nat), e = .returned (.agg #[.bool s, .slice D m d]) ∧ Env t W0 w' bs (⟨.agg #[.bool s, .slice D m d], ((Nat.gcd x.natAbs y.natAbs : Nat) : Int), k + k', true⟩ :: L) := by
  have H1 := HE.ops _ h
  have H2 := HE.ops _ h'
  have hz := lt_gcd H1.lt H2.lt
  obtain ⟨s, A, n, c, ns, B, e1, h2, h3, h4, h5, h6, e7, h8⟩ := H1
  obtain ⟨s', A', n', c', ns', B', e1', h2', h3', h4', h5', h6', e7', h8'⟩ := H2
  dsimp only at e1 e7 e1' e7' h5 h5' hz
  subst e1 e1' e7 e7'
  refine (gcds_any s s' A A' ns ns' n n' c c' B B' w h2 h2' h3 h3' h4 h4' (by omega) (by omega) h6 h6').mono fun e w' hh => ?_
  obtain ⟨A3, c3, rfl, hc3, hr3, hb⟩ := hh
  exact ⟨_, _, _, _, rfl, (HE.next hb).cons (own_opd hr3 hc3 hz)⟩
theorem root_env (HE : Env t W0 w bs L) (h : ⟨v, x, k, b⟩ ∈ L) (hk : k ≤ 100000) (hx : 0 ≤ x) :
    Calls Tryd.prog 8 #[v] w fun e w' => ∃ (s : Bool) (D : Option Addr) (m d : Nat), e = .returned (.tuple #[.agg #[.bool s, .slice D m d], .nilIface]) ∧ Env t W0 w' bs (⟨.agg #[.bool s, .slice D m d], ((rt x.natAbs : Nat) : Int), k, true⟩ :: L) := by
  have H1 := HE.ops _ h
  have hz := lt_rt H1.lt
  obtain ⟨s, A, n, c, ns, B, e1, h2, h3, h4, h5, h6, e7, h8⟩ := H1
  dsimp only at e1 e7 h5 hz
  subst e1 e7
  refine (roots_any s A ns n c B w h2 h3 h4 (by omega) h6 hx (.inr rootOK)).mono fun e w' hh => ?_
  obtain ⟨A3, c3, rfl, hc3, hr3, hb⟩ := hh
  exact ⟨_, _, _, _, rfl, (HE.next hb).cons (own_opd hr3 hc3 hz)⟩
end
end Go.Proofs.YtobffffcihlkbaaDoor
