/- The reference of fractions, Min and Max on any value at hand. -/
import Derived.Test.YtdecmhcojdnokaaGreatDoorFrefm
import Derived.Test.YtdecmhcojdnokaaGreatDoorFrts
namespace Go.Proofs.YtdecmhcojdnokaaGreatDoor
open Go Go.RowKit Lw
section
variable {W0 w : World} {bs : List Bx} {L : List En} {ts : List Bt} {M : List Qn} {v v' : Value} {q r : Rat} {k k' : Nat} {b b' : Bool}
theorem rfneg_v (HE : FEnv W0 w bs L ts M) (h : ⟨v, q, k, b⟩ ∈ M) (hk : k ≤ 900) :
    Calls Tryz.prog 29 #[v] w (GotV W0 bs L ts M (-q) (k + 1)) := by
  obtain ⟨s, A, n, c, A', n', c', e1⟩ := (HE.fr _ h).shape
  dsimp only at e1
  subst e1
  exact (rfneg_f HE h (by omega)).mono fun _ _ hh => GotV.of hh
theorem rfabs_v (HE : FEnv W0 w bs L ts M) (h : ⟨v, q, k, b⟩ ∈ M) (hk : k ≤ 900) :
    Calls Tryz.prog 31 #[v] w (GotV W0 bs L ts M (absQ q) (k + 2)) := by
  obtain ⟨s, A, n, c, A', n', c', e1⟩ := (HE.fr _ h).shape
  dsimp only at e1
  subst e1
  exact (rfabs_f HE h (by omega)).mono fun _ _ hh => GotV.of hh
theorem rfsign_v (HE : FEnv W0 w bs L ts M) (h : ⟨v, q, k, b⟩ ∈ M) (hk : k ≤ 900) :
    Calls Tryz.prog 33 #[v] w fun e w' => e = .returned (.int .i64 (sgQ q)) ∧ FEnv W0 w' bs L ts M := by
  obtain ⟨s, A, n, c, A', n', c', e1⟩ := (HE.fr _ h).shape
  dsimp only at e1
  subst e1
  exact rfsign_f HE h (by omega)
theorem rfadd_v (HE : FEnv W0 w bs L ts M) (h : ⟨v, q, k, b⟩ ∈ M) (h' : ⟨v', r, k', b'⟩ ∈ M) (hk : k + k' ≤ 800) :
    Calls Tryz.prog 35 #[v, v'] w (GotV W0 bs L ts M (q + r) (k + k' + 2)) := by
  obtain ⟨s, A, n, c, A', n', c', e1⟩ := (HE.fr _ h).shape
  obtain ⟨t, B, m, d, B', m', d', e2⟩ := (HE.fr _ h').shape
  dsimp only at e1 e2
  subst e1 e2
  exact (rfadd_f HE h h' (by omega)).mono fun _ _ hh => GotV.of hh
theorem rfsub_v (HE : FEnv W0 w bs L ts M) (h : ⟨v, q, k, b⟩ ∈ M) (h' : ⟨v', r, k', b'⟩ ∈ M) (hk : k + k' ≤ 800) :
    Calls Tryz.prog 37 #[v, v'] w (GotV W0 bs L ts M (q - r) (k + (k' + 1) + 2)) := by
  obtain ⟨s, A, n, c, A', n', c', e1⟩ := (HE.fr _ h).shape
  obtain ⟨t, B, m, d, B', m', d', e2⟩ := (HE.fr _ h').shape
  dsimp only at e1 e2
  subst e1 e2
  exact (rfsub_f HE h h' (by omega)).mono fun _ _ hh => GotV.of hh
theorem rfmul_v (HE : FEnv W0 w bs L ts M) (h : ⟨v, q, k, b⟩ ∈ M) (h' : ⟨v', r, k', b'⟩ ∈ M) (hk : k + k' ≤ 800) :
    Calls Tryz.prog 39 #[v, v'] w (GotV W0 bs L ts M (q * r) (k + k' + 2)) := by
  obtain ⟨s, A, n, c, A', n', c', e1⟩ := (HE.fr _ h).shape
  obtain ⟨t, B, m, d, B', m', d', e2⟩ := (HE.fr _ h').shape
  dsimp only at e1 e2
  subst e1 e2
  exact (rfmul_f HE h h' (by omega)).mono fun _ _ hh => GotV.of hh
theorem rfmin_v (HE : FEnv W0 w bs L ts M) (h : ⟨v, q, k, b⟩ ∈ M) (h' : ⟨v', r, k', b'⟩ ∈ M) (hk : k + k' ≤ 800) :
    Calls Tryz.prog 43 #[v, v'] w (GotV W0 bs L ts M (minQ q r) (k + k' + 2)) := by
  obtain ⟨s, A, n, c, A', n', c', e1⟩ := (HE.fr _ h).shape
  obtain ⟨t, B, m, d, B', m', d', e2⟩ := (HE.fr _ h').shape
  dsimp only at e1 e2
  subst e1 e2
  exact (rfmin_f HE h h' (by omega)).mono fun _ _ hh => GotV.of hh
theorem rfmax_v (HE : FEnv W0 w bs L ts M) (h : ⟨v, q, k, b⟩ ∈ M) (h' : ⟨v', r, k', b'⟩ ∈ M) (hk : k + k' ≤ 800) :
    Calls Tryz.prog 45 #[v, v'] w (GotV W0 bs L ts M (maxQ q r) (k + k' + 2)) := by
  obtain ⟨s, A, n, c, A', n', c', e1⟩ := (HE.fr _ h).shape
  obtain ⟨t, B, m, d, B', m', d', e2⟩ := (HE.fr _ h').shape
  dsimp only at e1 e2
  subst e1 e2
  exact (rfmax_f HE h h' (by omega)).mono fun _ _ hh => GotV.of hh
theorem rfcmp_v (HE : FEnv W0 w bs L ts M) (h : ⟨v, q, k, b⟩ ∈ M) (h' : ⟨v', r, k', b'⟩ ∈ M) (hk : k + k' ≤ 800) :
    Calls Tryz.prog 41 #[v, v'] w fun e w' => e = .returned (.int .i64 (cmpQ q r)) ∧ FEnv W0 w' bs L ts M := by
  obtain ⟨s, A, n, c, A', n', c', e1⟩ := (HE.fr _ h).shape
  obtain ⟨t, B, m, d, B', m', d', e2⟩ := (HE.fr _ h').shape
  dsimp only at e1 e2
  subst e1 e2
  exact rfcmp_f HE h h' (by omega)
theorem fmin_v (HE : FEnv W0 w bs L ts M) (h : ⟨v, q, k, b⟩ ∈ M) (h' : ⟨v', r, k', b'⟩ ∈ M) (hk : k + k' ≤ 8000) :
    Calls Tryz.prog 42 #[v, v'] w (GotV W0 bs L ts M (minQ q r) (k + k')) := by
  obtain ⟨s, A, n, c, A', n', c', e1⟩ := (HE.fr _ h).shape
  obtain ⟨t, B, m, d, B', m', d', e2⟩ := (HE.fr _ h').shape
  dsimp only at e1 e2
  subst e1 e2
  exact (fmin_f HE h h' (by omega)).mono fun _ _ hh => GotV.of hh
theorem fmax_v (HE : FEnv W0 w bs L ts M) (h : ⟨v, q, k, b⟩ ∈ M) (h' : ⟨v', r, k', b'⟩ ∈ M) (hk : k + k' ≤ 8000) :
    Calls Tryz.prog 44 #[v, v'] w (GotV W0 bs L ts M (maxQ q r) (k + k')) := by
  obtain ⟨s, A, n, c, A', n', c', e1⟩ := (HE.fr _ h).shape
  obtain ⟨t, B, m, d, B', m', d', e2⟩ := (HE.fr _ h').shape
  dsimp only at e1 e2
  subst e1 e2
  exact (fmax_f HE h h' (by omega)).mono fun _ _ hh => GotV.of hh
end
end Go.Proofs.YtdecmhcojdnokaaGreatDoor
