/- The arithmetic of the long division: the guess of a word of the quotient, and what is taken away. -/
import Derived.Test.YtobffffcihlkbaaDoorNum
namespace Lw
theorem guess_lt {U V V3 u3 B vl ul x : Nat} (hU : U = u3 * B + ul) (hul : ul < B) (hV : V = V3 * B + vl) (hx : u3 + 1 ≤ x * V3) (hp : 0 < V) : U / V < x := by
  rw [Nat.div_lt_iff_lt_mul hp]
  have h1 : (u3 + 1) * B ≤ x * V3 * B := Nat.mul_le_mul_right _ hx
  have h2 : x * V = x * V3 * B + x * vl := by rw [hV, Nat.mul_add, Nat.mul_assoc]
  rw [Nat.add_mul, Nat.one_mul] at h1
  omega
theorem guess_le {U V V3 u3 B vl ul x : Nat} (hU : U = u3 * B + ul) (hvl : vl < B) (hV : V = V3 * B + vl) (hx : x * V3 ≤ u3) (hxV : x ≤ V3 + 1) (hp : 0 < V) : x ≤ U / V + 1 := by
  rcases Nat.eq_zero_or_pos x with h0 | h0
  · rw [h0]; exact Nat.zero_le _
  · obtain ⟨y, rfl⟩ : ∃ y, x = y + 1 := ⟨x - 1, by omega⟩
    have h1 : y ≤ U / V := by
      rw [Nat.le_div_iff_mul_le hp]
      have h2 : y * V = y * V3 * B + y * vl := by rw [hV, Nat.mul_add, Nat.mul_assoc]
      have h3 : y * vl ≤ V3 * B := Nat.mul_le_mul (by omega) (by omega)
      have h4 : (y + 1) * V3 * B ≤ u3 * B := Nat.mul_le_mul_right _ hx
      have h5 : (y + 1) * V3 * B = y * V3 * B + V3 * B := by rw [Nat.add_mul, Nat.add_mul, Nat.one_mul]
      omega
    exact Nat.succ_le_succ h1
/-- The top of a list: its last two words over the rest. -/
theorem val_top2 {l : List Nat} {k : Nat} (h : l.length = k + 2) : val l = (dg l (k + 1) * 4294967296 + dg l k) * pw k + lo l k := by
  have e : lo l (k + 2) = val l := lo_all (by omega)
  rw [show k + 2 = k + 1 + 1 from rfl, lo_succ, lo_succ, pw_succ] at e
  rw [← e, Nat.add_mul, Nat.mul_comm (dg l k), Nat.mul_comm (dg l (k + 1)), Nat.mul_assoc, Nat.mul_assoc, Nat.mul_comm (dg l (k + 1))]
  omega
theorem val_top3 {l : List Nat} {k : Nat} (h : l.length = k + 3) : val l = ((dg l (k + 2) * 4294967296 + dg l (k + 1)) * 4294967296 + dg l k) * pw k + lo l k := by
  have e : lo l (k + 3) = val l := lo_all (by omega)
  have e1 := lo_succ l (k + 2)
  have e2 := lo_succ l (k + 1)
  have e3 := lo_succ l k
  have p2 : pw (k + 2) = 4294967296 * (4294967296 * pw k) := by rw [pw_succ, pw_succ]
  rw [pw_succ] at e2
  rw [p2] at e1
  rw [← e, show k + 3 = k + 2 + 1 from rfl, e1, show k + 2 = k + 1 + 1 from rfl, e2, e3]
  generalize dg l (k + 1 + 1) = a
  generalize dg l (k + 1) = b
  generalize dg l k = c
  generalize pw k = p
  simp only [Nat.add_mul]
  have h1 : a * 4294967296 * 4294967296 * p = 4294967296 * (4294967296 * p) * a := by ac_rfl
  have h2 : b * 4294967296 * p = 4294967296 * p * b := by ac_rfl
  have h3 : c * p = p * c := Nat.mul_comm _ _
  omega
/-- What a guess is known to be: at least the quotient, and what is left over the top word of the divisor. -/
structure Gs (U V top v1 u1 : Nat) (x rest : Nat) : Prop where
  ge : U / V ≤ x
  sum : x * v1 + rest = top
  le : x ≤ 4294967297
  far : 4294967295 < x → rest ≤ 4294967295
  small : rest ≤ 8589934591
theorem Gs.start {U V top v1 u1 u0 : Nat} (hv : 2147483648 ≤ v1) (hvl : v1 ≤ 4294967295) (ht : top = u0 * 4294967296 + u1) (hu1 : u1 ≤ 4294967295) (hu0 : u0 ≤ v1) (hQ : U / V ≤ top / v1) :
    Gs U V top v1 u1 (top / v1) (top % v1) := by
  have h1 := Nat.div_add_mod top v1
  have h2 := Nat.mod_lt top (show 0 < v1 by omega)
  have h3 : top % v1 ≤ 4294967294 := by generalize top % v1 = r at *; omega
  refine ⟨hQ, by rw [Nat.mul_comm]; exact h1, ?_, fun _ => Nat.le_trans h3 (by omega), Nat.le_trans h3 (by omega)⟩
  have : top / v1 < 4294967298 := by
    rw [Nat.div_lt_iff_lt_mul (by omega)]
    omega
  exact Nat.le_of_lt_succ this
theorem Gs.next {U V top v1 u1 u0 x rest : Nat} (h : Gs U V top v1 u1 x rest) (hv : 2147483648 ≤ v1) (hvl : v1 ≤ 4294967295) (ht : top = u0 * 4294967296 + u1) (hu1 : u1 ≤ 4294967295) (hu0 : u0 ≤ v1)
    (hr : rest ≤ 4294967295) (hx : U / V < x) : Gs U V top v1 u1 (x - 1) (rest + v1) := by
  have hx0 : 0 < x := Nat.lt_of_le_of_lt (Nat.zero_le _) hx
  obtain ⟨y, rfl⟩ : ∃ y, x = y + 1 := ⟨x - 1, by omega⟩
  have h1 := h.sum
  have h2 := h.le
  rw [Nat.add_mul, Nat.one_mul] at h1
  rw [Nat.add_sub_cancel]
  refine ⟨Nat.le_of_lt_succ hx, by omega, by omega, fun hy => ?_, by omega⟩
  have h3 : 4294967296 * v1 ≤ y * v1 := Nat.mul_le_mul_right _ hy
  have h4 : u0 * 4294967296 ≤ 4294967296 * v1 := by rw [Nat.mul_comm]; exact Nat.mul_le_mul_left _ hu0
  omega
/-- The guess is too great: the second word says so. -/
theorem Gs.over {U V top v1 u1 x rest k : Nat} {us vs : List Nat} (h : Gs U V top v1 u1 x rest) (hU : U = val us) (hV : V = val vs) (hul : us.length = k + 3) (hvl : vs.length = k + 2) (hwu : Wds us)
    (ht : top = dg us (k + 2) * 4294967296 + dg us (k + 1)) (hv1 : v1 = dg vs (k + 1)) (hp : 0 < V) (hx : rest * 4294967296 + dg us k < x * dg vs k) : U / V < x := by
  subst hU hV ht hv1
  refine guess_lt (val_top3 hul) (lo_lt hwu k) (val_top2 hvl) ?_ hp
  have h1 := h.sum
  rw [Nat.mul_add, ← h1, Nat.add_mul, ← Nat.mul_assoc]
  omega
/-- The loop's end: at most one too great. -/
theorem Gs.out {U V top v1 u1 x rest k : Nat} {us vs : List Nat} (h : Gs U V top v1 u1 x rest) (hU : U = val us) (hV : V = val vs) (hul : us.length = k + 3) (hvl : vs.length = k + 2) (hwv : Wds vs)
    (ht : top = dg us (k + 2) * 4294967296 + dg us (k + 1)) (hv1 : v1 = dg vs (k + 1)) (hv : 2147483648 ≤ v1) (hp : 0 < V) (hx : x ≤ 4294967295) (he : 4294967295 < rest ∨ x * dg vs k ≤ rest * 4294967296 + dg us k) :
    U / V ≤ x ∧ x ≤ U / V + 1 := by
  refine ⟨h.ge, ?_⟩
  subst hU hV ht hv1
  refine guess_le (val_top3 hul) (lo_lt hwv k) (val_top2 hvl) ?_ (by omega) hp
  have h1 := h.sum
  rw [Nat.mul_add, ← h1, Nat.add_mul, ← Nat.mul_assoc]
  rcases he with he | he
  · have h2 : x * dg vs k ≤ 4294967295 * 4294967295 := Nat.mul_le_mul hx (by have := dg_lt hwv k; omega)
    omega
  · omega
/-- The top word does not exceed the divisor's. -/
theorem top_le {us vs : List Nat} {k : Nat} (hul : us.length = k + 3) (hvl : vs.length = k + 2) (hwv : Wds vs) (hlt : val us < 4294967296 * val vs) : dg us (k + 2) ≤ dg vs (k + 1) := by
  have h1 := val_top3 hul
  have h2 := val_lt hwv
  have h3 : lo vs (k + 1) < pw (k + 1) := lo_lt hwv _
  have e : lo vs (k + 2) = val vs := lo_all (by omega)
  rw [show k + 2 = k + 1 + 1 from rfl, lo_succ] at e
  rcases Nat.lt_or_ge (dg vs (k + 1)) (dg us (k + 2)) with h | h
  · exfalso
    have h4 : (dg vs (k + 1) + 1) * (4294967296 * 4294967296 * pw k) ≤ dg us (k + 2) * (4294967296 * 4294967296 * pw k) := Nat.mul_le_mul_right _ h
    have h5 : dg us (k + 2) * (4294967296 * 4294967296 * pw k) ≤ val us := by
      rw [h1]
      generalize dg us (k + 2) = a
      generalize dg us (k + 1) = b
      generalize dg us k = c
      have : ((a * 4294967296 + b) * 4294967296 + c) * pw k = a * (4294967296 * 4294967296 * pw k) + (b * 4294967296 + c) * pw k := by
        simp only [Nat.add_mul]
        have : a * 4294967296 * 4294967296 * pw k = a * (4294967296 * 4294967296 * pw k) := by simp only [Nat.mul_assoc]
        omega
      omega
    rw [pw_succ] at h3 e
    have h6 : 4294967296 * val vs < (dg vs (k + 1) + 1) * (4294967296 * 4294967296 * pw k) := by
      rw [← e, Nat.add_mul, Nat.one_mul]
      have : dg vs (k + 1) * (4294967296 * 4294967296 * pw k) = 4294967296 * (4294967296 * pw k * dg vs (k + 1)) := by ac_rfl
      rw [Nat.mul_add]
      have : 4294967296 * 4294967296 * pw k = 4294967296 * (4294967296 * pw k) := by rw [Nat.mul_assoc]
      omega
    omega
  · exact h
theorem quo_top {us vs : List Nat} {k : Nat} (hul : us.length = k + 3) (hvl : vs.length = k + 2) (hwu : Wds us) (hv : 0 < dg vs (k + 1)) :
    val us / val vs ≤ (dg us (k + 2) * 4294967296 + dg us (k + 1)) / dg vs (k + 1) := by
  have h1 := val_top3 hul
  have h2 := val_top2 hvl
  have hu : dg us k < 4294967296 := dg_lt hwu _
  have hl := lo_lt hwu k
  obtain ⟨top, ht⟩ : ∃ t, t = dg us (k + 2) * 4294967296 + dg us (k + 1) := ⟨_, rfl⟩
  obtain ⟨v1, hv1⟩ : ∃ t, t = dg vs (k + 1) := ⟨_, rfl⟩
  rw [← ht] at h1 ⊢
  rw [← hv1] at h2 hv ⊢
  have h3 : pw (k + 1) * v1 ≤ val vs := by
    rw [h2, pw_succ, Nat.add_mul]
    have : v1 * 4294967296 * pw k = 4294967296 * pw k * v1 := by ac_rfl
    omega
  have h4 : val us < (top + 1) * pw (k + 1) := by
    rw [h1, pw_succ, Nat.add_mul, Nat.add_mul, Nat.one_mul]
    have : (dg us k + 1) * pw k ≤ 4294967296 * pw k := Nat.mul_le_mul_right _ hu
    rw [Nat.add_mul, Nat.one_mul] at this
    rw [Nat.mul_assoc]
    omega
  have h5 : val us / val vs ≤ val us / (pw (k + 1) * v1) := Nat.div_le_div_left h3 (Nat.mul_pos (pw_pos _) hv)
  rw [← Nat.div_div_eq_div_mul] at h5
  refine Nat.le_trans h5 (Nat.div_le_div_right ?_)
  have := (Nat.div_lt_iff_lt_mul (pw_pos (k + 1))).2 h4
  omega
end Lw
/-! The arithmetic of Lehmer's steps: factors found from the leading bits alone keep the greatest common divisor. -/
namespace Lw
theorem comb {a b r1 r2 u1 u2 v1 v2 : Nat} (h1 : u1 * a = r1 + v1 * b) (h2 : v2 * b = r2 + u2 * a) (hd : u1 * v2 = u2 * v1 + 1) : a = v2 * r1 + v1 * r2 ∧ b = u2 * r1 + u1 * r2 := by
  constructor
  · have e1 : v2 * (u1 * a) = v2 * (r1 + v1 * b) := by rw [h1]
    have e2 : v1 * (v2 * b) = v1 * (r2 + u2 * a) := by rw [h2]
    have e3 : u1 * v2 * a = (u2 * v1 + 1) * a := by rw [hd]
    have a1 : v2 * (u1 * a) = u1 * v2 * a := by ac_rfl
    have a2 : v2 * (v1 * b) = v1 * (v2 * b) := by ac_rfl
    have a3 : v1 * (u2 * a) = u2 * v1 * a := by ac_rfl
    rw [Nat.mul_add] at e1 e2
    rw [Nat.add_mul, Nat.one_mul] at e3
    omega
  · have e1 : u2 * (u1 * a) = u2 * (r1 + v1 * b) := by rw [h1]
    have e2 : u1 * (v2 * b) = u1 * (r2 + u2 * a) := by rw [h2]
    have e3 : u1 * v2 * b = (u2 * v1 + 1) * b := by rw [hd]
    have a1 : u1 * (u2 * a) = u2 * (u1 * a) := by ac_rfl
    have a2 : u1 * (v2 * b) = u1 * v2 * b := by ac_rfl
    have a3 : u2 * (v1 * b) = u2 * v1 * b := by ac_rfl
    rw [Nat.mul_add] at e1 e2
    rw [Nat.add_mul, Nat.one_mul] at e3
    omega
theorem comb_gcd {a b r1 r2 u1 u2 v1 v2 : Nat} (h1 : u1 * a = r1 + v1 * b) (h2 : v2 * b = r2 + u2 * a) (ha : a = v2 * r1 + v1 * r2) (hb : b = u2 * r1 + u1 * r2) : Nat.gcd r1 r2 = Nat.gcd a b := by
  apply Nat.dvd_antisymm
  · refine Nat.dvd_gcd ?_ ?_
    · rw [ha]; exact Nat.dvd_add (Nat.dvd_mul_left_of_dvd (Nat.gcd_dvd_left _ _) _) (Nat.dvd_mul_left_of_dvd (Nat.gcd_dvd_right _ _) _)
    · rw [hb]; exact Nat.dvd_add (Nat.dvd_mul_left_of_dvd (Nat.gcd_dvd_left _ _) _) (Nat.dvd_mul_left_of_dvd (Nat.gcd_dvd_right _ _) _)
  · refine Nat.dvd_gcd ?_ ?_
    · refine (Nat.dvd_add_iff_left (Nat.dvd_mul_left_of_dvd (Nat.gcd_dvd_right a b) v1)).2 ?_
      rw [← h1]; exact Nat.dvd_mul_left_of_dvd (Nat.gcd_dvd_left _ _) _
    · refine (Nat.dvd_add_iff_left (Nat.dvd_mul_left_of_dvd (Nat.gcd_dvd_left a b) u2)).2 ?_
      rw [← h2]; exact Nat.dvd_mul_left_of_dvd (Nat.gcd_dvd_right _ _) _
/-- What foresee's loop keeps. -/
structure Lm (x0 y0 x y u1 u2 v1 v2 : Nat) (o : Bool) : Prop where
  eq : if o then x + v1 * y0 = u1 * x0 ∧ y + u2 * x0 = v2 * y0 else x + u1 * x0 = v1 * y0 ∧ y + v2 * y0 = u2 * x0
  det : if o then u1 * v2 = u2 * v1 + 1 else u2 * v1 = u1 * v2 + 1
  sum : x * v2 + y * v1 = x0
  le : y ≤ x
  u2v2 : u2 ≤ v2
  uv : u1 + u2 ≤ v1 + v2
  v2p : 1 ≤ v2
  v1v2 : v1 ≤ v2
  u1v1 : u1 ≤ v1 ∨ u1 = 1
/-- Steps that are right: where they lead has the same divisors, is ordered and shorter. -/
def Sp (a b u0 u1 v0 v1 : Nat) (o : Bool) : Prop :=
  u0 < 4294967296 ∧ u1 < 4294967296 ∧ v0 < 4294967296 ∧ v1 < 4294967296 ∧ ∃ r1 r2, (if o then v0 * b = r1 + u0 * a ∧ u1 * a = r2 + v1 * b else u0 * a = r1 + v0 * b ∧ v1 * b = r2 + u1 * a) ∧ r2 ≤ r1 ∧ Nat.gcd r1 r2 = Nat.gcd a b ∧ r1 ≤ a ∧ (0 < v0 → r1 + r2 ≤ a)
theorem Lm.start {x0 y0 : Nat} (h : y0 ≤ x0) : Lm x0 y0 x0 y0 1 0 0 1 true := ⟨by simp, by simp, by simp, h, by omega, by omega, by omega, by omega, .inr rfl⟩
theorem Lm.next {x0 y0 x y u1 u2 v1 v2 : Nat} {o : Bool} (h : Lm x0 y0 x y u1 u2 v1 v2 o) (h1 : v2 ≤ y) : Lm x0 y0 y (x % y) u2 (u1 + x / y * u2) v2 (v1 + x / y * v2) (!o) := by
  have hy : 0 < y := Nat.lt_of_lt_of_le h.v2p h1
  have hm := Nat.mod_lt x hy
  have hd := Nat.div_add_mod x y
  have hq : 1 ≤ x / y := by rw [Nat.le_div_iff_mul_le hy]; have := h.le; omega
  generalize x % y = r at *
  generalize x / y = q at *
  obtain ⟨e, d, s, l, b1, b2, b3, b4, b5⟩ := h
  obtain ⟨p, rfl⟩ : ∃ p, q = p + 1 := ⟨q - 1, by omega⟩
  have hpu : p * u2 ≤ p * v2 := Nat.mul_le_mul_left _ b1
  have hpv : 0 ≤ p * v2 := Nat.zero_le _
  rw [Nat.mul_add, Nat.mul_one] at hd
  simp only [Nat.add_mul, Nat.one_mul]
  refine ⟨?_, ?_, ?_, Nat.le_of_lt hm, by omega, by omega, by omega, by omega, .inl b1⟩
  · cases o
    · simp only [Bool.not_false, if_true, Bool.false_eq_true, if_false] at e ⊢
      refine ⟨e.2, ?_⟩
      have e1 := e.1
      have e2 := e.2
      subst hd
      simp only [Nat.add_mul]
      have a1 : p * (y + v2 * y0) = p * (u2 * x0) := by rw [e2]
      rw [Nat.mul_add] at a1
      have a2 : p * (v2 * y0) = p * v2 * y0 := by rw [Nat.mul_assoc]
      have a3 : p * (u2 * x0) = p * u2 * x0 := by rw [Nat.mul_assoc]
      have a4 : p * y = y * p := Nat.mul_comm _ _
      omega
    · simp only [Bool.not_true, if_true, Bool.false_eq_true, if_false] at e ⊢
      refine ⟨e.2, ?_⟩
      have e1 := e.1
      have e2 := e.2
      subst hd
      simp only [Nat.add_mul]
      have a1 : p * (y + u2 * x0) = p * (v2 * y0) := by rw [e2]
      rw [Nat.mul_add] at a1
      have a2 : p * (v2 * y0) = p * v2 * y0 := by rw [Nat.mul_assoc]
      have a3 : p * (u2 * x0) = p * u2 * x0 := by rw [Nat.mul_assoc]
      have a4 : p * y = y * p := Nat.mul_comm _ _
      omega
  · cases o
    · simp only [Bool.not_false, if_true, Bool.false_eq_true, if_false] at d ⊢
      simp only [Nat.add_mul, Nat.mul_add]
      have a2 : u2 * (p * v2) = p * u2 * v2 := by ac_rfl
      omega
    · simp only [Bool.not_true, if_true, Bool.false_eq_true, if_false] at d ⊢
      simp only [Nat.add_mul, Nat.mul_add]
      have a2 : u2 * (p * v2) = p * u2 * v2 := by ac_rfl
      omega
  · subst hd
    rw [← s]
    simp only [Nat.add_mul, Nat.mul_add]
    have a2 : y * (p * v2) = y * p * v2 := by rw [Nat.mul_assoc]
    omega
theorem Lm.small {x0 y0 x y u1 u2 v1 v2 : Nat} {o : Bool} (h : Lm x0 y0 x y u1 u2 v1 v2 o) (h0 : x0 < 18446744073709551616) (h1 : v2 ≤ y) :
    v2 < 4294967296 ∧ v1 < 4294967296 ∧ u1 < 4294967296 ∧ u2 < 4294967296 := by
  have s := h.sum
  have h2 : v2 * v2 ≤ x * v2 := Nat.mul_le_mul_right _ (Nat.le_trans h1 h.le)
  have h3 : v2 < 4294967296 := by
    refine Nat.lt_of_not_le fun hle => ?_
    have := Nat.mul_le_mul hle hle
    omega
  have b1 := h.u2v2
  have b2 := h.v1v2
  rcases h.u1v1 with b3 | b3 <;> omega
theorem Lm.fits {x0 y0 x y u1 u2 v1 v2 : Nat} {o : Bool} (h : Lm x0 y0 x y u1 u2 v1 v2 o) (h1 : v2 ≤ y) : u1 + x / y * u2 ≤ v1 + x / y * v2 ∧ v1 + x / y * v2 ≤ x0 := by
  have hn := h.next h1
  refine ⟨hn.u2v2, ?_⟩
  have hs := hn.sum
  have hy : 1 ≤ y := Nat.le_trans h.v2p h1
  have : 1 * (v1 + x / y * v2) ≤ y * (v1 + x / y * v2) := Nat.mul_le_mul_right _ hy
  omega
theorem part_le {K t x : Nat} {c : Nat} (h : c ≤ x) (ht : t < K) : c * t ≤ K * x := by
  rw [Nat.mul_comm K]; exact Nat.mul_le_mul h (Nat.le_of_lt ht)
theorem Lm.step {x0 y0 x y u1 u2 v1 v2 a b K : Nat} {o : Bool} (h : Lm x0 y0 x y u1 u2 v1 v2 o) (h0 : x0 < 18446744073709551616) (h1 : v2 ≤ y) (h2 : v1 + v2 ≤ x - y) (hK : 0 < K) (hx : x0 = a / K) (hy : y0 = b / K) :
    Sp a b u1 u2 v1 v2 (!o) := by
  obtain ⟨c1, c2, c3, c4⟩ := h.small h0 h1
  refine ⟨c3, c4, c2, c1, ?_⟩
  have ea := Nat.div_add_mod a K
  have eb := Nat.div_add_mod b K
  have la := Nat.mod_lt a hK
  have lb := Nat.mod_lt b hK
  rw [← hx] at ea
  rw [← hy] at eb
  generalize a % K = α at *
  generalize b % K = β at *
  obtain ⟨e, d, s, l, b1, b2, b3, b4, b5⟩ := h
  obtain ⟨z, rfl⟩ : ∃ z, x = y + z := ⟨x - y, by omega⟩
  rw [Nat.add_sub_cancel_left] at h2
  have fin : ∀ r1 r2, a = v2 * r1 + v1 * r2 → r1 ≤ a ∧ (0 < v1 → r1 + r2 ≤ a) := by
    intro r1 r2 ha
    have f1 : 1 * r1 ≤ v2 * r1 := Nat.mul_le_mul_right _ b3
    refine ⟨by omega, fun hv => ?_⟩
    have f2 : 1 * r2 ≤ v1 * r2 := Nat.mul_le_mul_right _ hv
    omega
  cases o
  · simp only [Bool.not_false, if_true, Bool.false_eq_true, if_false] at e d ⊢
    have p1 : u1 * α ≤ K * (y + z) := part_le (by omega) la
    have p2 : v2 * β ≤ K * y := part_le h1 lb
    have p3 : (u1 + u2) * α ≤ K * z := part_le (by omega) la
    have q1 : v1 * b = (K * (y + z) + v1 * β - u1 * α) + u1 * a := by
      have t1 : K * (v1 * y0) = K * (y + z) + K * (u1 * x0) := by rw [← e.1, Nat.mul_add]
      have t2 : v1 * (K * y0) = K * (v1 * y0) := by ac_rfl
      have t3 : u1 * (K * x0) = K * (u1 * x0) := by ac_rfl
      rw [← ea, ← eb, Nat.mul_add v1, Nat.mul_add u1]
      omega
    have q2 : u2 * a = (K * y + u2 * α - v2 * β) + v2 * b := by
      have t1 : K * (u2 * x0) = K * y + K * (v2 * y0) := by rw [← e.2, Nat.mul_add]
      have t2 : v2 * (K * y0) = K * (v2 * y0) := by ac_rfl
      have t3 : u2 * (K * x0) = K * (u2 * x0) := by ac_rfl
      rw [← ea, ← eb, Nat.mul_add v2, Nat.mul_add u2]
      omega
    rw [Nat.mul_add] at p1
    rw [Nat.add_mul] at p3
    rw [Nat.mul_add] at q1
    obtain ⟨r1, hr1⟩ : ∃ r, r = K * y + K * z + v1 * β - u1 * α := ⟨_, rfl⟩
    obtain ⟨r2, hr2⟩ : ∃ r, r = K * y + u2 * α - v2 * β := ⟨_, rfl⟩
    rw [← hr1] at q1
    rw [← hr2] at q2
    obtain ⟨k1, k2⟩ := comb q1 q2 (by rw [Nat.mul_comm v1, d, Nat.mul_comm v2])
    have k3 := comb_gcd q1 q2 k1 k2
    refine ⟨r1, r2, ⟨q1, q2⟩, by omega, by rw [k3, Nat.gcd_comm], fin _ _ k2⟩
  · simp only [Bool.not_true, if_true, Bool.false_eq_true, if_false] at e d ⊢
    have p1 : v1 * β ≤ K * (y + z) := part_le (by omega) lb
    have p2 : u2 * α ≤ K * y := part_le (by omega) la
    have p3 : (v1 + v2) * β ≤ K * z := part_le (by omega) lb
    have q1 : u1 * a = (K * (y + z) + u1 * α - v1 * β) + v1 * b := by
      have t1 : K * (u1 * x0) = K * (y + z) + K * (v1 * y0) := by rw [← e.1, Nat.mul_add]
      have t2 : v1 * (K * y0) = K * (v1 * y0) := by ac_rfl
      have t3 : u1 * (K * x0) = K * (u1 * x0) := by ac_rfl
      rw [← ea, ← eb, Nat.mul_add v1, Nat.mul_add u1]
      omega
    have q2 : v2 * b = (K * y + v2 * β - u2 * α) + u2 * a := by
      have t1 : K * (v2 * y0) = K * y + K * (u2 * x0) := by rw [← e.2, Nat.mul_add]
      have t2 : v2 * (K * y0) = K * (v2 * y0) := by ac_rfl
      have t3 : u2 * (K * x0) = K * (u2 * x0) := by ac_rfl
      rw [← ea, ← eb, Nat.mul_add v2, Nat.mul_add u2]
      omega
    rw [Nat.mul_add] at p1
    rw [Nat.add_mul] at p3
    rw [Nat.mul_add] at q1
    obtain ⟨r1, hr1⟩ : ∃ r, r = K * y + K * z + u1 * α - v1 * β := ⟨_, rfl⟩
    obtain ⟨r2, hr2⟩ : ∃ r, r = K * y + v2 * β - u2 * α := ⟨_, rfl⟩
    rw [← hr1] at q1
    rw [← hr2] at q2
    obtain ⟨k1, k2⟩ := comb q1 q2 d
    have k3 := comb_gcd q1 q2 k1 k2
    refine ⟨r1, r2, ⟨q1, q2⟩, by omega, k3, fin _ _ k1⟩
end Lw
