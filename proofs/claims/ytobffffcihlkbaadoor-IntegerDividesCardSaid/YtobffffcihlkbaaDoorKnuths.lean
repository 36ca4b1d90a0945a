/- The arithmetic of takeTimes and of divideLong's loop. -/
import Derived.Test.YtobffffcihlkbaaDoorAdd
import Derived.Test.YtobffffcihlkbaaDoorMul
import Derived.Test.YtobffffcihlkbaaDoorKnuth
import Derived.Test.YtobffffcihlkbaaDoorDivw
namespace Lw
open Go
theorem and_word (S : Nat) : S % 4294967296 < 4294967296 := Nat.mod_lt _ (by omega)
theorem take_word {u S c D F : Nat} (hu : u < 4294967296) (hc : c ≤ 1) (hD : SubOf u (S % 4294967296) D) (hF : SubOf D c F) (hDl : D ≤ 18446744073709551615) :
    F % 4294967296 + S + c = u + 4294967296 * (S / 4294967296 + F / 9223372036854775808) ∧ F / 9223372036854775808 ≤ 1 := by
  have h := sub_word hu (and_word S) hc hD hF hDl
  have h2 := Nat.mod_add_div S 4294967296
  omega
theorem take_step {cs ds ms : List Nat} {o k carry bo x r S b' : Nat} (h : o + k < ds.length) (hv : lo ds (o + k) + pw o * (lo ms k * x) = lo cs (o + k) + pw (o + k) * (carry + bo)) (hS : S = carry + x * dg ms k)
    (hw : r + S + bo = dg cs (o + k) + 4294967296 * (S / 4294967296 + b')) :
    lo (ds.set (o + k) r) (o + k + 1) + pw o * (lo ms (k + 1) * x) = lo cs (o + k + 1) + pw (o + k + 1) * (S / 4294967296 + b') := by
  have e : pw (o + k) * (r + S + bo) = pw (o + k) * (dg cs (o + k) + 4294967296 * (S / 4294967296 + b')) := by rw [hw]
  rw [lo_put _ h, lo_succ ms, lo_succ cs, pw_succ]
  generalize S / 4294967296 + b' = t at *
  have e1 : pw o * ((lo ms k + pw k * dg ms k) * x) = pw o * (lo ms k * x) + pw (o + k) * (x * dg ms k) := by
    rw [Nat.add_mul, Nat.mul_add, pw_add]
    have : pw o * (pw k * dg ms k * x) = pw o * pw k * (x * dg ms k) := by ac_rfl
    rw [this]
  have e2 : pw (o + k) * (4294967296 * t) = 4294967296 * pw (o + k) * t := by rw [← Nat.mul_assoc, Nat.mul_comm (pw (o + k))]
  rw [hS] at e
  simp only [Nat.mul_add] at e hv ⊢
  omega
theorem end_word {u c b D F : Nat} (hu : u < 4294967296) (hc : c < 4294967296) (hb : b ≤ 1) (hD : SubOf u c D) (hF : SubOf D b F) (hDl : D ≤ 18446744073709551615) :
    (c + b ≤ u ∧ F = u - (c + b)) ∨ (u < c + b ∧ F + (c + b) = 18446744073709551616 + u) := by
  have h1 := hD (by omega) (by omega)
  have h2 := hF (by omega) (by omega)
  split at h1 <;> split at h2 <;> omega
/-- Nothing was taken too much: the guess is the quotient. -/
theorem end_fit {cs ds : List Nat} {o m c b x u U V r : Nat} (h : o + m < ds.length) (hv : lo ds (o + m) + pw o * (V * x) = lo cs (o + m) + pw (o + m) * (c + b)) (hu : u = dg cs (o + m)) (hr : r = u - (c + b)) (hcb : c + b ≤ u)
    (hs : lo ds o = lo cs o) (hU : lo cs (o + m + 1) = lo cs o + pw o * U) (hp : 0 < V) (hx : U / V ≤ x) :
    x = U / V ∧ lo (ds.set (o + m) r) (o + m + 1) + pw o * (V * (U / V)) = lo cs (o + m + 1) := by
  have e1 : lo (ds.set (o + m) r) (o + m + 1) + pw o * (V * x) = lo cs (o + m + 1) := by
    rw [lo_put _ h, lo_succ cs, ← hu]
    have : pw (o + m) * u = pw (o + m) * r + pw (o + m) * (c + b) := by rw [← Nat.mul_add]; congr 1; omega
    omega
  have e2 : lo cs o ≤ lo (ds.set (o + m) r) (o + m + 1) := by
    rw [← hs, lo_put _ h]
    have : ∀ k, lo ds o ≤ lo ds (o + k) := by
      intro k
      induction k with
      | zero => exact Nat.le_refl _
      | succ k ih => rw [show o + (k + 1) = o + k + 1 from rfl, lo_succ]; omega
    have := this m
    omega
  have e3 : pw o * (V * x) ≤ pw o * U := by omega
  have e4 : V * x ≤ U := Nat.le_of_mul_le_mul_left e3 (pw_pos o)
  have e5 : x ≤ U / V := by rw [Nat.le_div_iff_mul_le hp, Nat.mul_comm]; exact e4
  have e6 : x = U / V := Nat.le_antisymm e5 hx
  exact ⟨e6, by rw [← e6]; exact e1⟩
theorem lo_from {l : List Nat} {o : Nat} (hw : Wds l) (m : Nat) : ∃ t, lo l (o + m) = lo l o + pw o * t ∧ t < pw m := by
  refine ⟨lo (l.drop o) m, ?_, lo_lt (wds_drop hw o) m⟩
  induction m with
  | zero => simp [lo_zero]
  | succ m ih => rw [show o + (m + 1) = o + m + 1 from rfl, lo_succ, lo_succ, dg_drop, ih, pw_add, Nat.mul_add, Nat.mul_assoc]; omega
/-- One time too much was taken, and is given back. -/
theorem end_back {cs ds es : List Nat} {o m c b x u U V F r : Nat} (h : o + m < es.length) (hv : lo ds (o + m) + pw o * (V * x) = lo cs (o + m) + pw (o + m) * (c + b)) (hu : u = dg cs (o + m)) (hul : u < 4294967296) (hc : c < 4294967296) (hb : b ≤ 1)
    (hF : F + (c + b) = 18446744073709551616 + u) (hcb : u < c + b) (hs : lo ds o = lo cs o) (hU : lo cs (o + m + 1) = lo cs o + pw o * U) (hp : 0 < V) (hx : x ≤ U / V + 1) (hwd : Wds ds) (hwe : Wds es) (hr : r < 4294967296)
    (hg : lo es (o + m) + pw (o + m) * r = lo ds (o + m) + pw o * (V * 1)) :
    x = U / V + 1 ∧ lo (es.set (o + m) ((F % 4294967296 + r) % 4294967296)) (o + m + 1) + pw o * (V * (U / V)) = lo cs (o + m + 1) := by
  have hlo := lo_succ cs (o + m)
  rw [← hu, hU] at hlo
  have hx1 : x = U / V + 1 := by
    refine Nat.le_antisymm hx ?_
    refine Nat.lt_of_not_le fun hle => ?_
    rw [Nat.le_div_iff_mul_le hp, Nat.mul_comm] at hle
    obtain ⟨t, ht, htl⟩ := lo_from (o := o) hwd m
    have h1 : pw (o + m) * (u + 1) ≤ pw (o + m) * (c + b) := Nat.mul_le_mul_left _ hcb
    have h2 : pw o * (V * x) ≤ pw o * U := Nat.mul_le_mul_left _ hle
    have h3 : pw o * (t + 1) ≤ pw o * pw m := Nat.mul_le_mul_left _ htl
    rw [← pw_add] at h3
    rw [Nat.mul_add, Nat.mul_one] at h1 h3
    have := pw_pos o
    omega
  have hQ : V * (U / V) ≤ U := Nat.mul_div_le U V
  refine ⟨hx1, ?_⟩
  rw [hx1, Nat.mul_add V, Nat.mul_add (pw o)] at hv
  generalize U / V = Q at *
  have h2 : pw o * (V * Q) ≤ pw o * U := Nat.mul_le_mul_left _ hQ
  have hE := lo_lt hwe (o + m)
  have hr2 : c + b ≤ u + r := by
    refine Nat.le_of_not_lt fun hlt => ?_
    have h1 : pw (o + m) * (u + r + 1) ≤ pw (o + m) * (c + b) := Nat.mul_le_mul_left _ hlt
    rw [Nat.mul_add, Nat.mul_add, Nat.mul_one] at h1
    omega
  have hm : (F % 4294967296 + r) % 4294967296 + (c + b) = u + r := by omega
  rw [lo_put _ h]
  generalize (F % 4294967296 + r) % 4294967296 = s at *
  have h5 : pw (o + m) * s + pw (o + m) * (c + b) = pw (o + m) * u + pw (o + m) * r := by rw [← Nat.mul_add, hm, Nat.mul_add]
  omega
theorem val_of_zeros {l : List Nat} {k : Nat} (h : ∀ j, k ≤ j → dg l j = 0) : val l = lo l k := by
  rcases Nat.le_total l.length k with h1 | h1
  · rw [lo_all h1]
  · obtain ⟨d, hd⟩ := Nat.exists_eq_add_of_le h1
    have : ∀ d, lo l (k + d) = lo l k := by
      intro d
      induction d with
      | zero => rfl
      | succ d ih => rw [show k + (d + 1) = k + d + 1 from rfl, lo_succ, ih, h (k + d) (by omega)]; simp
    rw [← this d, ← hd, lo_all (Nat.le_refl _)]
theorem zeros_of_lt {l : List Nat} {k : Nat} (h : val l < pw k) : ∀ j, k ≤ j → dg l j = 0 := by
  intro j hj
  have h1 : lo l (j + 1) ≤ val l := by
    have := val_split l (j + 1)
    omega
  rw [lo_succ] at h1
  have h2 : pw k ≤ pw j := pw_le hj
  rcases Nat.eq_zero_or_pos (dg l j) with h0 | h0
  · exact h0
  · have := Nat.mul_le_mul_left (pw j) h0
    omega
theorem lo_low {l : List Nat} {i : Nat} (h : i ≤ l.length) : val l = lo l i + pw i * val (l.drop i) := by
  have := val_split l i
  rwa [Nat.min_eq_left h] at this
/-- What divideLong's loop keeps, with j words of the quotient still to come. -/
structure Ks (N V m : Nat) (us qs : List Nat) (j : Nat) : Prop where
  sum : val us + V * (pw j * val (qs.drop j)) = N
  rest : val (us.drop j) < V
theorem Ks.start {N V m n j : Nat} {us : List Nat} (hv : val us = N) (hj : j ≤ us.length) (hN : N < V * pw j) : Ks N V m us (List.replicate n 0) j := by
  refine ⟨?_, ?_⟩
  · rw [List.drop_replicate, val_replicate]; simpa using hv
  · have h1 := lo_low hj
    rw [hv] at h1
    refine Nat.lt_of_not_le fun h => ?_
    have := Nat.mul_le_mul_left (pw j) h
    rw [Nat.mul_comm (pw j) V] at this
    omega
/-- The part of the dividend that a word of the quotient is taken from. -/
theorem Ks.part {N V m i : Nat} {us qs : List Nat} (h : Ks N V m us qs (i + 1)) (hw : Wds us) (hi : i < us.length) (hV : V < pw m) :
    ∃ U, val ((us.drop i).take (m + 1)) = U ∧ val (us.drop i) = U ∧ U < 4294967296 * V ∧ lo us (i + m + 1) = lo us i + pw i * U ∧ val us = lo us (i + m + 1) := by
  have h1 := val_drop us hi
  have h2 := dg_lt hw i
  have h3 := h.rest
  have hU : val (us.drop i) < 4294967296 * V := by omega
  have hp : val (us.drop i) < pw (m + 1) := by rw [pw_succ]; omega
  have hz : val us < pw (i + m + 1) := by
    rw [lo_low (Nat.le_of_lt hi), Nat.add_assoc, pw_add i]
    have h4 := lo_lt hw i
    have h5 := Nat.mul_le_mul_left (pw i) hp
    rw [Nat.mul_succ] at h5
    omega
  have hl := val_of_zeros (zeros_of_lt hz)
  refine ⟨_, val_of_zeros (zeros_of_lt hp) ▸ rfl, rfl, hU, ?_, hl⟩
  rw [← hl]; exact lo_low (Nat.le_of_lt hi)
theorem Ks.next {N V m i U : Nat} {us ds qs : List Nat} (h : Ks N V m us qs (i + 1)) (hi : i < us.length) (hq : i < qs.length) (hdl : ds.length = us.length) (hU : val (us.drop i) = U) (hp : 0 < V)
    (hz : val us < pw (i + m + 1)) (hval : val us = lo us (i + m + 1)) (hsame : ∀ j, j < i ∨ i + m + 1 ≤ j → dg ds j = dg us j)
    (hd : lo ds (i + m + 1) + pw i * (V * (U / V)) = lo us (i + m + 1)) : Ks N V m ds (qs.set i (U / V)) i := by
  have h1 : val ds = lo ds (i + m + 1) := val_of_zeros fun j hj => by rw [hsame j (.inr hj)]; exact zeros_of_lt hz j hj
  rw [← h1, ← hval] at hd
  refine ⟨?_, ?_⟩
  · have h2 := h.sum
    rw [val_drop (qs.set i (U / V)) (k := i) (by rw [List.length_set]; exact hq), dg_set _ hq, if_pos rfl, drop_set_lt _ (by omega)]
    rw [← hd, pw_succ] at h2
    generalize val (qs.drop (i + 1)) = R at *
    generalize U / V = Q at *
    rw [← h2]
    have e1 : V * (pw i * (Q + 4294967296 * R)) = pw i * (V * Q) + V * (4294967296 * pw i * R) := by
      rw [Nat.mul_add, Nat.mul_add]
      have a1 : V * (pw i * Q) = pw i * (V * Q) := by ac_rfl
      have a2 : V * (pw i * (4294967296 * R)) = V * (4294967296 * pw i * R) := by
        rw [← Nat.mul_assoc (pw i), Nat.mul_comm (pw i)]
      omega
    omega
  · have h2 := lo_low (l := ds) (i := i) (by omega)
    have h3 := lo_low (Nat.le_of_lt hi)
    have h4 : lo ds i = lo us i := lo_agree i fun j hj => hsame j (.inl hj)
    rw [hU] at h3
    have h5 : pw i * (val (ds.drop i) + V * (U / V)) = pw i * U := by rw [Nat.mul_add]; omega
    have h6 := Nat.eq_of_mul_eq_mul_left (pw_pos i) h5
    have h7 := Nat.div_add_mod U V
    have h8 := Nat.mod_lt U hp
    generalize V * (U / V) = t at *
    generalize U % V = s at *
    omega
theorem Ks.out {N V m : Nat} {us qs : List Nat} (h : Ks N V m us qs 0) : val us = N % V ∧ val qs = N / V := by
  have h1 := h.sum
  have h2 := h.rest
  rw [List.drop_zero, pw_zero, Nat.one_mul] at h1
  rw [List.drop_zero] at h2
  subst h1
  exact ⟨by rw [Nat.add_mul_mod_self_left, Nat.mod_eq_of_lt h2], by rw [Nat.add_mul_div_left _ _ (by omega), Nat.div_eq_of_lt h2, Nat.zero_add]⟩
end Lw
/-! The arithmetic of shiftUp, shiftDown, leading and difference. -/
namespace Lw
theorem up_word {d t P R : Nat} (hPR : R * P = 4294967296) (hR : 0 < R) (ht : t < P) : (d * P + t) % 4294967296 + 4294967296 * (d / R) = d * P + t := by
  have h1 := Nat.div_add_mod d R
  have h2 := Nat.mod_lt d hR
  generalize d / R = q at *
  generalize d % R = s at *
  subst h1
  have h3 : (s + 1) * P ≤ R * P := Nat.mul_le_mul_right _ h2
  rw [Nat.add_mul, Nat.one_mul, hPR] at h3
  have h4 : (R * q + s) * P + t = (s * P + t) + 4294967296 * q := by
    rw [← hPR, Nat.add_mul]
    have : R * q * P = R * P * q := by ac_rfl
    omega
  rw [h4, Nat.add_mul_mod_self_left, Nat.mod_eq_of_lt (by omega)]
theorem up_step {cs xs : List Nat} {k W t P R r : Nat} (h : k + W < cs.length) (hv : lo cs (k + W) + pw (k + W) * t = pw W * (lo xs k * P)) (hw : r + 4294967296 * (dg xs k / R) = dg xs k * P + t) :
    lo (cs.set (k + W) r) (k + W + 1) + pw (k + W + 1) * (dg xs k / R) = pw W * (lo xs (k + 1) * P) := by
  rw [lo_put _ h, lo_succ xs, pw_succ]
  generalize dg xs k / R = t' at *
  have e1 : pw (k + W) * (r + 4294967296 * t') = pw (k + W) * (dg xs k * P + t) := by rw [hw]
  have e2 : pw W * ((lo xs k + pw k * dg xs k) * P) = pw W * (lo xs k * P) + pw (k + W) * (dg xs k * P) := by
    rw [Nat.add_mul, Nat.mul_add, pw_add]
    have : pw W * (pw k * dg xs k * P) = pw k * pw W * (dg xs k * P) := by ac_rfl
    omega
  have e3 : pw (k + W) * (4294967296 * t') = 4294967296 * pw (k + W) * t' := by rw [← Nat.mul_assoc, Nat.mul_comm (pw (k + W))]
  rw [Nat.mul_add, Nat.mul_add] at e1
  omega
theorem down_word {d f P R : Nat} (hPR : R * P = 4294967296) : P * (d / P + f % P * R) = d - d % P + 4294967296 * (f % P) := by
  have h1 := Nat.div_add_mod d P
  rw [Nat.mul_add]
  have : P * (f % P * R) = R * P * (f % P) := by ac_rfl
  rw [this, hPR]
  omega
theorem down_lt {d f P R : Nat} (hPR : R * P = 4294967296) (hP : 0 < P) (hd : d < 4294967296) : d / P < R ∧ d / P + f % P * R < 4294967296 := by
  have h1 : d / P < R := by rw [Nat.div_lt_iff_lt_mul hP]; omega
  refine ⟨h1, ?_⟩
  have h2 := Nat.mod_lt f hP
  have h3 : (f % P + 1) * R ≤ P * R := Nat.mul_le_mul_right _ h2
  rw [Nat.add_mul, Nat.one_mul, Nat.mul_comm P, hPR] at h3
  omega
theorem down_step {cs ds : List Nat} {k P R r z : Nat} (h : k < cs.length) (hPR : R * P = 4294967296) (hv : P * lo cs k + z = lo ds k + pw k * (dg ds k % P)) (hr : r = dg ds k / P + dg ds (k + 1) % P * R) :
    P * lo (cs.set k r) (k + 1) + z = lo ds (k + 1) + pw (k + 1) * (dg ds (k + 1) % P) := by
  have h1 := down_word (d := dg ds k) (f := dg ds (k + 1)) hPR
  rw [← hr] at h1
  rw [lo_put _ h, lo_succ, pw_succ, Nat.mul_add]
  have h2 : P * (pw k * r) = pw k * (P * r) := by ac_rfl
  have h3 := Nat.mod_le (dg ds k) P
  have h4 : pw k * (dg ds k - dg ds k % P + 4294967296 * (dg ds (k + 1) % P)) + pw k * (dg ds k % P) = pw k * dg ds k + 4294967296 * pw k * (dg ds (k + 1) % P) := by
    rw [← Nat.mul_add]
    have : pw k * (dg ds k - dg ds k % P + 4294967296 * (dg ds (k + 1) % P) + dg ds k % P) = pw k * (dg ds k + 4294967296 * (dg ds (k + 1) % P)) := by congr 1; omega
    rw [this, Nat.mul_add, ← Nat.mul_assoc, Nat.mul_comm (pw k) 4294967296]
  rw [h2, h1]
  omega
theorem down_out {cs ds : List Nat} {P z : Nat} (hP : 0 < P) (hl : cs.length = ds.length) (hz : z < P) (hv : P * lo cs ds.length + z = lo ds ds.length + pw ds.length * (dg ds ds.length % P)) : val cs = val ds / P := by
  rw [dg_ge (Nat.le_refl _), lo_all (Nat.le_refl _), lo_all (by omega), Nat.zero_mod, Nat.mul_zero, Nat.add_zero] at hv
  rw [← hv, Nat.mul_add_div hP, Nat.div_eq_of_lt hz, Nat.add_zero]
theorem val_drop_div {l : List Nat} (hw : Wds l) (k : Nat) : val (l.drop k) = val l / pw k := by
  rcases Nat.le_total l.length k with h | h
  · rw [List.drop_of_length_le h, val_nil]
    have h1 := val_lt hw
    have h2 := pw_le h
    rw [Nat.div_eq_of_lt (by omega)]
  · rw [lo_low h, Nat.add_mul_div_left _ _ (pw_pos k), Nat.div_eq_of_lt (lo_lt hw k), Nat.zero_add]
/-- The leading bits: three words, shifted. -/
theorem lead_val {l : List Nat} {n P R : Nat} (hw : Wds l) (hn : val l < pw (n + 3)) (hPR : R * P = 4294967296) (hR : 0 < R) :
    (dg l (n + 1) + 4294967296 * dg l (n + 2)) * P + dg l n / R = val l / (pw n * R) := by
  have h1 := val_of_zeros (zeros_of_lt hn)
  have e1 := lo_succ l (n + 2)
  have e2 := lo_succ l (n + 1)
  have e3 := lo_succ l n
  have p2 : pw (n + 2) = 4294967296 * (4294967296 * pw n) := by rw [pw_succ, pw_succ]
  rw [pw_succ] at e2
  rw [p2] at e1
  have e : val l = lo l n + pw n * (dg l n + R * (P * (dg l (n + 1) + 4294967296 * dg l (n + 2)))) := by
    rw [h1, show n + 3 = n + 2 + 1 from rfl, e1, show n + 2 = n + 1 + 1 from rfl, e2, e3, ← Nat.mul_assoc R, hPR]
    generalize dg l (n + 1 + 1) = a
    generalize dg l (n + 1) = b
    simp only [Nat.mul_add]
    have a1 : pw n * (4294967296 * (4294967296 * a)) = 4294967296 * (4294967296 * pw n) * a := by ac_rfl
    have a2 : pw n * (4294967296 * b) = 4294967296 * pw n * b := by ac_rfl
    omega
  rw [← Nat.div_div_eq_div_mul, e, Nat.add_mul_div_left _ _ (pw_pos n), Nat.div_eq_of_lt (lo_lt hw n), Nat.zero_add, Nat.add_mul_div_left _ _ hR, Nat.mul_comm P]
  omega
theorem top_mono {a b : List Nat} {k : Nat} (ha : Wds a) (hab : val b ≤ val a) (hal : a.length = k + 1) (hb : val b < pw (k + 1)) : dg b k ≤ dg a k := by
  have h1 := val_of_zeros (zeros_of_lt hb)
  have h2 : lo a (k + 1) = val a := lo_all (by omega)
  rw [lo_succ] at h1 h2
  have h3 := lo_lt ha k
  refine Nat.le_of_not_lt fun h => ?_
  have := Nat.mul_le_mul_left (pw k) h
  rw [Nat.mul_succ] at this
  omega
theorem diff_word {S T b F D : Nat} (hb : b ≤ 1) (hD : SubOf (S % 4294967296) (T % 4294967296) D) (hF : SubOf D b F) (hDl : D ≤ 18446744073709551615) :
    F % 4294967296 + T + b + 4294967296 * (S / 4294967296) = S + 4294967296 * (T / 4294967296 + F / 9223372036854775808) ∧ F / 9223372036854775808 ≤ 1 := by
  have h := sub_word (and_word S) (and_word T) hb hD hF hDl
  have h2 := Nat.mod_add_div S 4294967296
  have h3 := Nat.mod_add_div T 4294967296
  omega
theorem diff_step {cs xs ys : List Nat} {k cA cB b x y r b' S T : Nat} (h : k < cs.length) (hv : lo cs k + y * lo ys k + pw k * cA = x * lo xs k + pw k * (cB + b)) (hS : S = cA + x * dg xs k) (hT : T = cB + y * dg ys k)
    (hw : r + T + b + 4294967296 * (S / 4294967296) = S + 4294967296 * (T / 4294967296 + b')) :
    lo (cs.set k r) (k + 1) + y * lo ys (k + 1) + pw (k + 1) * (S / 4294967296) = x * lo xs (k + 1) + pw (k + 1) * (T / 4294967296 + b') := by
  have e : pw k * (r + T + b + 4294967296 * (S / 4294967296)) = pw k * (S + 4294967296 * (T / 4294967296 + b')) := by rw [hw]
  rw [lo_put _ h, lo_succ ys, lo_succ xs, pw_succ]
  generalize S / 4294967296 = s at *
  generalize T / 4294967296 + b' = t at *
  subst hS hT
  have a1 : pw k * (4294967296 * s) = 4294967296 * pw k * s := by rw [← Nat.mul_assoc, Nat.mul_comm (pw k)]
  have a2 : pw k * (4294967296 * t) = 4294967296 * pw k * t := by rw [← Nat.mul_assoc, Nat.mul_comm (pw k)]
  have a3 : y * (pw k * dg ys k) = pw k * (y * dg ys k) := by ac_rfl
  have a4 : x * (pw k * dg xs k) = pw k * (x * dg xs k) := by ac_rfl
  simp only [Nat.mul_add] at e hv ⊢
  omega
theorem diff_out {cs xs ys : List Nat} {n cA cB b x y r : Nat} (hw : Wds cs) (hl : cs.length = n) (ha : xs.length ≤ n) (hb : ys.length ≤ n) (hv : lo cs n + y * lo ys n + pw n * cA = x * lo xs n + pw n * (cB + b)) (hr : x * val xs = r + y * val ys) (hrn : r < pw n) : val cs = r := by
  rw [lo_all (by omega), lo_all ha, lo_all hb, hr] at hv
  have h1 : val cs + pw n * cA = r + pw n * (cB + b) := by omega
  have h2 := val_lt hw
  rw [hl] at h2
  have h3 := congrArg (· % pw n) h1
  simp only [Nat.add_mul_mod_self_left] at h3
  rw [Nat.mod_eq_of_lt h2, Nat.mod_eq_of_lt hrn] at h3
  exact h3
end Lw
