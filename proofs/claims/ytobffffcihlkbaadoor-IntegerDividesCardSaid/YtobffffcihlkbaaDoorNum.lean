/- Plain numbers as lists of words in base 2^32: values, the one trimmed list of a number, powers of the base. Nothing here names a program. -/
namespace Lw

def val : List Nat → Nat
  | [] => 0
  | x :: l => x + 4294967296 * val l

def Wds (l : List Nat) : Prop := ∀ x ∈ l, x < 4294967296
def Trm (l : List Nat) : Prop := ∀ x, l.getLast? = some x → x ≠ 0
def dg (l : List Nat) (j : Nat) : Nat := l.getD j 0
def pw (k : Nat) : Nat := 4294967296 ^ k
def lo (l : List Nat) (k : Nat) : Nat := val (l.take k)

theorem pw_zero : pw 0 = 1 := rfl
theorem pw_succ (k : Nat) : pw (k + 1) = 4294967296 * pw k := by unfold pw; rw [Nat.pow_succ]; omega
theorem pw_add (a b : Nat) : pw (a + b) = pw a * pw b := by unfold pw; rw [Nat.pow_add]
theorem pw_pos (k : Nat) : 0 < pw k := Nat.pow_pos (by omega)
theorem pw_le {a b : Nat} (h : a ≤ b) : pw a ≤ pw b := Nat.pow_le_pow_right (by omega) h

theorem val_nil : val [] = 0 := rfl
theorem val_cons (x : Nat) (l : List Nat) : val (x :: l) = x + 4294967296 * val l := rfl
theorem val_append (a b : List Nat) : val (a ++ b) = val a + pw a.length * val b := by
  induction a with
  | nil => simp [val, pw]
  | cons x l ih =>
    simp only [List.cons_append, val_cons, ih, List.length_cons, pw_succ]
    rw [Nat.mul_add]
    have : 4294967296 * (pw l.length * val b) = 4294967296 * pw l.length * val b := by rw [Nat.mul_assoc]
    omega

theorem wds_nil : Wds [] := fun _ h => by cases h
theorem wds_cons {x : Nat} {l : List Nat} : Wds (x :: l) ↔ x < 4294967296 ∧ Wds l := by simp [Wds]
theorem wds_append {a b : List Nat} : Wds (a ++ b) ↔ Wds a ∧ Wds b := by
  simp only [Wds, List.mem_append]
  exact ⟨fun h => ⟨fun x hx => h x (.inl hx), fun x hx => h x (.inr hx)⟩, fun h x hx => hx.elim (h.1 x) (h.2 x)⟩
theorem wds_take {l : List Nat} (h : Wds l) (k : Nat) : Wds (l.take k) := fun x hx => h x (List.mem_of_mem_take hx)
theorem wds_drop {l : List Nat} (h : Wds l) (k : Nat) : Wds (l.drop k) := fun x hx => h x (List.mem_of_mem_drop hx)
theorem wds_replicate (n : Nat) : Wds (List.replicate n 0) := fun x hx => by have := List.eq_of_mem_replicate hx; omega
theorem wds_set {l : List Nat} (h : Wds l) (k : Nat) {v : Nat} (hv : v < 4294967296) : Wds (l.set k v) := fun x hx => by
  rcases List.mem_or_eq_of_mem_set hx with h1 | h1
  · exact h x h1
  · omega
theorem dg_lt {l : List Nat} (h : Wds l) (j : Nat) : dg l j < 4294967296 := by
  unfold dg
  rw [List.getD_eq_getElem?_getD]
  rcases Nat.lt_or_ge j l.length with hj | hj
  · rw [List.getElem?_eq_getElem hj]; exact h _ (List.getElem_mem hj)
  · rw [List.getElem?_eq_none hj]; simp
theorem dg_ge {l : List Nat} {j : Nat} (h : l.length ≤ j) : dg l j = 0 := by
  unfold dg; rw [List.getD_eq_getElem?_getD, List.getElem?_eq_none h]; rfl
theorem dg_get {l : List Nat} {j : Nat} (h : j < l.length) : dg l j = l[j] := by
  unfold dg; rw [List.getD_eq_getElem?_getD, List.getElem?_eq_getElem h]; rfl
theorem dg_get? {l : List Nat} {j : Nat} (h : j < l.length) : l[j]? = some (dg l j) := by rw [List.getElem?_eq_getElem h, dg_get h]
theorem dg_take {l : List Nat} {j k : Nat} (h : j < k) : dg (l.take k) j = dg l j := by
  unfold dg; rw [List.getD_eq_getElem?_getD, List.getD_eq_getElem?_getD, List.getElem?_take, if_pos h]
theorem dg_drop (l : List Nat) (j k : Nat) : dg (l.drop k) j = dg l (k + j) := by
  unfold dg; rw [List.getD_eq_getElem?_getD, List.getD_eq_getElem?_getD, List.getElem?_drop]
theorem dg_set {l : List Nat} {k : Nat} (v : Nat) (h : k < l.length) (j : Nat) : dg (l.set k v) j = if j = k then v else dg l j := by
  unfold dg
  rw [List.getD_eq_getElem?_getD, List.getD_eq_getElem?_getD, List.getElem?_set]
  by_cases hj : k = j
  · subst hj; simp [h]
  · rw [if_neg hj, if_neg (by omega)]
theorem dg_replicate (n j : Nat) : dg (List.replicate n 0) j = 0 := by
  unfold dg; rw [List.getD_eq_getElem?_getD, List.getElem?_replicate]; split <;> rfl

theorem take_succ_dg (l : List Nat) (k : Nat) (h : k < l.length) : l.take (k + 1) = l.take k ++ [dg l k] := by
  rw [List.take_succ_eq_append_getElem h, dg_get h]
theorem lo_zero (l : List Nat) : lo l 0 = 0 := by simp [lo, val]
theorem lo_all {l : List Nat} {k : Nat} (h : l.length ≤ k) : lo l k = val l := by unfold lo; rw [List.take_of_length_le h]
theorem lo_succ (l : List Nat) (k : Nat) : lo l (k + 1) = lo l k + pw k * dg l k := by
  rcases Nat.lt_or_ge k l.length with h | h
  · unfold lo
    rw [take_succ_dg l k h, val_append, List.length_take, Nat.min_eq_left (Nat.le_of_lt h)]
    simp [val]
  · rw [lo_all (Nat.le_succ_of_le h), lo_all h, dg_ge h]; simp
theorem lo_set (l : List Nat) {k j : Nat} (v : Nat) (h : j ≤ k) : lo (l.set k v) j = lo l j := by
  unfold lo; rw [List.take_set_of_le h]
theorem val_lt {l : List Nat} (h : Wds l) : val l < pw l.length := by
  induction l with
  | nil => simp [val, pw]
  | cons x l ih =>
    rw [wds_cons] at h
    have := ih h.2
    simp only [val_cons, List.length_cons, pw_succ]
    omega
theorem lo_lt {l : List Nat} (h : Wds l) (k : Nat) : lo l k < pw k := by
  have h1 := val_lt (wds_take h k)
  have h2 : pw (l.take k).length ≤ pw k := pw_le (by rw [List.length_take]; omega)
  unfold lo; omega
theorem val_split (l : List Nat) (k : Nat) : val l = lo l k + pw (min k l.length) * val (l.drop k) := by
  unfold lo
  have := val_append (l.take k) (l.drop k)
  rw [List.take_append_drop, List.length_take] at this
  exact this
theorem val_replicate (n : Nat) : val (List.replicate n 0) = 0 := by
  induction n with
  | zero => rfl
  | succ n ih => rw [List.replicate_succ, val_cons, ih]
theorem val_snoc (l : List Nat) (x : Nat) : val (l ++ [x]) = val l + pw l.length * x := by rw [val_append]; simp [val]

/-! ### Trimmed lists: one for each number. -/
theorem trm_nil : Trm [] := fun x h => by cases h
theorem trm_cons {x : Nat} {l : List Nat} (h : Trm (x :: l)) : Trm l := by
  intro y hy
  refine h y ?_
  cases l with
  | nil => cases hy
  | cons z l => simpa [List.getLast?_cons_cons] using hy
theorem trm_pos {l : List Nat} (h : Trm l) (hn : l ≠ []) : 0 < val l := by
  induction l with
  | nil => exact absurd rfl hn
  | cons x l ih =>
    rw [val_cons]
    cases l with
    | nil =>
      have := h x rfl
      omega
    | cons y l =>
      have := ih (trm_cons h) (by simp)
      omega
theorem eq_of_val {a b : List Nat} (ha : Wds a) (ta : Trm a) (hb : Wds b) (tb : Trm b) (h : val a = val b) : a = b := by
  induction a generalizing b with
  | nil =>
    cases b with
    | nil => rfl
    | cons y b => have := trm_pos tb (by simp); rw [val_nil] at h; omega
  | cons x a ih =>
    cases b with
    | nil => have := trm_pos ta (by simp); rw [val_nil] at h; omega
    | cons y b =>
      rw [wds_cons] at ha hb
      rw [val_cons, val_cons] at h
      have h1 : x = y := by omega
      have h2 : val a = val b := by omega
      rw [h1, ih ha.2 (trm_cons ta) hb.2 (trm_cons tb) h2]

/-- The words of a number. -/
def digsF : Nat → Nat → List Nat
  | 0, _ => []
  | f + 1, n => if n = 0 then [] else n % 4294967296 :: digsF f (n / 4294967296)
def digs (n : Nat) : List Nat := digsF n n
theorem digsF_spec (f n : Nat) (h : n ≤ f) : val (digsF f n) = n ∧ Wds (digsF f n) ∧ Trm (digsF f n) := by
  induction f generalizing n with
  | zero => obtain rfl : n = 0 := by omega
            exact ⟨rfl, wds_nil, trm_nil⟩
  | succ f ih =>
    unfold digsF
    by_cases h0 : n = 0
    · rw [if_pos h0]; exact ⟨h0.symm, wds_nil, trm_nil⟩
    · rw [if_neg h0]
      have hd : n / 4294967296 ≤ f := by omega
      obtain ⟨h1, h2, h3⟩ := ih _ hd
      refine ⟨?_, ?_, ?_⟩
      · rw [val_cons, h1]; omega
      · rw [wds_cons]; exact ⟨Nat.mod_lt _ (by omega), h2⟩
      · intro x hx
        cases hc : digsF f (n / 4294967296) with
        | nil =>
          rw [hc] at hx h1
          rw [val_nil] at h1
          simp at hx
          omega
        | cons y l =>
          rw [hc] at hx h3
          rw [List.getLast?_cons_cons] at hx
          exact h3 x hx
theorem val_digs (n : Nat) : val (digs n) = n := (digsF_spec n n (Nat.le_refl _)).1
theorem wds_digs (n : Nat) : Wds (digs n) := (digsF_spec n n (Nat.le_refl _)).2.1
theorem trm_digs (n : Nat) : Trm (digs n) := (digsF_spec n n (Nat.le_refl _)).2.2
theorem digs_val {l : List Nat} (h : Wds l) (t : Trm l) : digs (val l) = l := eq_of_val (wds_digs _) (trm_digs _) h t (val_digs _)
theorem digs_zero : digs 0 = [] := rfl
theorem digs_eq_nil {n : Nat} : digs n = [] ↔ n = 0 := ⟨fun h => by have := val_digs n; rw [h] at this; exact this.symm, fun h => by rw [h]; rfl⟩
/-- A list without its zeros at the end. -/
theorem digs_snoc_zero {l : List Nat} : digs (val (l ++ [0])) = digs (val l) := by rw [val_snoc]; simp
theorem trm_of_last {l : List Nat} (h : dg l (l.length - 1) ≠ 0) : Trm l := by
  intro x hx
  rw [List.getLast?_eq_getElem?] at hx
  unfold dg at h
  rw [List.getD_eq_getElem?_getD, hx] at h
  simpa using h
theorem digs_of_last {l : List Nat} (hw : Wds l) (h : dg l (l.length - 1) ≠ 0) : digs (val l) = l := digs_val hw (trm_of_last h)
theorem val_of_zero_last {l : List Nat} (hn : 0 < l.length) (h : dg l (l.length - 1) = 0) : val (l.take (l.length - 1)) = val l := by
  have h1 := lo_succ l (l.length - 1)
  rw [h, Nat.sub_add_cancel (by omega), lo_all (Nat.le_refl _)] at h1
  unfold lo at h1
  omega
theorem lt_of_digs_length {n k : Nat} (h : (digs n).length ≤ k) : n < pw k := by
  have := val_lt (wds_digs n)
  rw [val_digs] at this
  exact Nat.lt_of_lt_of_le this (pw_le h)
theorem pw_le_val {l : List Nat} (t : Trm l) (h : l ≠ []) : pw (l.length - 1) ≤ val l := by
  have hl : 0 < l.length := List.length_pos_iff.2 h
  have h1 := lo_succ l (l.length - 1)
  rw [Nat.sub_add_cancel hl, lo_all (Nat.le_refl _)] at h1
  have h2 : dg l (l.length - 1) ≠ 0 := by
    refine t _ ?_
    rw [List.getLast?_eq_getElem?, dg_get? (by omega)]
  have h3 : pw (l.length - 1) * 1 ≤ pw (l.length - 1) * dg l (l.length - 1) := Nat.mul_le_mul_left _ (by omega)
  omega
theorem digs_length_le {n k : Nat} (h : n < pw k) : (digs n).length ≤ k := by
  rcases Nat.lt_or_ge k (digs n).length with h1 | h1
  · exfalso
    have h2 := pw_le_val (trm_digs n) (by intro e; rw [e] at h1; simp at h1)
    rw [val_digs] at h2
    have h3 : pw k ≤ pw ((digs n).length - 1) := pw_le (by omega)
    omega
  · exact h1
theorem lt_pw_of_length {a b : List Nat} (ha : Wds a) (tb : Trm b) (h : a.length < b.length) : val a < val b := by
  have h1 := val_lt ha
  have h2 := pw_le_val tb (by intro e; rw [e] at h; simp at h)
  have h3 : pw a.length ≤ pw (b.length - 1) := pw_le (by omega)
  omega
end Lw
