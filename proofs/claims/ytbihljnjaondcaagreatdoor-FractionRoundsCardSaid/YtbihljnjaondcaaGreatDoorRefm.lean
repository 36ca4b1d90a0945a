/- The arithmetic of the reference's divide and gcd. -/
import Derived.Test.YtbihljnjaondcaaGreatDoorNum
import Derived.Test.YtbihljnjaondcaaGreatDoorRefc
import Derived.Deep.RegionHeld3
import Derived.Deep.LoopGhost
import Derived.Test.YtbihljnjaondcaaGreatDoorRefo
import Derived.Test.YtbihljnjaondcaaGreatDoorDivz
import Derived.Test.YtbihljnjaondcaaGreatDoorAwake
import Derived.Test.YtbihljnjaondcaaGreatDoorGcdl
namespace Lw
/-- The division bit by bit: ahead of bit j, the quotient so far Q and the rest so far R of X by Y. -/
def Dv (X Y j Q R : Nat) : Prop := R < Y ∧ ∃ q, Q = q * 2 ^ j ∧ X / 2 ^ j = q * Y + R
theorem dv_start {X Y j : Nat} (hY : 0 < Y) (h : X < 2 ^ j) : Dv X Y j 0 0 := ⟨hY, 0, by simp, by rw [Nat.div_eq_of_lt h]; simp⟩
theorem dv_out {X Y Q R : Nat} (h : Dv X Y 0 Q R) : Q = X / Y ∧ R = X % Y := by
  obtain ⟨h1, q, h2, h3⟩ := h
  simp only [Nat.pow_zero, Nat.mul_one, Nat.div_one] at h2 h3
  subst h2
  subst h3
  have hY : 0 < Y := by omega
  rw [Nat.mul_comm, Nat.mul_add_div hY, Nat.mul_add_mod, Nat.div_eq_of_lt h1, Nat.mod_eq_of_lt h1]
  exact ⟨rfl, rfl⟩
theorem half_div (X j : Nat) : X / 2 ^ j = 2 * (X / 2 ^ (j + 1)) + X / 2 ^ j % 2 := by
  rw [Nat.pow_succ, ← Nat.div_div_eq_div_mul]; omega
theorem dv_no {X Y j Q R R' : Nat} (h : Dv X Y (j + 1) Q R) (hR : R' = 2 * R + X / 2 ^ j % 2) (hl : R' < Y) : Dv X Y j Q R' := by
  obtain ⟨h1, q, h2, h3⟩ := h
  refine ⟨hl, 2 * q, by rw [h2, Nat.pow_succ]; grind, ?_⟩
  rw [half_div X j, h3, hR]; grind
theorem dv_yes {X Y j Q R R' : Nat} (h : Dv X Y (j + 1) Q R) (hR : R' = 2 * R + X / 2 ^ j % 2) (hl : Y ≤ R') : Dv X Y j (Q + 2 ^ j) (R' - Y) := by
  obtain ⟨h1, q, h2, h3⟩ := h
  have h4 : X / 2 ^ j % 2 < 2 := Nat.mod_lt _ (by omega)
  refine ⟨by omega, 2 * q + 1, by rw [h2, Nat.pow_succ]; grind, ?_⟩
  rw [half_div X j, h3, Nat.add_mul, Nat.one_mul]
  have : 2 * (q * Y + R) = 2 * q * Y + 2 * R := by grind
  omega
theorem dg_div {l : List Nat} (h : Wds l) (k : Nat) : dg l k = val l / pw k % 4294967296 := by
  rcases Nat.lt_or_ge k l.length with hk | hk
  · have h1 := lo_lt h k
    have h2 : val l = lo l k + pw k * val (l.drop k) := by have := val_split l k; rwa [Nat.min_eq_left (by omega)] at this
    have h3 : val (l.drop k) = dg l k + 4294967296 * val (l.drop (k + 1)) := by
      rw [List.drop_eq_getElem_cons hk, val_cons, dg_get hk]
    have h4 := dg_lt h k
    rw [h2, Nat.add_mul_div_left _ _ (pw_pos k), Nat.div_eq_of_lt h1, h3]
    omega
  · rw [dg_ge hk, Nat.div_eq_of_lt (Nat.lt_of_lt_of_le (val_lt h) (pw_le hk))]
theorem pow_halves (s : Nat) : 2 ^ s = pw (s / 32) * 2 ^ (s % 32) := by
  unfold pw
  rw [show (4294967296 : Nat) = 2 ^ 32 from rfl, ← Nat.pow_mul, ← Nat.pow_add]
  congr 1; omega
theorem pow_cut {t : Nat} (h : t ≤ 31) : (4294967296 : Nat) = 2 ^ t * (2 * 2 ^ (31 - t)) := by
  rw [← Nat.pow_succ', ← Nat.pow_add, show t + (31 - t + 1) = 32 by omega]
theorem bit_of {l : List Nat} (h : Wds l) (j : Nat) : dg l (j / 32) / 2 ^ (j % 32) % 2 = val l / 2 ^ j % 2 := by
  rw [dg_div h, pow_halves j, ← Nat.div_div_eq_div_mul]
  generalize val l / pw (j / 32) = H
  have h1 := pow_cut (t := j % 32) (by omega)
  have h2 := Nat.mod_add_div H 4294967296
  generalize H % 4294967296 = x at *
  generalize H / 4294967296 = y at *
  rw [← h2, h1, Nat.mul_assoc, Nat.add_mul_div_left _ _ (Nat.pow_pos (by omega)), Nat.mul_assoc]
  omega
/-- The bit of a quotient that has none below bit j + 1. -/
theorem bit_set {l : List Nat} {q j : Nat} (h : Wds l) (hv : val l = q * 2 ^ (j + 1)) :
    ∃ e, dg l (j / 32) = e * 2 ^ (j % 32 + 1) ∧ dg l (j / 32) + 2 ^ (j % 32) < 4294967296 := by
  have h1 := pow_cut (t := j % 32) (by omega)
  have hp : 0 < 2 ^ (j % 32) := Nat.pow_pos (by omega)
  have e1 : val l / pw (j / 32) = q * 2 ^ (j % 32 + 1) := by
    rw [hv, Nat.pow_succ, pow_halves j, show q * (pw (j / 32) * 2 ^ (j % 32) * 2) = pw (j / 32) * (q * 2 ^ (j % 32 + 1)) by rw [Nat.pow_succ]; grind, Nat.mul_div_cancel_left _ (pw_pos _)]
  have e2 := dg_div h (j / 32)
  rw [e1] at e2
  have e3 : (4294967296 : Nat) = 2 ^ (j % 32 + 1) * 2 ^ (31 - j % 32) := by rw [← Nat.pow_add, show j % 32 + 1 + (31 - j % 32) = 32 by omega]
  have hq : 0 < 2 ^ (31 - j % 32) := Nat.pow_pos (by omega)
  have e4 : q * 2 ^ (j % 32 + 1) % 4294967296 = (q % 2 ^ (31 - j % 32)) * 2 ^ (j % 32 + 1) := by
    rw [e3, Nat.mul_comm q, Nat.mul_mod_mul_left, Nat.mul_comm]
  rw [e4] at e2
  refine ⟨q % 2 ^ (31 - j % 32), e2, ?_⟩
  have h5 := Nat.mod_lt q hq
  have h6 : (q % 2 ^ (31 - j % 32) + 1) * 2 ^ (j % 32 + 1) ≤ 2 ^ (31 - j % 32) * 2 ^ (j % 32 + 1) := Nat.mul_le_mul_right _ h5
  have e5 : 2 ^ (j % 32 + 1) = 2 * 2 ^ (j % 32) := Nat.pow_succ'
  rw [e2]
  generalize q % 2 ^ (31 - j % 32) = E at *
  generalize 2 ^ (31 - j % 32) = F at *
  rw [e5] at *
  generalize 2 ^ (j % 32) = P at *
  rw [Nat.mul_comm] at e3
  have e6 : (E + 1) * (2 * P) = E * (2 * P) + 2 * P := by grind
  omega
theorem val_set {l : List Nat} {k : Nat} (v : Nat) (h : k < l.length) : val (l.set k v) + pw k * dg l k = val l + pw k * v := by
  induction l generalizing k with
  | nil => simp at h
  | cons x l ih =>
    cases k with
    | zero => simp [val_cons, pw_zero, dg]; omega
    | succ k =>
      have := ih (k := k) (by simpa using h)
      rw [List.set_cons_succ, val_cons, val_cons, pw_succ, show dg (x :: l) (k + 1) = dg l k by simp [dg]]
      grind
theorem val_bit {l : List Nat} {j : Nat} (h : j / 32 < l.length) : val (l.set (j / 32) (dg l (j / 32) + 2 ^ (j % 32))) = val l + 2 ^ j := by
  have := val_set (l := l) (dg l (j / 32) + 2 ^ (j % 32)) h
  rw [pow_halves j]
  rw [Nat.mul_add] at this
  omega
theorem gcd_odd {a b : Nat} (h : ¬(a % 2 = 0 ∧ b % 2 = 0)) : Nat.gcd a b % 2 = 1 := by
  rcases Nat.mod_two_eq_zero_or_one (Nat.gcd a b) with h1 | h1
  · exfalso
    have h2 : 2 ∣ Nat.gcd a b := Nat.dvd_of_mod_eq_zero h1
    have h3 := Nat.mod_eq_zero_of_dvd (Nat.dvd_trans h2 (Nat.gcd_dvd_left a b))
    have h4 := Nat.mod_eq_zero_of_dvd (Nat.dvd_trans h2 (Nat.gcd_dvd_right a b))
    exact h ⟨h3, h4⟩
  · exact h1
theorem gcd_strip {a b : Nat} (h : Nat.gcd a b % 2 = 1) (ha : a % 2 = 0) : Nat.gcd (a / 2) b = Nat.gcd a b := by
  have hb : b % 2 = 1 := by
    rcases Nat.mod_two_eq_zero_or_one b with h1 | h1
    · exfalso
      have := Nat.mod_eq_zero_of_dvd (Nat.dvd_gcd (Nat.dvd_of_mod_eq_zero ha) (Nat.dvd_of_mod_eq_zero h1))
      omega
    · exact h1
  have hc : Nat.Coprime 2 b := by
    unfold Nat.Coprime
    have h1 := Nat.gcd_rec 2 b
    rw [h1, hb]; rfl
  have e : a = 2 * (a / 2) := by omega
  have := Nat.Coprime.gcd_mul_left_cancel (a / 2) hc
  rw [← e] at this
  exact this.symm
theorem gcd_both {a b : Nat} (ha : a % 2 = 0) (hb : b % 2 = 0) : 2 * Nat.gcd (a / 2) (b / 2) = Nat.gcd a b := by
  rw [← Nat.gcd_mul_left, show 2 * (a / 2) = a by omega, show 2 * (b / 2) = b by omega]
/-- The twos that both have are split off. -/
def Gt (G a0 T a b : Nat) : Prop := 2 ^ T * Nat.gcd a b = G ∧ 2 ^ T * a = a0 ∧ 0 < a ∧ 0 < b
theorem gt_start {a b : Nat} (ha : 0 < a) (hb : 0 < b) : Gt (Nat.gcd a b) a 0 a b := ⟨by simp, by simp, ha, hb⟩
theorem gt_step {G a0 T a b : Nat} (h : Gt G a0 T a b) (ha : a % 2 = 0) (hb : b % 2 = 0) : Gt G a0 (T + 1) (a / 2) (b / 2) ∧ a / 2 < a := by
  obtain ⟨h1, h2, h3, h4⟩ := h
  refine ⟨⟨?_, ?_, by omega, by omega⟩, by omega⟩
  · rw [Nat.pow_succ, Nat.mul_assoc, gcd_both ha hb]; exact h1
  · rw [Nat.pow_succ, Nat.mul_assoc, show 2 * (a / 2) = a by omega]; exact h2
theorem gt_small {G a0 T a b k : Nat} (h : Gt G a0 T a b) (hk : a0 < 4294967296 ^ k) : T < 32 * k := by
  obtain ⟨_, h2, h3, _⟩ := h
  have h1 : 2 ^ T * 1 ≤ 2 ^ T * a := Nat.mul_le_mul_left _ h3
  have h4 : (4294967296 : Nat) ^ k = 2 ^ (32 * k) := by rw [Nat.pow_mul]
  have h5 : 2 ^ T < 2 ^ (32 * k) := by omega
  exact (Nat.pow_lt_pow_iff_right (by omega)).1 h5
/-- The odd divisor of a and b is g. -/
def Gw (g a b : Nat) : Prop := Nat.gcd a b = g ∧ g % 2 = 1 ∧ 0 < b
theorem gw_left {g a b : Nat} (h : Gw g a b) (ha : a % 2 = 0) : Gw g (a / 2) b := by
  obtain ⟨h1, h2, h3⟩ := h
  exact ⟨by rw [gcd_strip (by rw [h1]; exact h2) ha, h1], h2, h3⟩
theorem gw_right {g a b : Nat} (h : Gw g a b) (hb : b % 2 = 0) : Gw g a (b / 2) := by
  obtain ⟨h1, h2, h3⟩ := h
  exact ⟨by rw [Nat.gcd_comm, gcd_strip (by rw [Nat.gcd_comm, h1]; exact h2) hb, Nat.gcd_comm, h1], h2, by omega⟩
theorem gw_take {g a b : Nat} (h : Gw g a b) (hl : b ≤ a) : Gw g (a - b) b := ⟨by rw [Nat.gcd_sub_self_left hl]; exact h.1, h.2.1, h.2.2⟩
theorem gw_swap {g a b : Nat} (h : Gw g a b) (ha : 0 < a) : Gw g b a := ⟨by rw [Nat.gcd_comm]; exact h.1, h.2.1, ha⟩
theorem gw_end {g b : Nat} (h : Gw g 0 b) : b = g := by have := h.1; rwa [Nat.gcd_zero_left] at this
/-- A number halved word by word, from below. -/
theorem halve_step {ds ns : List Nat} {k d x y : Nat} (hv : 2 * lo ds k + dg ns 0 % 2 = lo ns k + pw k * (dg ns k % 2)) (hx : x = dg ns k) (hy : y = dg ns (k + 1)) (hd : d = x / 2 + y % 2 * 2147483648) :
    2 * (lo ds k + pw k * d) + dg ns 0 % 2 = lo ns (k + 1) + pw (k + 1) * (dg ns (k + 1) % 2) := by
  rw [lo_succ, pw_succ, ← hx, ← hy]
  rw [← hx] at hv
  have e : pw k * (2 * d + x % 2) = pw k * (x + 4294967296 * (y % 2)) := by congr 1; omega
  grind
theorem halve_end {ds ns : List Nat} {n : Nat} (hd : ds.length = n) (hn : ns.length = n) (hv : 2 * lo ds n + dg ns 0 % 2 = lo ns n + pw n * (dg ns n % 2)) : val ds = val ns / 2 := by
  rw [lo_all (by omega), lo_all (by omega), dg_ge (l := ns) (j := n) (by omega)] at hv
  simp at hv
  omega
theorem low_bit {ns : List Nat} : dg ns 0 % 2 = val ns % 2 := by
  cases ns with
  | nil => rfl
  | cons x l => rw [val_cons, show dg (x :: l) 0 = x from rfl]; omega
end Lw
/-! Walks of the reference: cut, halve, take, divide. -/
namespace Lw
open Go Go.RowKit
theorem lt_nbits {l : List Nat} (h : Wds l) : val l < 2 ^ nbits l := by
  unfold nbits
  split
  · rename_i h0; rw [List.eq_nil_of_length_eq_zero h0]; simp [val]
  · rename_i h0
    have h1 := lo_succ l (l.length - 1)
    rw [show l.length - 1 + 1 = l.length by omega, lo_all (Nat.le_refl _)] at h1
    have h2 := lo_lt h (l.length - 1)
    have h3 := dg_lt h (l.length - 1)
    generalize dg l (l.length - 1) = d at *
    have h4 : d < 2 ^ Lib.bitLen d := by
      rcases Nat.eq_zero_or_pos d with h0 | h0
      · subst h0; exact Nat.pow_pos (by omega)
      · exact (bitLen_spec (by omega) (by omega)).2.2.1
    rw [Nat.pow_add, show 2 ^ ((l.length - 1) * 32) = pw (l.length - 1) by unfold pw; rw [Nat.mul_comm, Nat.pow_mul]]
    have h5 : pw (l.length - 1) * (d + 1) ≤ pw (l.length - 1) * 2 ^ Lib.bitLen d := Nat.mul_le_mul_left _ h4
    rw [Nat.mul_add, Nat.mul_one] at h5
    omega
theorem nbits_top {l : List Nat} (h : Wds l) : nbits l ≤ 32 * l.length := by
  unfold nbits
  split
  · omega
  · have := bitLen_32 (dg_lt h (l.length - 1)); omega
theorem half_or {x y : Nat} (hx : x < 4294967296) (hy : y < 4294967296) : bits .or .u64 ((x : Int) / 2) ((y : Int) * 2147483648) = ((x / 2 + 2147483648 * y : Nat) : Int) := by
  have h1 := u64_or_nat (x / 2) (y * 2147483648) (by omega) (by omega)
  have h2 := u64_or_nat (y * 2147483648) (x / 2) (by omega) (by omega)
  rw [Nat.or_comm] at h1
  have h3 := or_add (i := 31) (a := y) (b := x / 2) (by simp only [Nat.reducePow]; omega)
  simp only [Nat.reducePow] at h3
  rw [h3] at h1
  rw [show (x : Int) / 2 = ((x / 2 : Nat) : Int) by omega, show (y : Int) * 2147483648 = ((y * 2147483648 : Nat) : Int) by omega, h1]
  omega
theorem took_step {ds ns ms : List Nat} {k b d R x y : Nat} (hk : k < ds.length) (hv : lo ds k + lo ms k = lo ns k + pw k * b) (hb : b ≤ 1) (hx : x = dg ns k) (hy : y = dg ms k) (hn : x < 4294967296) (hm : y < 4294967296) (hd : d = 4294967296 + x - y - b) (hR : R = d % 4294967296) :
    lo (ds.set k R) (k + 1) + lo ms (k + 1) = lo ns (k + 1) + pw (k + 1) * (1 - d / 4294967296) ∧ 1 - d / 4294967296 ≤ 1 := by
  refine ⟨?_, by omega⟩
  rw [lo_put _ hk, lo_succ ms, lo_succ ns, pw_succ, ← hx, ← hy]
  have h5 : R + y + b = x + 4294967296 * (1 - d / 4294967296) := by omega
  generalize 1 - d / 4294967296 = q at *
  have h2 : pw k * (R + y + b) = pw k * (x + 4294967296 * q) := by rw [h5]
  grind
end Lw
namespace Go.Proofs.YtbihljnjaondcaaGreatDoor
open Go Go.RowKit Lw
/-- A trimmed number at the head of a new block, its length behind a letter. -/
def LenOut (w : World) (N : Nat) (e : Ending) (w' : World) : Prop :=
  ∃ g n c, e = .returned (.slice (some ⟨g, 0, none⟩) n c) ∧ Hid ((digs N).length = n) ∧ n ≤ c ∧ w.heap.size ≤ g ∧ Blk w' g 99 (digs N) ∧ Below w.heap.size w w'
theorem lenOut {w w' : World} {N : Nat} {e : Ending} (h : TrimOut w N e w') : LenOut w N e w' := by
  obtain ⟨g, c, h1, h2, h3, h4, h5⟩ := h
  exact ⟨g, _, c, h1, Lib.hid rfl, h2, h3, h4, h5⟩
theorem reftrimL_any (A : Option Addr) (ns : List Nat) (n c B N : Nat) (w : World) (h : Rd w B A ns) (hB : B ≤ w.heap.size) (hn : ns.length = n) (hl : n ≤ 4294967296) (hN : val ns = N) :
    Calls Tryz.prog 184 #[.slice A n c] w (LenOut w N) := by
  subst hN; exact (reftrim_any A ns n c B w h hB hn hl).mono fun e w' hh => lenOut hh
theorem atI_any (A : Option Addr) (ns : List Nat) (n c B k : Nat) (i : Int) (w : World) (h : Rd w B A ns) (hn : ns.length = n) (hl : n ≤ 4294967296) (hi : i = (k : Int)) :
    Calls Tryz.prog 215 #[.slice A n c, .int .i64 i] w fun e w' => e = .returned (.int .u64 (dg ns k : Int)) ∧ w = w' := by
  subst hi; exact at_any A ns n c B k w h hn hl
set_option maxHeartbeats 400000 in
theorem refcut_any (A : Option Addr) (ns : List Nat) (n c B : Nat) (w : World) (h : Rd w B A ns) (hn : ns.length = n) (hc : n ≤ c) (hl : n ≤ 4294967296) :
    Calls Tryz.prog 240 #[.slice A n c] w fun e w' => e = .returned (.slice A (digs (val ns)).length c) ∧ w = w' := by
  have Hn := Lib.hid hn
  go_enter Tryz.func240, Tryz.ntmps240
  clear hn
  go_wp2
  go_loop [0] (fun v => ∃ k : Nat, k ≤ n ∧ v = .slice A k c ∧ Hid (val (ns.take k) = val ns)) (fun v => cnt v)
  case atStart => exact ⟨n, Nat.le_refl _, rfl, Lib.hid (by rw [← Hn.out, List.take_length])⟩
  case round =>
    obtain ⟨k, hk, rfl, hv⟩ := hrel
    by_cases hk0 : k = 0
    · subst hk0
      go_wp2
      go_ret
      exact ⟨ret_slice (take_digs h.wds (Nat.zero_le _) hv.out (.inl rfl)), rfl⟩
    · obtain ⟨b, off, rfl, hb, hcell, hlt⟩ := h.at_ (k := k - 1) (by rw [Hn.out]; omega)
      by_cases hd : dg ns (k - 1) = 0
      · have HV : Hid (val (ns.take (k - 1)) = val ns) := Lib.hid (take_zero_last (by rw [Hn.out]; exact hk) hk0 hv.out hd)
        go_wp2
        go_round
        case rel => exact ⟨k - 1, by omega, rfl, HV⟩
        case measure => simp [cnt]; omega
      · go_wp2
        go_ret
        exact ⟨ret_slice (take_digs h.wds (by rw [Hn.out]; exact hk) hv.out (.inr hd)), rfl⟩
set_option maxRecDepth 100000 in
set_option maxHeartbeats 1600000 in
theorem halve_any (g : Nat) (ns : List Nat) (n c : Nat) (w : World) (hb : Blk w g 99 ns) (hw : Wds ns) (hn : ns.length = n) (hc : n ≤ c) (hl : n ≤ 16777216) :
    Calls Tryz.prog 239 #[.slice (some ⟨g, 0, none⟩) n c] w fun e w' => e = .returned (.slice (some ⟨g, 0, none⟩) (digs (val ns / 2)).length c) ∧ (digs (val ns / 2)).length ≤ n ∧ Blk w' g 99 (digs (val ns / 2)) ∧ w.grownBy w' (some g) ∧ w'.heap.size = w.heap.size := by
  have Hn := Lib.hid hn
  clear hn
  go_enter Tryz.func239, Tryz.ntmps239
  go_wp2_with fail
  go_loopw [6] (fun i wr => ∃ (k : Nat) (ds : List Nat), k ≤ n ∧ i = .int .i64 k ∧ Blk wr g 99 ds ∧ Hid (ds.length = n) ∧ Wds ds ∧ Hid (∀ j, k ≤ j → dg ds j = dg ns j) ∧ Hid (2 * lo ds k + dg ns 0 % 2 = lo ns k + pw k * (dg ns k % 2)) ∧ Hid (w.grownBy wr (some g) ∧ wr.heap.size = w.heap.size)) (fun i _ => n - (intOf i).toNat)
  case atStart => exact ⟨0, ns, Nat.zero_le _, rfl, hb, Hn, hw, Lib.hid (fun _ _ => rfl), Lib.hid (by simp only [lo_zero, pw_zero]; omega), Lib.hid ⟨World.grownBy.refl w _, rfl⟩⟩
  case round =>
    obtain ⟨k, ds, hk, rfl, hb1, hdl, hdw, hsame, hv, hg⟩ := hrel
    clear hb
    have hr := hb1.rd hdw
    by_cases hkn : k < n
    · have hlt := dg_lt hdw k
      have hlt' := dg_lt hdw (k + 1)
      have hfr := hb1.frozen k
      have hcc := hb1.cell (i := k) (by rw [hdl.out]; exact hkn)
      have HSET := Lib.hid (fun v => hb1.set_ (i := k) v (by rw [hdl.out]; exact hkn))
      have Hst := fun D x y (e1 : x = dg ds k) (e2 : y = dg ds (k + 1)) e3 => halve_step (d := D) (x := x) (y := y) hv.out (by rw [e1, hsame.out k (Nat.le_refl _)]) (by rw [e2, hsame.out (k + 1) (by omega)]) e3
      have Hx := fun W hW => at_any (some ⟨g, 0, none⟩) ds n c wr.heap.size k W hW hdl.out (by omega)
      have Hy := fun W hW => atI_any (some ⟨g, 0, none⟩) ds n c wr.heap.size (k + 1) ((k : Int) + 1) W hW hdl.out (by omega) (by omega)
      obtain ⟨x, hx⟩ : ∃ x, x = dg ds k := ⟨_, rfl⟩
      obtain ⟨y, hy⟩ : ∃ y, y = dg ds (k + 1) := ⟨_, rfl⟩
      obtain ⟨D, hD⟩ : ∃ D, D = x / 2 + y % 2 * 2147483648 := ⟨_, rfl⟩
      have HST := Lib.hid (Hst D x y hx hy hD)
      rw [← hx] at hlt hcc Hx
      rw [← hy] at hlt' Hy
      have HX := Lib.hid Hx
      have HY := Lib.hid Hy
      obtain ⟨O, hOO⟩ : ∃ O, O = x / 2 + 2147483648 * y := ⟨_, rfl⟩
      have hO := half_or hlt hlt'
      rw [← hOO] at hO
      have hM : (O : Int) % 4294967296 = (D : Int) := by omega
      have hDl : D < 4294967296 := by omega
      clear Hst Hx Hy hx hy hD hOO
      go_wp2_with fail
      refine (HX.out _ hr).mono ?_
      rintro e w' ⟨rfl, rfl⟩
      go_wp2_with fail
      refine (HY.out _ hr).mono ?_
      rintro e w' ⟨rfl, rfl⟩
      go_wp2_with fail
      go_roundw
      case rel =>
        refine ⟨k + 1, ds.set k D, by omega, by go_num, HSET.out D, Lib.hid (by rw [List.length_set]; exact hdl.out), wds_set hdw _ hDl, Lib.hid ?_, Lib.hid ?_, Lib.hid ⟨grown_set hg.out.1 _ _, by simp [hg.out.2]⟩⟩
        · intro j hj
          rw [dg_set _ (by rw [hdl.out]; exact hkn), if_neg (by omega)]
          exact hsame.out j (by omega)
        · rw [lo_put _ (by rw [hdl.out]; exact hkn)]; exact HST.out
      case measure => simp [intOf]; omega
    · obtain rfl : k = n := by omega
      have HV : Hid (val ds = val ns / 2) := Lib.hid (halve_end hdl.out Hn.out hv.out)
      have HB := Lib.hid (hb1.digs hdw)
      go_wp2_with fail
      refine (refcut_any _ ds k c _ _ hr hdl.out hc (by omega)).mono ?_
      rintro e w' ⟨rfl, rfl⟩
      rw [HV.out]
      go_wp2_with fail
      go_ret
      exact ⟨rfl, by rw [← HV.out]; have := digs_len_le hdw; rw [hdl.out] at this; exact this, by rw [← HV.out]; exact HB.out, hg.out.1, hg.out.2⟩
set_option maxRecDepth 100000 in
set_option maxHeartbeats 1600000 in
theorem take_any (g : Nat) (ns ms : List Nat) (n m c c' B : Nat) (A' : Option Addr) (w : World) (hb : Blk w g 99 ns) (hw : Wds ns) (h' : Rd w B A' ms) (hB : B ≤ w.heap.size) (hne : 0 < m → ∀ a, A' = some a → a.block ≠ g) (hn : ns.length = n) (hm : ms.length = m) (hmn : m ≤ n) (hl : n ≤ 16777216) (hle : val ms ≤ val ns) :
    Calls Tryz.prog 216 #[.slice (some ⟨g, 0, none⟩) n c, .slice A' m c'] w fun e w' => ∃ ds, e = .returned (.tuple #[]) ∧ Blk w' g 99 ds ∧ Wds ds ∧ ds.length = n ∧ val ds = val ns - val ms ∧ w.grownBy w' (some g) ∧ w'.heap.size = w.heap.size := by
  have Hn := Lib.hid hn
  have Hm := Lib.hid hm
  have HLE := Lib.hid hle
  have HNE := Lib.hid hne
  clear hn hm hle hne
  go_enter Tryz.func216, Tryz.ntmps216
  go_wp2_with fail
  go_loopw [4, 9] (fun bv i wr => ∃ (k b : Nat) (ds : List Nat), k ≤ n ∧ b ≤ 1 ∧ i = .int .i64 k ∧ bv = .int .u64 b ∧ Blk wr g 99 ds ∧ Hid (ds.length = n) ∧ Wds ds ∧ Hid (∀ j, k ≤ j → dg ds j = dg ns j) ∧ Hid (lo ds k + lo ms k = lo ns k + pw k * b) ∧ Hid (w.grownBy wr (some g) ∧ wr.heap.size = w.heap.size)) (fun _ i _ => n - (intOf i).toNat)
  case atStart => exact ⟨0, 0, ns, Nat.zero_le _, by omega, rfl, rfl, hb, Hn, hw, Lib.hid (fun _ _ => rfl), Lib.hid (by rw [lo_zero, lo_zero]; rfl), Lib.hid ⟨World.grownBy.refl w _, rfl⟩⟩
  case round =>
    obtain ⟨k, b, ds, hk, hcar, rfl, rfl, hb1, hdl, hdw, hsame, hv, hg⟩ := hrel
    clear hb
    have hr := hb1.rd hdw
    have hr' := h'.grown hg.out.1 hB (fun hp => HNE.out (by rw [← Hm.out]; exact hp))
    by_cases hkn : k < n
    · have hlt := dg_lt hdw k
      have hlt' := dg_lt hr'.wds k
      have hfr := hb1.frozen k
      have hcc := hb1.cell (i := k) (by rw [hdl.out]; exact hkn)
      have HSET := Lib.hid (fun v => hb1.set_ (i := k) v (by rw [hdl.out]; exact hkn))
      have Hst := fun D R x y (e1 : x = dg ds k) e2 e3 e4 e5 e6 => took_step (d := D) (R := R) (x := x) (y := y) (by rw [hdl.out]; exact hkn) hv.out hcar (by rw [e1, hsame.out k (Nat.le_refl _)]) e2 e3 e4 e5 e6
      have Hx := fun W hW => at_any (some ⟨g, 0, none⟩) ds n c wr.heap.size k W hW hdl.out (by omega)
      have Hy := fun W (hW : Rd W B A' ms) => at_any A' ms m c' B k W hW Hm.out (by omega)
      obtain ⟨x, hx⟩ : ∃ x, x = dg ds k := ⟨_, rfl⟩
      obtain ⟨y, hy⟩ : ∃ y, y = dg ms k := ⟨_, rfl⟩
      rw [← hx] at hlt hcc Hx
      rw [← hy] at hlt' Hy
      obtain ⟨D, hD⟩ : ∃ D, D = 4294967296 + x - y - b := ⟨_, rfl⟩
      obtain ⟨R, hR⟩ : ∃ R, R = D % 4294967296 := ⟨_, rfl⟩
      have HST := Lib.hid (Hst D R x y hx hy hlt hlt' hD hR)
      have HX := Lib.hid Hx
      have HY := Lib.hid Hy
      have hDl : D ≤ 8589934591 := by omega
      have hRl : R < 4294967296 := by omega
      have hD1 : ((4294967296 : Int) + (x : Int) - (y : Int) - (b : Int)) = (D : Int) := by omega
      have hR1 : (D : Int) % 4294967296 = (R : Int) := by omega
      clear Hst Hx Hy hx hy hD hR
      go_wp2_with fail
      refine (HX.out _ hr).mono ?_
      rintro e w' ⟨rfl, rfl⟩
      go_wp2_with fail
      refine (HY.out _ hr').mono ?_
      rintro e w' ⟨rfl, rfl⟩
      go_wp2_with fail
      go_roundw
      case rel =>
        refine ⟨k + 1, 1 - D / 4294967296, ds.set k R, by omega, by omega, by go_num, by go_num, HSET.out R, Lib.hid (by rw [List.length_set]; exact hdl.out), wds_set hdw _ hRl, Lib.hid ?_, Lib.hid HST.out.1, Lib.hid ⟨grown_set hg.out.1 _ _, by simp [hg.out.2]⟩⟩
        intro j hj
        rw [dg_set _ (by rw [hdl.out]; exact hkn), if_neg (by omega)]
        exact hsame.out j (by omega)
      case measure => simp [intOf]; omega
    · obtain rfl : k = n := by omega
      have HV : Hid (val ds = val ns - val ms) := Lib.hid (minus_end hdw (by rw [hdl.out, Hn.out]) (by rw [Hm.out, Hn.out]; exact hmn) HLE.out (by have := hv.out; rw [Hn.out]; rwa [lo_all (l := ds) (by rw [hdl.out]; exact Nat.le_refl _)] at this))
      go_wp2_with fail
      refine bodyPost_end (v := .tuple #[]) (by simp [results, Tryz.results216, go_sem]) rfl ?_
      exact ⟨ds, rfl, hb1, hdw, hdl.out, HV.out, hg.out.1, hg.out.2⟩
end Go.Proofs.YtbihljnjaondcaaGreatDoor
/-! Walk of the reference's divide. -/
namespace Lw
open Go Go.RowKit
/-- A number doubled word by word, with a bit that enters below. -/
theorem dbl_next {ds rs : List Nat} {k c b x R C : Nat} (hk : k < ds.length) (hv : lo ds k + pw k * c = 2 * lo rs k + b) (hx : x = dg rs k) (hR : R = 2 * x % 4294967296 + c) (hC : C = x / 2147483648) :
    lo (ds.set k R) (k + 1) + pw (k + 1) * C = 2 * lo rs (k + 1) + b := by
  rw [lo_put _ hk, lo_succ rs, pw_succ, ← hx]
  have h5 : R + 4294967296 * C = 2 * x + c := by omega
  have h2 : pw k * (R + 4294967296 * C) = pw k * (2 * x + c) := by rw [h5]
  grind
theorem dbl_end {ds rs : List Nat} {m c b Y : Nat} (hd : ds.length = m + 1) (hr : rs.length = m + 1) (hv : lo ds (m + 1) + pw (m + 1) * c = 2 * lo rs (m + 1) + b) (hb : b ≤ 1) (hY : Y < pw m) (hl : val rs < Y) : val ds = 2 * val rs + b := by
  rw [lo_all (by omega), lo_all (by omega)] at hv
  rw [pw_succ] at hv
  rcases Nat.eq_zero_or_pos c with h0 | h0
  · subst h0; omega
  · have : 4294967296 * pw m * 1 ≤ 4294967296 * pw m * c := Nat.mul_le_mul_left _ h0
    omega
theorem bit_le {x t : Nat} : x / 2 ^ t % 2 ≤ 1 := by omega
theorem and_bit {x : Nat} (h : x < 4294967296) : bits .and .u32 (x : Int) 1 = ((x % 2 : Nat) : Int) := by
  have := u32_and_nat x 1 h (by omega)
  rw [Nat.and_one_is_mod] at this
  exact this
theorem or_u32 {i a b : Nat} (h : b < 2 ^ i) (h2 : a * 2 ^ i < 4294967296) (hi : b < 4294967296) : bits .or .u32 ((a * 2 ^ i : Nat) : Int) (b : Int) = ((a * 2 ^ i + b : Nat) : Int) := by
  have := u32_or_nat (a * 2 ^ i) b h2 hi
  rw [or_add h] at this
  exact this
end Lw
namespace Go.Proofs.YtbihljnjaondcaaGreatDoor
open Go Go.RowKit Lw
set_option maxRecDepth 100000 in
set_option maxHeartbeats 6400000 in
theorem refdivide_any (A A' : Option Addr) (ns ms : List Nat) (n m c c' B B' : Nat) (w : World) (h : Rd w B A ns) (h' : Rd w B' A' ms) (hB : B ≤ w.heap.size) (hB' : B' ≤ w.heap.size) (hn : ns.length = n) (hm : ms.length = m) (hl : n ≤ 100000) (hl' : m ≤ 100000) (hy : 0 < val ms) :
    Calls Tryz.prog 165 #[.slice A n c, .slice A' m c'] w fun e w' => ∃ g1 n1 c1 g2 n2 c2, e = .returned (.tuple #[.slice (some ⟨g1, 0, none⟩) n1 c1, .slice (some ⟨g2, 0, none⟩) n2 c2]) ∧ Hid ((digs (val ns / val ms)).length = n1) ∧ Hid ((digs (val ns % val ms)).length = n2) ∧ n1 ≤ c1 ∧ n2 ≤ c2 ∧ w.heap.size ≤ g1 ∧ w.heap.size ≤ g2 ∧ Blk w' g1 99 (digs (val ns / val ms)) ∧ Blk w' g2 99 (digs (val ns % val ms)) ∧ Below w.heap.size w w' := by
  have Hn := Lib.hid hn
  have Hm := Lib.hid hm
  have HY := Lib.hid hy
  have HYm : Hid (val ms < pw m) := Lib.hid (by rw [← hm]; exact val_lt h'.wds)
  obtain ⟨NB, hNB⟩ : ∃ NB, NB = nbits ns := ⟨_, rfl⟩
  have hNBl : NB ≤ 32 * n := by rw [hNB, ← hn]; exact nbits_top h.wds
  have HX : Hid (val ns < 2 ^ NB) := Lib.hid (by rw [hNB]; exact lt_nbits h.wds)
  have HNB := Lib.hid hNB
  clear hn hm hy hNB
  go_enter Tryz.func165, Tryz.ntmps165
  go_wp2_with (first
    | (at_make; refine wpList_make32 _ rfl _ _ _ rfl 99 Tryz.underlying22 info32 _ _ _ _ n rfl rfl (by omega) (by omega) (by omega) ?_; intro w1 hblk hbel hsz)
    | (at_make; refine wpList_make32 _ rfl _ _ _ rfl 99 Tryz.underlying22 info32 _ _ _ _ (m + 1) rfl rfl (by omega) (by omega) (by omega) ?_; intro w2 hblk2 hbel2 hsz2))
  have hb2 := below_next hbel hbel2 (Nat.le_refl _)
  have hq2 := hblk.below hbel2 hblk.lt
  rw [hsz] at hblk2
  clear hblk hbel hbel2 hsz hsz2
  refine (refbits_any A ns n c B _ (h.below (hb2.mono hB)) Hn.out (by omega)).mono ?_
  rintro e w' ⟨rfl, rfl⟩
  rw [← HNB.out]
  go_wp2_with fail
  go_loopw [8] (fun iv wr => ∃ (i : Int) (qs rs : List Nat), -1 ≤ i ∧ i < NB ∧ iv = .int .i64 i ∧ Blk wr w.heap.size 99 qs ∧ Hid (qs.length = n) ∧ Wds qs ∧ Blk wr (w.heap.size + 1) 99 rs ∧ Hid (rs.length = m + 1) ∧ Wds rs ∧ Hid (Dv (val ns) (val ms) (i + 1).toNat (val qs) (val rs)) ∧ Below w.heap.size w wr) (fun v _ => (intOf v + 1).toNat)
  case atStart => exact ⟨(NB : Int) - 1, _, _, by omega, by omega, rfl, hq2, Lib.hid (by simp), wds_replicate _, hblk2, Lib.hid (by simp), wds_replicate _, Lib.hid (by rw [val_replicate, val_replicate, show ((NB : Int) - 1 + 1).toNat = NB by omega]; exact dv_start HY.out HX.out), hb2⟩
  case round =>
    obtain ⟨i, qs, rs, hi, hiN, rfl, hq, hql, hqw, hr, hrl, hrw, hdv, hbw⟩ := hrel
    clear hq2 hblk2 hb2
    have hszq := hq.lt
    have hszr := hr.lt
    by_cases hi0 : i < 0
    · have HV : Hid (val qs = val ns / val ms ∧ val rs = val ns % val ms) := Lib.hid (dv_out (by have := hdv.out; rwa [show (i + 1).toNat = 0 by omega] at this))
      clear hdv
      go_wp2_with fail
      refine (reftrimL_any _ qs n n _ (val ns / val ms) _ (hq.rd hqw) (Nat.le_refl _) hql.out (by omega) HV.out.1).mono ?_
      rintro e w3 ⟨g1, n1, c1, rfl, hn1, hc1, hg1, hblk1, hb3⟩
      have hr3 := hr.below hb3 hr.lt
      have hb4 := below_next hbw hb3 (Nat.le_refl _)
      clear hq hr hb3
      go_wp2_with fail
      refine (reftrimL_any _ rs (m + 1) (m + 1) _ (val ns % val ms) _ (hr3.rd hrw) (Nat.le_refl _) hrl.out (by omega) HV.out.2).mono ?_
      rintro e w4 ⟨g2, n2, c2, rfl, hn2, hc2, hg2, hblk2, hb5⟩
      have hblk1' := hblk1.below hb5 hblk1.lt
      have hb6 := below_next hb4 hb5 (Nat.le_refl _)
      have hg1' : w.heap.size ≤ g1 := Nat.le_trans hbw.size hg1
      have hg2' : w.heap.size ≤ g2 := Nat.le_trans hb4.size hg2
      clear hblk1 hr3
      go_wp2_with fail
      go_ret2
      exact ⟨g1, n1, c1, g2, n2, c2, rfl, hn1, hn2, hc1, hc2, hg1', hg2', hblk1', hblk2, hb6⟩
    · obtain ⟨j, rfl⟩ := Int.eq_ofNat_of_zero_le (show 0 ≤ i by omega)
      have HDV : Hid (Dv (val ns) (val ms) (j + 1) (val qs) (val rs)) := Lib.hid (by have := hdv.out; rwa [show ((j : Int) + 1).toNat = j + 1 by omega] at this)
      clear hdv
      have hra := h.below (hbw.mono hB)
      have hrb := h'.below (hbw.mono hB')
      obtain ⟨b, off, rfl, hb, hcell, hlt⟩ := hra.at_ (k := j / 32) (by rw [Hn.out]; omega)
      have hbit := bit_of h.wds j
      have HBS : Hid (∃ e, dg qs (j / 32) = e * 2 ^ (j % 32 + 1) ∧ dg qs (j / 32) + 2 ^ (j % 32) < 4294967296) := Lib.hid (by obtain ⟨_, q', e, _⟩ := HDV.out; exact bit_set hqw e)
      have HVB := Lib.hid (fun (hh : j / 32 < qs.length) => val_bit hh)
      have hKn : j / 32 < n := by omega
      obtain ⟨K, hK⟩ : ∃ K, K = j / 32 := ⟨_, rfl⟩
      obtain ⟨t, ht⟩ : ∃ t, t = j % 32 := ⟨_, rfl⟩
      have e1 : (j : Int) / 32 = (K : Int) := by omega
      have e2 : (j : Int) % 32 = (t : Int) := by omega
      have ht31 : t ≤ 31 := by omega
      rw [← hK] at hcell hlt hbit HVB hKn
      rw [← hK] at HBS
      rw [← ht] at hbit HVB HBS
      obtain ⟨x, hx⟩ : ∃ x, x = dg ns K := ⟨_, rfl⟩
      rw [← hx] at hcell hlt hbit
      obtain ⟨bt, hbt⟩ : ∃ bt, bt = x / 2 ^ t % 2 := ⟨_, rfl⟩
      have hbt1 : bt ≤ 1 := by rw [hbt]; exact bit_le
      have HBT : Hid (bt = val ns / 2 ^ j % 2) := Lib.hid (by rw [hbt]; exact hbit)
      have hA1 : bits .and .u32 ((x : Int) / 2 ^ t) 1 = (bt : Int) := by
        rw [show (x : Int) / 2 ^ t = ((x / 2 ^ t : Nat) : Int) by simp, and_bit (Nat.lt_of_le_of_lt (Nat.div_le_self _ _) hlt), hbt]
      clear hbit hbt hx hK ht
      go_wp2_with fail
      go_loopw [9, 36] (fun cv kv wi => ∃ (k ca : Nat) (ds : List Nat), k ≤ m + 1 ∧ ca ≤ 1 ∧ kv = .int .i64 k ∧ cv = .int .u32 ca ∧ Blk wi (w.heap.size + 1) 99 ds ∧ Hid (ds.length = m + 1) ∧ Wds ds ∧ Hid (∀ i, k ≤ i → dg ds i = dg rs i) ∧ Hid (lo ds k + pw k * ca = 2 * lo rs k + bt) ∧ Hid (wr.grownBy wi (some (w.heap.size + 1)) ∧ wi.heap.size = wr.heap.size)) (fun _ k _ => m + 1 - (intOf k).toNat)
      case atStart => exact ⟨0, bt, rs, by omega, hbt1, rfl, rfl, hr, hrl, hrw, Lib.hid (fun _ _ => rfl), Lib.hid (by simp only [lo_zero, pw_zero]; omega), Lib.hid ⟨World.grownBy.refl wr _, rfl⟩⟩
      case round =>
        obtain ⟨k, ca, ds, hk, hca, rfl, rfl, hd, hdl, hdw, hsame, hval, hg⟩ := hrel
        clear hr
        have hszi := hg.out.2
        by_cases hkm : k < m + 1
        · have hlt2 := dg_lt hdw k
          have hfr := hd.frozen k
          have hcc := hd.cell (i := k) (by rw [hdl.out]; exact hkm)
          have HSET := Lib.hid (fun v => hd.set_ (i := k) v (by rw [hdl.out]; exact hkm))
          have Hst := fun R C y (e1 : y = dg ds k) e2 e3 => dbl_next (R := R) (C := C) (x := y) (by rw [hdl.out]; exact hkm) hval.out (by rw [e1, hsame.out k (Nat.le_refl _)]) e2 e3
          obtain ⟨y, hy⟩ : ∃ y, y = dg ds k := ⟨_, rfl⟩
          obtain ⟨R, hR⟩ : ∃ R, R = 2 * y % 4294967296 + ca := ⟨_, rfl⟩
          obtain ⟨C, hC⟩ : ∃ C, C = y / 2147483648 := ⟨_, rfl⟩
          have HST := Lib.hid (Hst R C y hy hR hC)
          rw [← hy] at hlt2 hcc
          have hRl : R < 4294967296 := by omega
          have hCl : C ≤ 1 := by omega
          have hCi : (y : Int) / 2147483648 = (C : Int) := by omega
          have hO : bits .or .u32 ((y : Int) * 2 % 4294967296) (ca : Int) = (R : Int) := by
            have h1 := or_u32 (i := 1) (a := y % 2147483648) (b := ca) (by omega) (by omega) (by omega)
            rw [show ((y % 2147483648 * 2 ^ 1 : Nat) : Int) = (y : Int) * 2 % 4294967296 by omega] at h1
            rw [h1]; omega
          clear Hst hy hR hC
          go_wp2_with fail
          have hO2 : bits .or .u32 (IntKind.u32.wrap ((y : Int) * 2)) (ca : Int) = (R : Int) := by rw [IntKind.wrap_u32]; exact hO
          go_region
          go_wp2_with fail
          go_roundw
          case rel =>
            refine ⟨k + 1, C, ds.set k R, by omega, hCl, by go_num, by go_num, HSET.out R, Lib.hid (by rw [List.length_set]; exact hdl.out), wds_set hdw _ hRl, Lib.hid ?_, HST, Lib.hid ⟨grown_set (grown_drewN hg.out.1 _) _ _, by simp [hg.out.2]⟩⟩
            intro i hi
            rw [dg_set _ (by rw [hdl.out]; exact hkm), if_neg (by omega)]
            exact hsame.out i (by omega)
          case measure => simp [intOf]; omega
        · obtain rfl : k = m + 1 := by omega
          have HRR : Hid (val ds = 2 * val rs + val ns / 2 ^ j % 2) := Lib.hid (by rw [← HBT.out]; exact dbl_end hdl.out hrl.out hval.out hbt1 HYm.out HDV.out.1)
          have hdr := hd.rd hdw
          have hrb2 := hrb.grown hg.out.1 (Nat.le_trans hB' hbw.size) (fun hp a ha => by
            obtain ⟨b', off', hA', hb', _⟩ := h'.2 hp
            rw [ha] at hA'; injection hA' with e; subst e; exact Nat.ne_of_lt (Nat.lt_of_lt_of_le hb' (Nat.le_trans hB' (Nat.le_succ _))))
          have hq2 := hq.of_same (hg.out.1.block w.heap.size hq.lt (by intro e; injection e with e; omega))
          have hbw2 := below_of_grown hbw hg.out.1 hbw.size (Nat.le_succ _)
          have hszm := hg.out.2
          clear hq hval hsame hg
          by_cases hlt3 : val ds < val ms
          · have HC := Lib.hid (cmpN_lt hlt3)
            have HDN := Lib.hid (dv_no HDV.out HRR.out hlt3)
            clear hlt3
            go_wp2_with fail
            refine (refcompare_any _ A' ds ms (m + 1) m (m + 1) c' _ _ _ hdr hrb2 hdl.out Hm.out (by omega) (by omega)).mono ?_
            rintro e w' ⟨rfl, rfl⟩
            rw [HC.out]
            go_wp2_with fail
            go_roundw
            case rel => exact ⟨(j : Int) - 1, qs, ds, by omega, by omega, by go_num, hq2, hql, hqw, hd, hdl, hdw, Lib.hid (by rw [show ((j : Int) - 1 + 1).toNat = j by omega]; exact HDN.out), hbw2⟩
            case measure => simp [intOf]
          · obtain ⟨cv, HC, hcv⟩ : ∃ cv : Int, Hid (cmpN (val ds) (val ms) = cv) ∧ 0 ≤ cv := by
              rcases Nat.lt_or_ge (val ms) (val ds) with h1 | h1
              · exact ⟨1, Lib.hid (cmpN_gt h1), by omega⟩
              · exact ⟨0, Lib.hid (cmpN_eq (by omega)), by omega⟩
            have HLE : Hid (val ms ≤ val ds) := Lib.hid (by omega)
            have HDY := Lib.hid (dv_yes HDV.out HRR.out HLE.out)
            clear hlt3
            go_wp2_with fail
            refine (refcompare_any _ A' ds ms (m + 1) m (m + 1) c' _ _ _ hdr hrb2 hdl.out Hm.out (by omega) (by omega)).mono ?_
            rintro e w' ⟨rfl, rfl⟩
            rw [HC.out]
            go_wp2_with fail
            refine (take_any (w.heap.size + 1) ds ms (m + 1) m (m + 1) c' B' A' _ hd hdw hrb2 (by omega) (fun hp a ha => by
              obtain ⟨b', off', hA', hb', _⟩ := h'.2 (by rw [Hm.out]; exact hp)
              rw [ha] at hA'; injection hA' with e; subst e; exact Nat.ne_of_lt (Nat.lt_of_lt_of_le hb' (Nat.le_trans hB' (Nat.le_succ _)))) hdl.out Hm.out (by omega) (by omega) HLE.out).mono ?_
            rintro e w5 ⟨rs', rfl, hd5, hw5, hl5, hv5, hg5, hs5⟩
            have hq5 := hq2.of_same (hg5.block w.heap.size hq2.lt (by intro e; injection e with e; omega))
            have hbw5 := below_of_grown hbw2 hg5 hbw2.size (Nat.le_succ _)
            rw [← hv5] at HDY
            have HL5 := Lib.hid hl5
            have hcq := hq5.cell (i := K) (by rw [hql.out]; exact hKn)
            have hfq := hq5.frozen K
            have HSETQ := Lib.hid (fun v => hq5.set_ (i := K) v (by rw [hql.out]; exact hKn))
            have HVS := Lib.hid (HVB.out (by rw [hql.out]; exact hKn))
            have hbs := HBS.out
            obtain ⟨v, hv⟩ : ∃ v, v = dg qs K := ⟨_, rfl⟩
            rw [← hv] at hcq HVS hbs
            obtain ⟨P, hP⟩ : ∃ P, P = 2 ^ t := ⟨_, rfl⟩
            obtain ⟨ev, he1, he2⟩ := hbs
            rw [← hP] at HVS he2
            have hP2 : (2 : Int) ^ t = (P : Int) := by rw [hP]; simp
            have hO3 : bits .or .u32 (v : Int) (P : Int) = ((v + P : Nat) : Int) := by
              rw [he1]
              exact or_u32 (by rw [hP]; exact Nat.pow_lt_pow_right (by omega) (by omega)) (by rw [← he1]; omega) (by omega)
            have hPw : IntKind.u32.wrap (P : Int) = (P : Int) := IntWalk.u32_in _ (by omega)
            obtain ⟨V, hV⟩ : ∃ V, V = v + P := ⟨_, rfl⟩
            rw [← hV] at hO3 HVS
            have hVl : V < 4294967296 := by omega
            clear hq2 hd hv hP he1 he2 hV hv5 hl5 hg5 hs5
            go_wp2_with fail
            go_region
            go_wp2_with fail
            go_roundw
            case rel =>
              refine ⟨(j : Int) - 1, qs.set K V, rs', by omega, by omega, by go_num, HSETQ.out V, Lib.hid (by rw [List.length_set]; exact hql.out), wds_set hqw _ hVl, hd5.far (by simp) _, HL5, hw5, Lib.hid ?_, (hbw5.setCell (Nat.le_refl _) _).drew⟩
              rw [show ((j : Int) - 1 + 1).toNat = j by omega, HVS.out]; exact HDY.out
            case measure => simp [intOf]
end Go.Proofs.YtbihljnjaondcaaGreatDoor
/-! Walk of the reference's gcd. -/
namespace Lw
open Go Go.RowKit
theorem digs_len_mono {a b : Nat} (h : b ≤ a) : (digs b).length ≤ (digs a).length := digs_length_le (Nat.lt_of_le_of_lt h (lt_of_digs_length (Nat.le_refl _)))
end Lw
namespace Go.Proofs.YtbihljnjaondcaaGreatDoor
open Go Go.RowKit Lw
/-- A number's words anywhere, their number behind a letter. -/
def OutL (w : World) (N : Nat) (e : Ending) (w' : World) : Prop :=
  ∃ A n c, e = .returned (.slice A n c) ∧ Hid ((digs N).length = n) ∧ n ≤ c ∧ Rd w' w'.heap.size A (digs N) ∧ Below w.heap.size w w'
theorem halveL_any (g M n c : Nat) (w : World) (hb : Blk w g 99 (digs M)) (hn : (digs M).length = n) (hc : n ≤ c) (hl : n ≤ 16777216) :
    Calls Tryz.prog 239 #[.slice (some ⟨g, 0, none⟩) n c] w fun e w' => ∃ n', e = .returned (.slice (some ⟨g, 0, none⟩) n' c) ∧ Hid ((digs (M / 2)).length = n') ∧ n' ≤ n ∧ Blk w' g 99 (digs (M / 2)) ∧ w.grownBy w' (some g) ∧ w'.heap.size = w.heap.size := by
  refine (halve_any g (digs M) n c w hb (wds_digs _) hn hc hl).mono fun e w' hh => ?_
  rw [val_digs] at hh
  obtain ⟨h1, h2, h3, h4, h5⟩ := hh
  exact ⟨_, h1, Lib.hid rfl, h2, h3, h4, h5⟩
theorem refplusL_any (A A' : Option Addr) (X Y : Nat) (n m c c' : Nat) (B B' : Nat) {w : World} (h : Rd w B A (digs X)) (h' : Rd w B' A' (digs Y)) (hB : B ≤ w.heap.size) (hB' : B' ≤ w.heap.size) (hn : (digs X).length = n) (hm : (digs Y).length = m) (hl : n ≤ 16777216) (hl' : m ≤ 16777216) (Z : Nat) (hZ : X + Y = Z) :
    Calls Tryz.prog 162 #[.slice A n c, .slice A' m c'] w (LenOut w Z) := by
  subst hZ
  refine (refplus_any A A' (digs X) (digs Y) n m c c' B B' w h h' hB hB' hn hm hl hl').mono fun e w' hh => ?_
  rw [val_digs, val_digs] at hh
  exact lenOut hh
set_option maxRecDepth 100000 in
set_option maxHeartbeats 12800000 in
theorem refgcd_any (A A' : Option Addr) (ns ms : List Nat) (n m c c' B B' : Nat) (w : World) (h : Rd w B A ns) (h' : Rd w B' A' ms) (hB : B ≤ w.heap.size) (hB' : B' ≤ w.heap.size) (hn : ns.length = n) (hm : ms.length = m) (hl : n ≤ 100000) (hl' : m ≤ 100000) :
    Calls Tryz.prog 217 #[.slice A n c, .slice A' m c'] w (OutL w (Nat.gcd (val ns) (val ms))) := by
  have HXp : Hid (val ns < pw n) := Lib.hid (by rw [← hn]; exact val_lt h.wds)
  have HN1 : Hid ((digs (val ns)).length ≤ n) := Lib.hid (by rw [← hn]; exact digs_len_le h.wds)
  have HN2 : Hid ((digs (val ms)).length ≤ m) := Lib.hid (by rw [← hm]; exact digs_len_le h'.wds)
  have ht1 := reftrimL_any A ns n c B (val ns) w h hB hn (by omega) rfl
  have ht2 := fun W (hb : Below w.heap.size w W) => reftrimL_any A' ms m c' B' (val ms) W (h'.next hb hB') (Nat.le_trans hB' hb.size) hm (by omega) rfl
  generalize val ns = X at *
  generalize val ms = Y at *
  have HT1 := Lib.hid ht1
  have HT2 := Lib.hid ht2
  clear ht1 ht2 h h' hB hB' hn hm
  go_enter Tryz.func217, Tryz.ntmps217
  go_wp2_with fail
  refine HT1.out.mono ?_
  rintro e w1 ⟨g1, n1, c1, rfl, hl1, hc1, hg1, hb1, hbw1⟩
  go_wp2_with fail
  refine (HT2.out _ hbw1).mono ?_
  rintro e w2 ⟨g2, n2, c2, rfl, hl2, hc2, hg2, hb2, hbw2⟩
  have hb1' := hb1.below hbw2 hb1.lt
  have hg12 : g1 ≠ g2 := by have := hb1.lt; omega
  have hbw := below_next hbw1 hbw2 (Nat.le_refl _)
  have hg2' : w.heap.size ≤ g2 := Nat.le_trans hbw1.size hg2
  have hn1 : n1 ≤ 100000 := by rw [← hl1.out]; exact Nat.le_trans HN1.out hl
  have hn2 : n2 ≤ 100000 := by rw [← hl2.out]; exact Nat.le_trans HN2.out hl'
  clear hb1 hbw1 hbw2 hg2 HT1 HT2 HN1 HN2
  by_cases h10 : n1 = 0
  · have HX0 : Hid (Nat.gcd X Y = Y) := Lib.hid (by rw [(digs_eq_nil.1 (List.eq_nil_of_length_eq_zero (by rw [hl1.out]; exact h10)) : X = 0), Nat.gcd_zero_left])
    subst h10
    go_wp2_with fail
    go_ret
    rw [HX0.out]
    exact ⟨_, n2, c2, rfl, hl2, hc2, hb2.rd (wds_digs _), hbw⟩
  by_cases h20 : n2 = 0
  · have HY0 : Hid (Nat.gcd X Y = X) := Lib.hid (by rw [(digs_eq_nil.1 (List.eq_nil_of_length_eq_zero (by rw [hl2.out]; exact h20)) : Y = 0), Nat.gcd_zero_right])
    have hq1 : ((n1 : Int) == 0) = false := by rw [beq_eq_false_iff_ne]; omega
    subst h20
    clear h10
    go_wp2_with fail
    go_ret
    rw [HY0.out]
    exact ⟨_, n1, c1, rfl, hl1, hc1, hb1'.rd (wds_digs _), hbw⟩
  have HX0 : Hid (0 < X) := Lib.hid (Nat.pos_of_ne_zero (fun e => h10 (by rw [← hl1.out, e]; rfl)))
  have HY0 : Hid (0 < Y) := Lib.hid (Nat.pos_of_ne_zero (fun e => h20 (by rw [← hl2.out, e]; rfl)))
  have hq1 : ((n1 : Int) == 0) = false := by rw [beq_eq_false_iff_ne]; omega
  have hq2 : ((n2 : Int) == 0) = false := by rw [beq_eq_false_iff_ne]; omega
  clear h10 h20
  go_wp2_with fail
  go_loopg [0, 1, 5] X (fun M av bv tv wq => ∃ (N T na nb : Nat), av = .slice (some ⟨g1, 0, none⟩) na c1 ∧ bv = .slice (some ⟨g2, 0, none⟩) nb c2 ∧ tv = .int .i64 T ∧ Hid ((digs M).length = na) ∧ Hid ((digs N).length = nb) ∧ na ≤ n1 ∧ nb ≤ n2 ∧ Blk wq g1 99 (digs M) ∧ Blk wq g2 99 (digs N) ∧ Hid (Gt (Nat.gcd X Y) X T M N) ∧ Below w.heap.size w wq)
  case atStart => exact ⟨Y, 0, n1, n2, rfl, rfl, rfl, hl1, hl2, Nat.le_refl _, Nat.le_refl _, hb1', hb2, Lib.hid (gt_start HX0.out HY0.out), hbw⟩
  case round =>
    obtain ⟨N1, T, na, nb, rfl, rfl, rfl, hla, hlb, hna, hnb, hba, hbb, hgt, hbw4⟩ := hrel
    generalize gk = M1 at *
    clear hb1' hb2 hbw hl1 hl2
    have hTl : T ≤ 3200000 := by have := gt_small hgt.out HXp.out; omega
    have hna0 : 0 < na := by rw [← hla.out]; exact Nat.pos_of_ne_zero (fun e => by have h9 := digs_eq_nil.1 (List.eq_nil_of_length_eq_zero e); have := hgt.out.2.2.1; omega)
    have hnb0 : 0 < nb := by rw [← hlb.out]; exact Nat.pos_of_ne_zero (fun e => by have h9 := digs_eq_nil.1 (List.eq_nil_of_length_eq_zero e); have := hgt.out.2.2.2; omega)
    have hcc := hba.cell (i := 0) (by rw [hla.out]; exact hna0)
    have hcd := hbb.cell (i := 0) (by rw [hlb.out]; exact hnb0)
    have hxl := dg_lt (wds_digs M1) 0
    have hyl := dg_lt (wds_digs N1) 0
    have hxb := low_bit (ns := digs M1)
    have hyb := low_bit (ns := digs N1)
    rw [val_digs] at hxb hyb
    obtain ⟨x, hx⟩ : ∃ x, x = dg (digs M1) 0 := ⟨_, rfl⟩
    obtain ⟨y, hy⟩ : ∃ y, y = dg (digs N1) 0 := ⟨_, rfl⟩
    rw [← hx] at hcc hxl hxb
    rw [← hy] at hcd hyl hyb
    have hA1 := and_bit hxl
    have hA2 := and_bit hyl
    rw [hxb] at hA1
    rw [hyb] at hA2
    clear hx hy hxb hyb hxl hyl
    by_cases hev : M1 % 2 = 0 ∧ N1 % 2 = 0
    · have HST := Lib.hid (gt_step hgt.out hev.1 hev.2)
      have hA3 : bits .and .u32 (x : Int) 1 = 0 := by rw [hA1, hev.1]; rfl
      have hA4 : bits .and .u32 (y : Int) 1 = 0 := by rw [hA2, hev.2]; rfl
      clear hA1 hA2 hev
      go_wp2_with fail
      refine (halveL_any g1 M1 na c1 _ hba hla.out (by omega) (by omega)).mono ?_
      rintro e w6 ⟨n6, rfl, hl6, hn6, hb6, hg6, hs6⟩
      have hbb6 := hbb.of_same (hg6.block g2 hbb.lt (by intro e; injection e with e; exact hg12 e.symm))
      have hbw6 := below_of_grown hbw4 hg6 hbw4.size hg1
      clear hba hbb hg6 hcc hcd
      go_wp2_with fail
      refine (halveL_any g2 N1 nb c2 _ hbb6 hlb.out (by omega) (by omega)).mono ?_
      rintro e w7 ⟨n7, rfl, hl7, hn7, hb7, hg7, hs7⟩
      have hba7 := hb6.of_same (hg7.block g1 hb6.lt (by intro e; injection e with e; exact hg12 e))
      have hbw7 := below_of_grown hbw6 hg7 hbw6.size hg2'
      clear hb6 hbb6 hg7
      go_wp2_with fail
      go_roundg (M1 / 2)
      case measure => exact HST.out.2
      case rel => exact ⟨N1 / 2, T + 1, n6, n7, rfl, rfl, by go_num, hl6, hl7, by omega, by omega, hba7, hb7, Lib.hid HST.out.1, hbw7⟩
    · obtain ⟨d, hd⟩ : ∃ d, d = Nat.gcd M1 N1 := ⟨_, rfl⟩
      have HGW : Hid (Gw d M1 N1) := Lib.hid ⟨hd.symm, by rw [hd]; exact gcd_odd hev, hgt.out.2.2.2⟩
      have HTG : Hid (2 ^ T * d = Nat.gcd X Y) := Lib.hid (by rw [hd]; exact hgt.out.1)
      have HPW : Hid (∀ k, k ≤ T → (digs (2 ^ k * d)).length ≤ 100000) := Lib.hid (fun k hk => by
        have h1 : 2 ^ k * d ≤ 2 ^ T * d := Nat.mul_le_mul_right _ (Nat.pow_le_pow_right (by omega) hk)
        rw [HTG.out] at h1
        exact Nat.le_trans (digs_length_le (Nat.lt_of_le_of_lt (Nat.le_trans h1 (Nat.gcd_le_left Y HX0.out)) HXp.out)) hl)
      have hl1 := hla
      have hl2 := hlb
      have hc1' : na ≤ c1 := by omega
      have hc2' : nb ≤ c2 := by omega
      have hn1' : na ≤ 100000 := by omega
      have hn2' : nb ≤ 100000 := by omega
      have hb1 := hba
      have hb2 := hbb
      have hbw := hbw4
      have hg2 := hg2'
      clear hd hgt hla hlb hba hbb hbw4 hna hnb hg2' hc1 hc2 hn1 hn2
      by_cases hodd : M1 % 2 = 0
      · have hA3 : bits .and .u32 (x : Int) 1 = 0 := by rw [hA1, hodd]; rfl
        have hA4 : bits .and .u32 (y : Int) 1 = 1 := by rw [hA2, show N1 % 2 = 1 by omega]; rfl
        clear hA1 hA2 hev hodd
        go_wp2_with fail
        go_loopg [0, 1] (M1 + N1) (fun Sm av bv wq => ∃ (M N ga gb na nb ca cb : Nat), Sm = M + N ∧ av = .slice (some ⟨ga, 0, none⟩) na ca ∧ bv = .slice (some ⟨gb, 0, none⟩) nb cb ∧ Hid ((digs M).length = na) ∧ Hid ((digs N).length = nb) ∧ na ≤ ca ∧ nb ≤ cb ∧ na ≤ 100000 ∧ nb ≤ 100000 ∧ Blk wq ga 99 (digs M) ∧ Blk wq gb 99 (digs N) ∧ ga ≠ gb ∧ w.heap.size ≤ ga ∧ w.heap.size ≤ gb ∧ Hid (Gw d M N) ∧ Below w.heap.size w wq)
        case atStart => exact ⟨M1, N1, g1, g2, na, nb, c1, c2, rfl, rfl, rfl, hl1, hl2, hc1', hc2', hn1', hn2', hb1, hb2, hg12, hg1, hg2, HGW, hbw⟩
        case round =>
          obtain ⟨M, N, ga, gb, na, nb, ca, cb, hS, rfl, rfl, hla, hlb, hca, hcb, hna, hnb, hba, hbb, hgab, hga, hgb, hgw, hbw⟩ := hrel
          have HS := Lib.hid hS
          clear hS hb1 hb2
          by_cases h0 : na = 0
          · have HND : Hid (N = d) := Lib.hid (gw_end (by have e0 : M = 0 := digs_eq_nil.1 (List.eq_nil_of_length_eq_zero (by rw [hla.out]; exact h0)); have h9 := hgw.out; rwa [e0] at h9))
            subst h0
            go_wp2_with fail
            go_loopw [1, 65] (fun bv kv wq => ∃ (k nq cq : Nat) (Aq : Option Addr), k ≤ T ∧ kv = .int .i64 k ∧ bv = .slice Aq nq cq ∧ Hid ((digs (2 ^ k * d)).length = nq) ∧ nq ≤ cq ∧ nq ≤ 100000 ∧ Rd wq wq.heap.size Aq (digs (2 ^ k * d)) ∧ Below w.heap.size w wq) (fun _ k _ => T - (intOf k).toNat)
            case atStart => exact ⟨0, nb, cb, some ⟨gb, 0, none⟩, Nat.zero_le _, rfl, rfl, Lib.hid (by rw [Nat.pow_zero, Nat.one_mul, ← HND.out]; exact hlb.out), hcb, hnb, by rw [Nat.pow_zero, Nat.one_mul, ← HND.out]; exact hbb.rd (wds_digs _), hbw⟩
            case round =>
              obtain ⟨k, nq, cq, Aq, hk, rfl, rfl, hlq, hcq, hnq, hrq, hbq⟩ := hrel
              clear hba hbb
              by_cases hkT : k < T
              · have HNX : Hid ((digs (2 ^ (k + 1) * d)).length ≤ 100000) := Lib.hid (HPW.out (k + 1) hkT)
                go_wp2_with fail
                refine (refplusL_any Aq Aq (2 ^ k * d) (2 ^ k * d) nq nq cq cq _ _ hrq hrq (Nat.le_refl _) (Nat.le_refl _) hlq.out hlq.out (by omega) (by omega) (2 ^ (k + 1) * d) (by rw [Nat.pow_succ]; grind)).mono ?_
                rintro e wp ⟨gp, np, cp, rfl, hlp, hcp, hgp, hblp, hbp⟩
                have hbq2 := below_next hbq hbp (Nat.le_refl _)
                have HR := Lib.hid (hblp.rd (wds_digs _))
                clear hrq hblp hbp
                go_wp2_with fail
                go_roundw
                case rel => exact ⟨k + 1, np, cp, _, by omega, by go_num, rfl, hlp, hcp, by rw [← hlp.out]; exact HNX.out, HR.out, hbq2⟩
                case measure => simp [intOf]; omega
              · obtain rfl : k = T := by omega
                go_wp2_with fail
                go_ret
                refine ⟨Aq, nq, cq, rfl, Lib.hid ?_, hcq, ?_, hbq⟩
                · rw [← HTG.out]; exact hlq.out
                · rw [← HTG.out]; exact hrq
          · have HM0 : Hid (0 < M) := Lib.hid (Nat.pos_of_ne_zero (fun e => h0 (by rw [← hla.out, e]; rfl)))
            have HN0 : Hid (0 < N) := Lib.hid hgw.out.2.2
            have hna0 : 0 < na := by omega
            clear h0
            go_wp2_with fail
            go_loopg [0] M (fun M' av wq2 => ∃ (n' : Nat), av = .slice (some ⟨ga, 0, none⟩) n' ca ∧ Hid ((digs M').length = n') ∧ n' ≤ na ∧ Blk wq2 ga 99 (digs M') ∧ Blk wq2 gb 99 (digs N) ∧ Hid (Gw d M' N ∧ 0 < M' ∧ M' ≤ M) ∧ Below w.heap.size w wq2)
            case atStart => exact ⟨na, rfl, hla, Nat.le_refl _, hba, hbb, Lib.hid ⟨hgw.out, HM0.out, Nat.le_refl _⟩, hbw⟩
            case round =>
              obtain ⟨n', rfl, hla2, hna2, hba2, hbb2, hgw2, hbw2⟩ := hrel
              clear hba hbb
              have hn'0 : 0 < n' := by rw [← hla2.out]; exact Nat.pos_of_ne_zero (fun e => by have h9 := digs_eq_nil.1 (List.eq_nil_of_length_eq_zero e); have := hgw2.out.2.1; omega)
              have hcc := hba2.cell (i := 0) (by rw [hla2.out]; exact hn'0)
              have hxl := dg_lt (wds_digs gk) 0
              have hxb := low_bit (ns := digs gk)
              rw [val_digs] at hxb
              obtain ⟨x, hx⟩ : ∃ x, x = dg (digs gk) 0 := ⟨_, rfl⟩
              rw [← hx] at hcc hxl hxb
              have hA1 := and_bit hxl
              rw [hxb] at hA1
              clear hx hxb hxl
              by_cases hev : gk % 2 = 0
              · have HST : Hid (Gw d (gk / 2) N ∧ 0 < gk / 2 ∧ gk / 2 ≤ M ∧ gk / 2 < gk) := Lib.hid ⟨gw_left hgw2.out.1 hev, by have := hgw2.out.2.1; omega, by have := hgw2.out.2.2; omega, by have := hgw2.out.2.1; omega⟩
                rw [hev] at hA1
                have hA2 : bits .and .u32 (x : Int) 1 = 0 := hA1
                clear hA1 hev
                go_wp2_with fail
                refine (halveL_any ga gk n' ca _ hba2 hla2.out (by omega) (by omega)).mono ?_
                rintro e w6 ⟨n6, rfl, hl6, hn6, hb6, hg6, hs6⟩
                have hbb6 := hbb2.of_same (hg6.block gb hbb2.lt (by intro e; injection e with e; exact hgab e.symm))
                have hbw6 := below_of_grown hbw2 hg6 hbw2.size hga
                clear hba2 hbb2 hg6
                go_wp2_with fail
                go_roundg (gk / 2)
                case measure => exact HST.out.2.2.2
                case rel => exact ⟨n6, rfl, hl6, by omega, hb6, hbb6, Lib.hid ⟨HST.out.1, HST.out.2.1, HST.out.2.2.1⟩, hbw6⟩
              · generalize gk = M' at *
                have hA2 : bits .and .u32 (x : Int) 1 = 1 := by rw [hA1, show M' % 2 = 1 by omega]; rfl
                clear hA1 hev
                go_wp2_with fail
                go_loopg [1] N (fun N' bv wq3 => ∃ (n'' : Nat), bv = .slice (some ⟨gb, 0, none⟩) n'' cb ∧ Hid ((digs N').length = n'') ∧ n'' ≤ nb ∧ Blk wq3 ga 99 (digs M') ∧ Blk wq3 gb 99 (digs N') ∧ Hid (Gw d M' N' ∧ 0 < N' ∧ N' ≤ N) ∧ Below w.heap.size w wq3)
                case atStart => exact ⟨nb, rfl, hlb, Nat.le_refl _, hba2, hbb2, Lib.hid ⟨hgw2.out.1, HN0.out, Nat.le_refl _⟩, hbw2⟩
                case round =>
                  obtain ⟨n'', rfl, hlb3, hnb3, hba3, hbb3, hgw3, hbw3⟩ := hrel
                  clear hba2 hbb2 hcc hA2
                  have hn''0 : 0 < n'' := by rw [← hlb3.out]; exact Nat.pos_of_ne_zero (fun e => by have h9 := digs_eq_nil.1 (List.eq_nil_of_length_eq_zero e); have := hgw3.out.2.1; omega)
                  have hcc := hbb3.cell (i := 0) (by rw [hlb3.out]; exact hn''0)
                  have hxl := dg_lt (wds_digs gk) 0
                  have hxb := low_bit (ns := digs gk)
                  rw [val_digs] at hxb
                  obtain ⟨y, hy⟩ : ∃ y, y = dg (digs gk) 0 := ⟨_, rfl⟩
                  rw [← hy] at hcc hxl hxb
                  have hA1 := and_bit hxl
                  rw [hxb] at hA1
                  clear hy hxb hxl
                  by_cases hev : gk % 2 = 0
                  · have HST : Hid (Gw d M' (gk / 2) ∧ 0 < gk / 2 ∧ gk / 2 ≤ N ∧ gk / 2 < gk) := Lib.hid ⟨gw_right hgw3.out.1 hev, by have := hgw3.out.2.1; omega, by have := hgw3.out.2.2; omega, by have := hgw3.out.2.1; omega⟩
                    rw [hev] at hA1
                    have hA2 : bits .and .u32 (y : Int) 1 = 0 := hA1
                    clear hA1 hev
                    go_wp2_with fail
                    refine (halveL_any gb gk n'' cb _ hbb3 hlb3.out (by omega) (by omega)).mono ?_
                    rintro e w6 ⟨n6, rfl, hl6, hn6, hb6, hg6, hs6⟩
                    have hba6 := hba3.of_same (hg6.block ga hba3.lt (by intro e; injection e with e; exact hgab e))
                    have hbw6 := below_of_grown hbw3 hg6 hbw3.size hgb
                    clear hba3 hbb3 hg6
                    go_wp2_with fail
                    go_roundg (gk / 2)
                    case measure => exact HST.out.2.2.2
                    case rel => exact ⟨n6, rfl, hl6, by omega, hba6, hb6, Lib.hid ⟨HST.out.1, HST.out.2.1, HST.out.2.2.1⟩, hbw6⟩
                  · generalize gk = N' at *
                    have hA2 : bits .and .u32 (y : Int) 1 = 1 := by rw [hA1, show N' % 2 = 1 by omega]; rfl
                    clear hA1 hev
                    by_cases hlt : M' < N'
                    · have HC := Lib.hid (cmpN_lt hlt)
                      have HLE : Hid (M' ≤ N') := Lib.hid (Nat.le_of_lt hlt)
                      have HGT : Hid (Gw d (N' - M') M') := Lib.hid (gw_take (gw_swap hgw3.out.1 hgw2.out.2.1) (Nat.le_of_lt hlt))
                      clear hlt
                      go_wp2_with fail
                      refine (refcompare_any _ _ (digs M') (digs N') n' n'' ca cb _ _ _ (hba3.rd (wds_digs _)) (hbb3.rd (wds_digs _)) hla2.out hlb3.out (by omega) (by omega)).mono ?_
                      rintro e w' ⟨rfl, rfl⟩
                      rw [val_digs, val_digs, HC.out]
                      go_wp2_with fail
                      have HLN : Hid (n' ≤ n'') := Lib.hid (by rw [← hlb3.out, ← hla2.out]; exact digs_len_mono HLE.out)
                      have hnn := HLN.out
                      refine (take_any gb (digs N') (digs M') n'' n' cb ca _ (some ⟨ga, 0, none⟩) _ hbb3 (wds_digs _) (hba3.rd (wds_digs _)) (Nat.le_refl _) (fun _ a e => by injection e with e; subst e; exact hgab) hlb3.out hla2.out hnn (by omega) (by rw [val_digs, val_digs]; exact HLE.out)).mono ?_
                      rintro e w7 ⟨ds, rfl, hd7, hw7, hl7, hv7, hg7, hs7⟩
                      rw [val_digs, val_digs] at hv7
                      have hbo7 := hba3.of_same (hg7.block ga hba3.lt (by intro e; injection e with e; exact hgab e))
                      have hbw7 := below_of_grown hbw3 hg7 hbw3.size hgb
                      have hd9 := hd7.digs hw7
                      rw [hv7] at hd9
                      have HN9 : Hid ((digs (N' - M')).length ≤ n'') := Lib.hid (by have h9 := digs_len_le hw7; rwa [hv7, hl7] at h9)
                      obtain ⟨n9, hn9⟩ : ∃ n9, n9 = (digs (N' - M')).length := ⟨_, rfl⟩
                      have Hn9 := Lib.hid hn9.symm
                      have hn9l : n9 ≤ n'' := by rw [hn9]; exact HN9.out
                      have HV7 := Lib.hid hv7
                      have HL7 := Lib.hid hl7
                      clear hbb3 hba3 hg7 hs7 hv7 hl7 hn9
                      go_wp2_with fail
                      refine (refcut_any _ ds n'' cb _ _ (hd7.rd hw7) HL7.out (by omega) (by omega)).mono ?_
                      rintro e w8 ⟨rfl, rfl⟩
                      rw [HV7.out, Hn9.out]
                      clear hd7
                      go_wp2_with fail
                      go_roundg (N' - M' + M')
                      case measure => have h1 := HS.out; have h2 := hgw2.out.2; have h3 := hgw3.out.2; have h4 := HLE.out; have h5 := HN0.out; have h6 := HM0.out; omega
                      case rel => exact ⟨N' - M', M', gb, ga, n9, n', cb, ca, rfl, rfl, rfl, Hn9, hla2, by omega, by omega, by omega, by omega, hd9, hbo7, hgab.symm, hgb, hga, HGT, hbw7⟩
                    · have HLE : Hid (N' ≤ M') := Lib.hid (by omega)
                      obtain ⟨cv, HC, hcv⟩ : ∃ cv : Int, Hid (cmpN M' N' = cv) ∧ 0 ≤ cv := by
                        rcases Nat.lt_or_ge N' M' with h1 | h1
                        · exact ⟨1, Lib.hid (cmpN_gt h1), by omega⟩
                        · exact ⟨0, Lib.hid (cmpN_eq (by omega)), by omega⟩
                      have HGT : Hid (Gw d (M' - N') N') := Lib.hid (gw_take hgw3.out.1 HLE.out)
                      clear hlt
                      go_wp2_with fail
                      refine (refcompare_any _ _ (digs M') (digs N') n' n'' ca cb _ _ _ (hba3.rd (wds_digs _)) (hbb3.rd (wds_digs _)) hla2.out hlb3.out (by omega) (by omega)).mono ?_
                      rintro e w' ⟨rfl, rfl⟩
                      rw [val_digs, val_digs, HC.out]
                      go_wp2_with fail
                      have HLN : Hid (n'' ≤ n') := Lib.hid (by rw [← hla2.out, ← hlb3.out]; exact digs_len_mono HLE.out)
                      have hnn := HLN.out
                      refine (take_any ga (digs M') (digs N') n' n'' ca cb _ (some ⟨gb, 0, none⟩) _ hba3 (wds_digs _) (hbb3.rd (wds_digs _)) (Nat.le_refl _) (fun _ a e => by injection e with e; subst e; exact hgab.symm) hla2.out hlb3.out hnn (by omega) (by rw [val_digs, val_digs]; exact HLE.out)).mono ?_
                      rintro e w7 ⟨ds, rfl, hd7, hw7, hl7, hv7, hg7, hs7⟩
                      rw [val_digs, val_digs] at hv7
                      have hbo7 := hbb3.of_same (hg7.block gb hbb3.lt (by intro e; injection e with e; exact hgab e.symm))
                      have hbw7 := below_of_grown hbw3 hg7 hbw3.size hga
                      have hd9 := hd7.digs hw7
                      rw [hv7] at hd9
                      have HN9 : Hid ((digs (M' - N')).length ≤ n') := Lib.hid (by have h9 := digs_len_le hw7; rwa [hv7, hl7] at h9)
                      obtain ⟨n9, hn9⟩ : ∃ n9, n9 = (digs (M' - N')).length := ⟨_, rfl⟩
                      have Hn9 := Lib.hid hn9.symm
                      have hn9l : n9 ≤ n' := by rw [hn9]; exact HN9.out
                      have HV7 := Lib.hid hv7
                      have HL7 := Lib.hid hl7
                      clear hba3 hbb3 hg7 hs7 hv7 hl7 hn9
                      go_wp2_with fail
                      refine (refcut_any _ ds n' ca _ _ (hd7.rd hw7) HL7.out (by omega) (by omega)).mono ?_
                      rintro e w8 ⟨rfl, rfl⟩
                      rw [HV7.out, Hn9.out]
                      clear hd7
                      go_wp2_with fail
                      go_roundg (M' - N' + N')
                      case measure => have h1 := HS.out; have h2 := hgw2.out.2; have h3 := hgw3.out.2; have h4 := HLE.out; have h5 := HN0.out; have h6 := HM0.out; omega
                      case rel => exact ⟨M' - N', N', ga, gb, n9, n'', ca, cb, rfl, rfl, rfl, Hn9, hlb3, by omega, by omega, by omega, by omega, hd9, hbo7, hgab, hga, hgb, HGT, hbw7⟩
      · have hA3 : bits .and .u32 (x : Int) 1 = 1 := by rw [hA1, show M1 % 2 = 1 by omega]; rfl
        clear hA1 hA2 hev hodd
        go_wp2_with fail
        go_loopg [0, 1] (M1 + N1) (fun Sm av bv wq => ∃ (M N ga gb na nb ca cb : Nat), Sm = M + N ∧ av = .slice (some ⟨ga, 0, none⟩) na ca ∧ bv = .slice (some ⟨gb, 0, none⟩) nb cb ∧ Hid ((digs M).length = na) ∧ Hid ((digs N).length = nb) ∧ na ≤ ca ∧ nb ≤ cb ∧ na ≤ 100000 ∧ nb ≤ 100000 ∧ Blk wq ga 99 (digs M) ∧ Blk wq gb 99 (digs N) ∧ ga ≠ gb ∧ w.heap.size ≤ ga ∧ w.heap.size ≤ gb ∧ Hid (Gw d M N) ∧ Below w.heap.size w wq)
        case atStart => exact ⟨M1, N1, g1, g2, na, nb, c1, c2, rfl, rfl, rfl, hl1, hl2, hc1', hc2', hn1', hn2', hb1, hb2, hg12, hg1, hg2, HGW, hbw⟩
        case round =>
          obtain ⟨M, N, ga, gb, na, nb, ca, cb, hS, rfl, rfl, hla, hlb, hca, hcb, hna, hnb, hba, hbb, hgab, hga, hgb, hgw, hbw⟩ := hrel
          have HS := Lib.hid hS
          clear hS hb1 hb2
          by_cases h0 : na = 0
          · have HND : Hid (N = d) := Lib.hid (gw_end (by have e0 : M = 0 := digs_eq_nil.1 (List.eq_nil_of_length_eq_zero (by rw [hla.out]; exact h0)); have h9 := hgw.out; rwa [e0] at h9))
            subst h0
            go_wp2_with fail
            go_loopw [1, 65] (fun bv kv wq => ∃ (k nq cq : Nat) (Aq : Option Addr), k ≤ T ∧ kv = .int .i64 k ∧ bv = .slice Aq nq cq ∧ Hid ((digs (2 ^ k * d)).length = nq) ∧ nq ≤ cq ∧ nq ≤ 100000 ∧ Rd wq wq.heap.size Aq (digs (2 ^ k * d)) ∧ Below w.heap.size w wq) (fun _ k _ => T - (intOf k).toNat)
            case atStart => exact ⟨0, nb, cb, some ⟨gb, 0, none⟩, Nat.zero_le _, rfl, rfl, Lib.hid (by rw [Nat.pow_zero, Nat.one_mul, ← HND.out]; exact hlb.out), hcb, hnb, by rw [Nat.pow_zero, Nat.one_mul, ← HND.out]; exact hbb.rd (wds_digs _), hbw⟩
            case round =>
              obtain ⟨k, nq, cq, Aq, hk, rfl, rfl, hlq, hcq, hnq, hrq, hbq⟩ := hrel
              clear hba hbb
              by_cases hkT : k < T
              · have HNX : Hid ((digs (2 ^ (k + 1) * d)).length ≤ 100000) := Lib.hid (HPW.out (k + 1) hkT)
                go_wp2_with fail
                refine (refplusL_any Aq Aq (2 ^ k * d) (2 ^ k * d) nq nq cq cq _ _ hrq hrq (Nat.le_refl _) (Nat.le_refl _) hlq.out hlq.out (by omega) (by omega) (2 ^ (k + 1) * d) (by rw [Nat.pow_succ]; grind)).mono ?_
                rintro e wp ⟨gp, np, cp, rfl, hlp, hcp, hgp, hblp, hbp⟩
                have hbq2 := below_next hbq hbp (Nat.le_refl _)
                have HR := Lib.hid (hblp.rd (wds_digs _))
                clear hrq hblp hbp
                go_wp2_with fail
                go_roundw
                case rel => exact ⟨k + 1, np, cp, _, by omega, by go_num, rfl, hlp, hcp, by rw [← hlp.out]; exact HNX.out, HR.out, hbq2⟩
                case measure => simp [intOf]; omega
              · obtain rfl : k = T := by omega
                go_wp2_with fail
                go_ret
                refine ⟨Aq, nq, cq, rfl, Lib.hid ?_, hcq, ?_, hbq⟩
                · rw [← HTG.out]; exact hlq.out
                · rw [← HTG.out]; exact hrq
          · have HM0 : Hid (0 < M) := Lib.hid (Nat.pos_of_ne_zero (fun e => h0 (by rw [← hla.out, e]; rfl)))
            have HN0 : Hid (0 < N) := Lib.hid hgw.out.2.2
            have hna0 : 0 < na := by omega
            clear h0
            go_wp2_with fail
            go_loopg [0] M (fun M' av wq2 => ∃ (n' : Nat), av = .slice (some ⟨ga, 0, none⟩) n' ca ∧ Hid ((digs M').length = n') ∧ n' ≤ na ∧ Blk wq2 ga 99 (digs M') ∧ Blk wq2 gb 99 (digs N) ∧ Hid (Gw d M' N ∧ 0 < M' ∧ M' ≤ M) ∧ Below w.heap.size w wq2)
            case atStart => exact ⟨na, rfl, hla, Nat.le_refl _, hba, hbb, Lib.hid ⟨hgw.out, HM0.out, Nat.le_refl _⟩, hbw⟩
            case round =>
              obtain ⟨n', rfl, hla2, hna2, hba2, hbb2, hgw2, hbw2⟩ := hrel
              clear hba hbb
              have hn'0 : 0 < n' := by rw [← hla2.out]; exact Nat.pos_of_ne_zero (fun e => by have h9 := digs_eq_nil.1 (List.eq_nil_of_length_eq_zero e); have := hgw2.out.2.1; omega)
              have hcc := hba2.cell (i := 0) (by rw [hla2.out]; exact hn'0)
              have hxl := dg_lt (wds_digs gk) 0
              have hxb := low_bit (ns := digs gk)
              rw [val_digs] at hxb
              obtain ⟨x, hx⟩ : ∃ x, x = dg (digs gk) 0 := ⟨_, rfl⟩
              rw [← hx] at hcc hxl hxb
              have hA1 := and_bit hxl
              rw [hxb] at hA1
              clear hx hxb hxl
              by_cases hev : gk % 2 = 0
              · have HST : Hid (Gw d (gk / 2) N ∧ 0 < gk / 2 ∧ gk / 2 ≤ M ∧ gk / 2 < gk) := Lib.hid ⟨gw_left hgw2.out.1 hev, by have := hgw2.out.2.1; omega, by have := hgw2.out.2.2; omega, by have := hgw2.out.2.1; omega⟩
                rw [hev] at hA1
                have hA2 : bits .and .u32 (x : Int) 1 = 0 := hA1
                clear hA1 hev
                go_wp2_with fail
                refine (halveL_any ga gk n' ca _ hba2 hla2.out (by omega) (by omega)).mono ?_
                rintro e w6 ⟨n6, rfl, hl6, hn6, hb6, hg6, hs6⟩
                have hbb6 := hbb2.of_same (hg6.block gb hbb2.lt (by intro e; injection e with e; exact hgab e.symm))
                have hbw6 := below_of_grown hbw2 hg6 hbw2.size hga
                clear hba2 hbb2 hg6
                go_wp2_with fail
                go_roundg (gk / 2)
                case measure => exact HST.out.2.2.2
                case rel => exact ⟨n6, rfl, hl6, by omega, hb6, hbb6, Lib.hid ⟨HST.out.1, HST.out.2.1, HST.out.2.2.1⟩, hbw6⟩
              · generalize gk = M' at *
                have hA2 : bits .and .u32 (x : Int) 1 = 1 := by rw [hA1, show M' % 2 = 1 by omega]; rfl
                clear hA1 hev
                go_wp2_with fail
                go_loopg [1] N (fun N' bv wq3 => ∃ (n'' : Nat), bv = .slice (some ⟨gb, 0, none⟩) n'' cb ∧ Hid ((digs N').length = n'') ∧ n'' ≤ nb ∧ Blk wq3 ga 99 (digs M') ∧ Blk wq3 gb 99 (digs N') ∧ Hid (Gw d M' N' ∧ 0 < N' ∧ N' ≤ N) ∧ Below w.heap.size w wq3)
                case atStart => exact ⟨nb, rfl, hlb, Nat.le_refl _, hba2, hbb2, Lib.hid ⟨hgw2.out.1, HN0.out, Nat.le_refl _⟩, hbw2⟩
                case round =>
                  obtain ⟨n'', rfl, hlb3, hnb3, hba3, hbb3, hgw3, hbw3⟩ := hrel
                  clear hba2 hbb2 hcc hA2
                  have hn''0 : 0 < n'' := by rw [← hlb3.out]; exact Nat.pos_of_ne_zero (fun e => by have h9 := digs_eq_nil.1 (List.eq_nil_of_length_eq_zero e); have := hgw3.out.2.1; omega)
                  have hcc := hbb3.cell (i := 0) (by rw [hlb3.out]; exact hn''0)
                  have hxl := dg_lt (wds_digs gk) 0
                  have hxb := low_bit (ns := digs gk)
                  rw [val_digs] at hxb
                  obtain ⟨y, hy⟩ : ∃ y, y = dg (digs gk) 0 := ⟨_, rfl⟩
                  rw [← hy] at hcc hxl hxb
                  have hA1 := and_bit hxl
                  rw [hxb] at hA1
                  clear hy hxb hxl
                  by_cases hev : gk % 2 = 0
                  · have HST : Hid (Gw d M' (gk / 2) ∧ 0 < gk / 2 ∧ gk / 2 ≤ N ∧ gk / 2 < gk) := Lib.hid ⟨gw_right hgw3.out.1 hev, by have := hgw3.out.2.1; omega, by have := hgw3.out.2.2; omega, by have := hgw3.out.2.1; omega⟩
                    rw [hev] at hA1
                    have hA2 : bits .and .u32 (y : Int) 1 = 0 := hA1
                    clear hA1 hev
                    go_wp2_with fail
                    refine (halveL_any gb gk n'' cb _ hbb3 hlb3.out (by omega) (by omega)).mono ?_
                    rintro e w6 ⟨n6, rfl, hl6, hn6, hb6, hg6, hs6⟩
                    have hba6 := hba3.of_same (hg6.block ga hba3.lt (by intro e; injection e with e; exact hgab e))
                    have hbw6 := below_of_grown hbw3 hg6 hbw3.size hgb
                    clear hba3 hbb3 hg6
                    go_wp2_with fail
                    go_roundg (gk / 2)
                    case measure => exact HST.out.2.2.2
                    case rel => exact ⟨n6, rfl, hl6, by omega, hba6, hb6, Lib.hid ⟨HST.out.1, HST.out.2.1, HST.out.2.2.1⟩, hbw6⟩
                  · generalize gk = N' at *
                    have hA2 : bits .and .u32 (y : Int) 1 = 1 := by rw [hA1, show N' % 2 = 1 by omega]; rfl
                    clear hA1 hev
                    by_cases hlt : M' < N'
                    · have HC := Lib.hid (cmpN_lt hlt)
                      have HLE : Hid (M' ≤ N') := Lib.hid (Nat.le_of_lt hlt)
                      have HGT : Hid (Gw d (N' - M') M') := Lib.hid (gw_take (gw_swap hgw3.out.1 hgw2.out.2.1) (Nat.le_of_lt hlt))
                      clear hlt
                      go_wp2_with fail
                      refine (refcompare_any _ _ (digs M') (digs N') n' n'' ca cb _ _ _ (hba3.rd (wds_digs _)) (hbb3.rd (wds_digs _)) hla2.out hlb3.out (by omega) (by omega)).mono ?_
                      rintro e w' ⟨rfl, rfl⟩
                      rw [val_digs, val_digs, HC.out]
                      go_wp2_with fail
                      have HLN : Hid (n' ≤ n'') := Lib.hid (by rw [← hlb3.out, ← hla2.out]; exact digs_len_mono HLE.out)
                      have hnn := HLN.out
                      refine (take_any gb (digs N') (digs M') n'' n' cb ca _ (some ⟨ga, 0, none⟩) _ hbb3 (wds_digs _) (hba3.rd (wds_digs _)) (Nat.le_refl _) (fun _ a e => by injection e with e; subst e; exact hgab) hlb3.out hla2.out hnn (by omega) (by rw [val_digs, val_digs]; exact HLE.out)).mono ?_
                      rintro e w7 ⟨ds, rfl, hd7, hw7, hl7, hv7, hg7, hs7⟩
                      rw [val_digs, val_digs] at hv7
                      have hbo7 := hba3.of_same (hg7.block ga hba3.lt (by intro e; injection e with e; exact hgab e))
                      have hbw7 := below_of_grown hbw3 hg7 hbw3.size hgb
                      have hd9 := hd7.digs hw7
                      rw [hv7] at hd9
                      have HN9 : Hid ((digs (N' - M')).length ≤ n'') := Lib.hid (by have h9 := digs_len_le hw7; rwa [hv7, hl7] at h9)
                      obtain ⟨n9, hn9⟩ : ∃ n9, n9 = (digs (N' - M')).length := ⟨_, rfl⟩
                      have Hn9 := Lib.hid hn9.symm
                      have hn9l : n9 ≤ n'' := by rw [hn9]; exact HN9.out
                      have HV7 := Lib.hid hv7
                      have HL7 := Lib.hid hl7
                      clear hbb3 hba3 hg7 hs7 hv7 hl7 hn9
                      go_wp2_with fail
                      refine (refcut_any _ ds n'' cb _ _ (hd7.rd hw7) HL7.out (by omega) (by omega)).mono ?_
                      rintro e w8 ⟨rfl, rfl⟩
                      rw [HV7.out, Hn9.out]
                      clear hd7
                      go_wp2_with fail
                      go_roundg (N' - M' + M')
                      case measure => have h1 := HS.out; have h2 := hgw2.out.2; have h3 := hgw3.out.2; have h4 := HLE.out; have h5 := HN0.out; have h6 := HM0.out; omega
                      case rel => exact ⟨N' - M', M', gb, ga, n9, n', cb, ca, rfl, rfl, rfl, Hn9, hla2, by omega, by omega, by omega, by omega, hd9, hbo7, hgab.symm, hgb, hga, HGT, hbw7⟩
                    · have HLE : Hid (N' ≤ M') := Lib.hid (by omega)
                      obtain ⟨cv, HC, hcv⟩ : ∃ cv : Int, Hid (cmpN M' N' = cv) ∧ 0 ≤ cv := by
                        rcases Nat.lt_or_ge N' M' with h1 | h1
                        · exact ⟨1, Lib.hid (cmpN_gt h1), by omega⟩
                        · exact ⟨0, Lib.hid (cmpN_eq (by omega)), by omega⟩
                      have HGT : Hid (Gw d (M' - N') N') := Lib.hid (gw_take hgw3.out.1 HLE.out)
                      clear hlt
                      go_wp2_with fail
                      refine (refcompare_any _ _ (digs M') (digs N') n' n'' ca cb _ _ _ (hba3.rd (wds_digs _)) (hbb3.rd (wds_digs _)) hla2.out hlb3.out (by omega) (by omega)).mono ?_
                      rintro e w' ⟨rfl, rfl⟩
                      rw [val_digs, val_digs, HC.out]
                      go_wp2_with fail
                      have HLN : Hid (n'' ≤ n') := Lib.hid (by rw [← hla2.out, ← hlb3.out]; exact digs_len_mono HLE.out)
                      have hnn := HLN.out
                      refine (take_any ga (digs M') (digs N') n' n'' ca cb _ (some ⟨gb, 0, none⟩) _ hba3 (wds_digs _) (hbb3.rd (wds_digs _)) (Nat.le_refl _) (fun _ a e => by injection e with e; subst e; exact hgab.symm) hla2.out hlb3.out hnn (by omega) (by rw [val_digs, val_digs]; exact HLE.out)).mono ?_
                      rintro e w7 ⟨ds, rfl, hd7, hw7, hl7, hv7, hg7, hs7⟩
                      rw [val_digs, val_digs] at hv7
                      have hbo7 := hbb3.of_same (hg7.block gb hbb3.lt (by intro e; injection e with e; exact hgab e.symm))
                      have hbw7 := below_of_grown hbw3 hg7 hbw3.size hga
                      have hd9 := hd7.digs hw7
                      rw [hv7] at hd9
                      have HN9 : Hid ((digs (M' - N')).length ≤ n') := Lib.hid (by have h9 := digs_len_le hw7; rwa [hv7, hl7] at h9)
                      obtain ⟨n9, hn9⟩ : ∃ n9, n9 = (digs (M' - N')).length := ⟨_, rfl⟩
                      have Hn9 := Lib.hid hn9.symm
                      have hn9l : n9 ≤ n' := by rw [hn9]; exact HN9.out
                      have HV7 := Lib.hid hv7
                      have HL7 := Lib.hid hl7
                      clear hba3 hbb3 hg7 hs7 hv7 hl7 hn9
                      go_wp2_with fail
                      refine (refcut_any _ ds n' ca _ _ (hd7.rd hw7) HL7.out (by omega) (by omega)).mono ?_
                      rintro e w8 ⟨rfl, rfl⟩
                      rw [HV7.out, Hn9.out]
                      clear hd7
                      go_wp2_with fail
                      go_roundg (M' - N' + N')
                      case measure => have h1 := HS.out; have h2 := hgw2.out.2; have h3 := hgw3.out.2; have h4 := HLE.out; have h5 := HN0.out; have h6 := HM0.out; omega
                      case rel => exact ⟨M' - N', N', ga, gb, n9, n'', ca, cb, rfl, rfl, rfl, Hn9, hlb3, by omega, by omega, by omega, by omega, hd9, hbo7, hgab, hga, hgb, HGT, hbw7⟩
end Go.Proofs.YtbihljnjaondcaaGreatDoor
/-! Walks of the reference's Root and Gcd. -/
namespace Lw
open Go Go.RowKit
/-- The root bit by bit: before bit i the part R of the root of M is found. -/
def Rb (M i R : Nat) : Prop := R * R ≤ M ∧ M < (R + 2 ^ i) * (R + 2 ^ i)
theorem rb_start {M nb : Nat} (h : M < 2 ^ nb) : Rb M (nb / 2 + 1) 0 := by
  refine ⟨by simp, ?_⟩
  rw [Nat.zero_add, ← Nat.pow_add]
  exact Nat.lt_of_lt_of_le h (Nat.pow_le_pow_right (by omega) (by omega))
theorem rb_yes {M i R X : Nat} (h : Rb M (i + 1) R) (hX : X = R + 2 ^ i) (hl : X * X ≤ M) : Rb M i X := by
  obtain ⟨h1, h2⟩ := h
  refine ⟨hl, ?_⟩
  have e : X + 2 ^ i = R + 2 ^ (i + 1) := by rw [hX, Nat.pow_succ]; omega
  rw [e]; exact h2
theorem rb_no {M i R X : Nat} (h : Rb M (i + 1) R) (hX : X = R + 2 ^ i) (hl : M < X * X) : Rb M i R := ⟨h.1, by rw [← hX]; exact hl⟩
theorem rb_end {M R : Nat} (h : Rb M 0 R) : R = rt M := rt_eq h.1 (by have := h.2; simpa using this)
theorem rb_le {M i R : Nat} (h : Rb M i R) : R ≤ M := by
  rcases Nat.eq_zero_or_pos R with h0 | h0
  · omega
  · have h1 := h.1
    have := Nat.le_mul_of_pos_left R h0
    omega
theorem dbl_bit {i nb n : Nat} (h : i ≤ nb / 2) (hn : nb ≤ 32 * n) : i / 32 ≤ n := by omega
end Lw
namespace Go.Proofs.YtbihljnjaondcaaGreatDoor
open Go Go.RowKit Lw
/-- An integer and the number of an error. -/
def RQ (z : Int) (er : Value) (w : World) (e : Ending) (w' : World) : Prop :=
  ∃ (A : Option Addr) (c : Nat), e = .returned (.tuple #[.agg #[.bool (sg z), .slice A (mg z).length c], er]) ∧ (mg z).length ≤ c ∧ Rd w' w'.heap.size A (mg z) ∧ Below w.heap.size w w'
theorem refplusV_any (A A' : Option Addr) (ns ms : List Nat) (n m c c' B B' N : Nat) {w : World} (h : Rd w B A ns) (h' : Rd w B' A' ms) (hB : B ≤ w.heap.size) (hB' : B' ≤ w.heap.size) (hn : ns.length = n) (hm : ms.length = m) (hl : n ≤ 16777216) (hl' : m ≤ 16777216) (hN : val ns + val ms = N) :
    Calls Tryz.prog 162 #[.slice A n c, .slice A' m c'] w (LenOut w N) := by
  subst hN; exact (refplus_any A A' ns ms n m c c' B B' w h h' hB hB' hn hm hl hl').mono fun e w' hh => lenOut hh
theorem reftimesV_any (A A' : Option Addr) (ns ms : List Nat) (n m c c' B B' N : Nat) {w : World} (h : Rd w B A ns) (h' : Rd w B' A' ms) (hB : B ≤ w.heap.size) (hB' : B' ≤ w.heap.size) (hn : ns.length = n) (hm : ms.length = m) (hl : n ≤ 16777216) (hl' : m ≤ 16777216) (hN : val ns * val ms = N) :
    Calls Tryz.prog 166 #[.slice A n c, .slice A' m c'] w (LenOut w N) := by
  subst hN; exact (reftimes_any A A' ns ms n m c c' B B' w h h' hB hB' hn hm hl hl').mono fun e w' hh => lenOut hh
set_option maxRecDepth 100000 in
set_option maxHeartbeats 3200000 in
theorem refrootneg_any (s : Bool) (A : Option Addr) (ns : List Nat) (n c B : Nat) (w : World) (h : Rd w B A ns) (hB : B ≤ w.heap.size) (hn : ns.length = n) (hl : n ≤ 10000) (hz : sg (zv s ns) = true) :
    Calls Tryz.prog 144 #[.agg #[.bool s, .slice A n c]] w (RQ 0 (.int .i64 3) w) := by
  have hk' := fun W hR hB' => refneg_any s A ns n c B W hR hB' hn (by omega)
  rw [hz] at hk'
  have Hk' := Lib.hid hk'
  clear hk' hn hz
  go_enter Tryz.func144, Tryz.ntmps144
  go_wp2_with fail
  refine (Hk'.out _ ((h.alloc hB _).alloc (by simp; omega) _) (by simp; omega)).mono ?_
  rintro e w1 ⟨rfl, hb1⟩
  obtain ⟨t1, t2, hs1, hb2⟩ := box2 hb1
  obtain ⟨c20, c21, f20, f21⟩ := t2.facts
  go_wp2_with fail
  refine bodyPost_ret (v := .tuple #[.agg #[.bool false, .slice none 0 0], .int .i64 3]) (by simp [results, Tryz.results144, go_sem, c20, c21]) rfl ?_
  refine ⟨none, 0, rfl, Nat.le_refl _, Rd.nil_ _ _ _, ?_⟩
  exact (hb2.setCell (by simp) _).setCell (by simp) _
set_option maxRecDepth 100000 in
set_option maxHeartbeats 6400000 in
theorem refroot_any (s : Bool) (A : Option Addr) (ns : List Nat) (n c B : Nat) (w : World) (h : Rd w B A ns) (hB : B ≤ w.heap.size) (hn : ns.length = n) (hl : n ≤ 10000) (hc : n ≤ c) (hz : sg (zv s ns) = false) :
    Calls Tryz.prog 144 #[.agg #[.bool s, .slice A n c]] w (RQ ((rt (zv s ns).natAbs : Nat) : Int) (.int .i64 0) w) := by
  have hlz := zv_len (s := s) h.wds
  rw [hn] at hlz
  have hk := fun W hR hB' => mag_any s A ns n c B W hR hB' hn (by omega) hc
  have hk' := fun W hR hB' => refneg_any s A ns n c B W hR hB' hn (by omega)
  rw [hz] at hk'
  generalize zv s ns = z at *
  have Hk := Lib.hid hk
  have Hk' := Lib.hid hk'
  obtain ⟨n1, hn1⟩ : ∃ n1, n1 = (mg z).length := ⟨_, rfl⟩
  have Hn1 := Lib.hid hn1.symm
  rw [← hn1] at hlz
  obtain ⟨NB, hNB⟩ : ∃ NB, NB = nbits (mg z) := ⟨_, rfl⟩
  have hNBl : NB ≤ 32 * n1 := by rw [hNB, hn1]; exact nbits_top (mg_wds z)
  have HX : Hid (z.natAbs < 2 ^ NB) := Lib.hid (by rw [hNB, ← val_mg]; exact lt_nbits (mg_wds z))
  have HNB := Lib.hid hNB.symm
  clear hk hk' hn hz hn1 hNB
  go_enter Tryz.func144, Tryz.ntmps144
  go_wp2_with fail
  refine (Hk'.out _ ((h.alloc hB _).alloc (by simp; omega) _) (by simp; omega)).mono ?_
  rintro e w1 ⟨rfl, hb1⟩
  obtain ⟨t1, t2, hs1, hb2⟩ := box2 hb1
  obtain ⟨c10, c11, f10, f11⟩ := t1.facts
  go_wp2_with fail
  refine (Hk.out _ (h.below (hb2.mono hB)) (by omega)).mono ?_
  rintro e w2 ⟨A1, c1, rfl, hc1, hr1, hb3⟩
  rw [Hn1.out] at hc1 ⊢
  have hT2 := t2.next hb3
  have hb4 := below_next hb2 hb3 (by omega)
  have hr1' : Rd w2 w2.heap.size A1 (mg z) := hr1.more (Nat.le_trans hB hb4.size)
  have hs2 : w.heap.size + 2 ≤ w2.heap.size := by have := hb3.size; omega
  clear hr1 hb1 hb2 hb3 t1 c10 c11 f10 f11
  go_wp2_with fail
  refine (refbits_any A1 (mg z) n1 c1 _ _ hr1' Hn1.out (by omega)).mono ?_
  rintro e w' ⟨rfl, rfl⟩
  rw [HNB.out]
  go_wp2_with fail
  go_loopw [5, 6] (fun rv iv wq => ∃ (i : Int) (R nr cr : Nat) (Ar : Option Addr), -1 ≤ i ∧ i ≤ (NB : Int) / 2 ∧ iv = .int .i64 i ∧ rv = .slice Ar nr cr ∧ Hid ((digs R).length = nr) ∧ nr ≤ cr ∧ nr ≤ n1 ∧ Rd wq wq.heap.size Ar (digs R) ∧ Hid (Rb z.natAbs (i + 1).toNat R) ∧ Below w2.heap.size w2 wq) (fun _ v _ => (intOf v + 1).toNat)
  case atStart => exact ⟨(NB : Int) / 2, 0, 0, 0, none, by omega, Int.le_refl _, rfl, rfl, Lib.hid rfl, Nat.le_refl _, Nat.zero_le _, Rd.nil_ _ _ _, Lib.hid (by rw [show ((NB : Int) / 2 + 1).toNat = NB / 2 + 1 by omega]; exact rb_start HX.out), Below.refl _ _⟩
  case round =>
    obtain ⟨i, R, nr, cr, Ar, hi, hiN, rfl, rfl, hlr, hcr, hnr, hrr, hrb, hbq⟩ := hrel
    have T2 := hT2.next hbq
    obtain ⟨c20, c21, f20, f21⟩ := T2.facts
    have hbw := below_next hb4 hbq (by omega)
    by_cases hi0 : i < 0
    · have HV : Hid (R = rt z.natAbs) := Lib.hid (rb_end (by have := hrb.out; rwa [show (i + 1).toNat = 0 by omega] at this))
      clear hrb
      go_wp2_with fail
      refine (form_any false Ar (digs R) nr cr _ ((rt z.natAbs : Nat) : Int) _ hrr (Nat.le_refl _) hlr.out (by omega) (by rw [val_digs, HV.out]; rfl)).mono ?_
      rintro e w5 ⟨A5, c5, rfl, hc5, hr5, hb5⟩
      have V2 := T2.next hb5
      clear c20 c21 f20 f21
      obtain ⟨d0, d1, g0, g1⟩ := V2.facts
      go_wp2_with fail
      refine bodyPost_ret (v := .tuple #[.agg #[.bool (sg ((rt z.natAbs : Nat) : Int)), .slice A5 (mg ((rt z.natAbs : Nat) : Int)).length c5], .int .i64 0]) (by simp [results, Tryz.results144, go_sem, d0, d1]) rfl ?_
      obtain ⟨A6, c6, he, h1, h2, h3⟩ := zout_put V2 hr5 (Nat.le_refl _) hc5 (below_next hbw hb5 (Nat.le_refl _)) (by omega)
      injection he with he
      injection he with he
      simp at he
      obtain ⟨rfl, rfl⟩ := he
      exact ⟨A5, c5, rfl, h1, h2, h3⟩
    · obtain ⟨j, rfl⟩ := Int.eq_ofNat_of_zero_le (show 0 ≤ i by omega)
      have HRB : Hid (Rb z.natAbs (j + 1) R) := Lib.hid (by have := hrb.out; rwa [show ((j : Int) + 1).toNat = j + 1 by omega] at this)
      have hjn : j / 32 ≤ n1 := dbl_bit (nb := NB) (by omega) hNBl
      have HVB := Lib.hid (fun (hh : j / 32 < (List.replicate (j / 32 + 1) 0).length) => val_bit hh)
      obtain ⟨K, hK⟩ : ∃ K, K = j / 32 := ⟨_, rfl⟩
      obtain ⟨t, ht⟩ : ∃ t, t = j % 32 := ⟨_, rfl⟩
      have e1 : (j : Int) / 32 = (K : Int) := by omega
      have e2 : (j : Int) % 32 = (t : Int) := by omega
      have ht31 : t ≤ 31 := by omega
      obtain ⟨P, hP⟩ : ∃ P, P = 2 ^ t := ⟨_, rfl⟩
      have hP2 : (2 : Int) ^ t = (P : Int) := by rw [hP]; simp
      have hPl : P < 4294967296 := by
        have : 2 ^ t ≤ 2 ^ 31 := Nat.pow_le_pow_right (by omega) ht31
        omega
      have hPw : IntKind.u32.wrap (P : Int) = (P : Int) := IntWalk.u32_in _ (by omega)
      have HBV : Hid (val ((List.replicate (K + 1) 0).set K P) = 2 ^ j) := Lib.hid (by
        have h9 := HVB.out (by simp)
        rw [dg_replicate, Nat.zero_add, val_replicate, Nat.zero_add, ← hK, ← ht, ← hP] at h9
        exact h9)
      rw [← hK] at hjn
      have HWD : Hid (Wds ((List.replicate (K + 1) 0).set K P)) := Lib.hid (wds_set (wds_replicate _) _ hPl)
      clear hrb hK ht hP HVB
      go_wp2_with (at_make; refine wpList_make32 _ rfl _ _ _ rfl 99 Tryz.underlying22 info32 _ _ _ _ (K + 1) rfl rfl (by omega) (by omega) (by omega) ?_; intro w3 hblk hbel hsz; have hfr := hblk.frozen K; have hcc := hblk.cell (i := K) (by simp))
      obtain ⟨X, hX⟩ : ∃ X, X = R + 2 ^ j := ⟨_, rfl⟩
      have hXl : (digs X).length ≤ n1 + (K + 1) + 1 := by
        have h1 : R < pw n1 := Nat.lt_of_lt_of_le (lt_of_digs_length (Nat.le_of_eq hlr.out)) (pw_le hnr)
        have h2 : 2 ^ j < pw (K + 1) := by rw [← HBV.out]; have h9 := val_lt HWD.out; rwa [List.length_set, List.length_replicate] at h9
        have h3 := lt_sum (x := (R : Int)) (y := ((2 ^ j : Nat) : Int)) (k := n1) (k' := K + 1) (by rw [Int.natAbs_natCast]; exact h1) (by rw [Int.natAbs_natCast]; exact h2)
        rw [← Int.natCast_add, Int.natAbs_natCast, ← hX] at h3
        exact digs_length_le h3
      have HPX : Hid (val (digs R) + val ((List.replicate (K + 1) 0).set K P) = X) := Lib.hid (by rw [val_digs, HBV.out, hX])
      have HXX := Lib.hid hX
      have hlb : ((List.replicate (K + 1) 0).set K P).length = K + 1 := by simp
      have HLB := Lib.hid hlb
      have hB4 := (hblk.set_ (i := K) P (by simp)).rd HWD.out
      have hR4 := (hrr.below hbel).setCell (p := ⟨wr.heap.size, K, none⟩) (Nat.le_refl _) (.int .u32 (P : Int))
      have hbw4 := hbel.setCell (p := ⟨wr.heap.size, K, none⟩) (Nat.le_refl _) (.int .u32 (P : Int))
      have hs4 := hbw4.size
      clear hX hlb hblk hbel hfr hcc hsz c20 c21 f20 f21
      refine (refplusV_any Ar _ (digs R) ((List.replicate (K + 1) 0).set K P) nr (K + 1) cr (K + 1) _ _ X hR4 hB4 hs4 (Nat.le_refl _) hlr.out HLB.out (by omega) (by omega) HPX.out).mono ?_
      rintro e w5 ⟨g5, n5, c5, rfl, hn5, hc5, hg5, hblk5, hb5⟩
      have hn5l : n5 ≤ n1 + (K + 1) + 1 := by rw [← hn5.out]; exact hXl
      have hbw5 := below_next hbw4 hb5 (Nat.le_refl _)
      have hr5 := hblk5.rd (wds_digs _)
      clear hR4 hB4 hblk5 hb5 hXl
      go_wp2_with fail
      refine (reftimesV_any _ _ (digs X) (digs X) n5 n5 c5 c5 _ _ (X * X) hr5 hr5 (Nat.le_refl _) (Nat.le_refl _) hn5.out hn5.out (by omega) (by omega) (by rw [val_digs])).mono ?_
      rintro e w6 ⟨g6, n6, c6, rfl, hn6, hc6, hg6, hblk6, hb6⟩
      have HR5 := Lib.hid (hr5.next hb6 (Nat.le_refl _))
      have hs56 := hb6.size
      have hbw6 := below_next hbw5 hb6 (Nat.le_refl _)
      have HBW := Lib.hid (below_next hbq hbw6 (Nat.le_refl _))
      have HRO := Lib.hid ((hrr.next hbw6 (Nat.le_refl _)).more hbw6.size)
      have hmz := hr1'.next (below_next hbq hbw6 (Nat.le_refl _)) (Nat.le_refl _)
      have hn6l : n6 ≤ 16777216 := by
        rw [← hn6.out]
        have h1 : X < pw (n1 + (K + 1) + 1) := Nat.lt_of_lt_of_le (lt_of_digs_length (Nat.le_of_eq hn5.out)) (pw_le hn5l)
        have h3 := lt_mul (x := (X : Int)) (y := (X : Int)) (k := n1 + (K + 1) + 1) (k' := n1 + (K + 1) + 1) (by rw [Int.natAbs_natCast]; exact h1) (by rw [Int.natAbs_natCast]; exact h1)
        rw [← Int.natCast_mul, Int.natAbs_natCast] at h3
        have := digs_length_le h3
        omega
      have hr6 := hblk6.rd (wds_digs _)
      clear hr5 hblk6 hb6 hbw5 hbw4
      by_cases hle : X * X ≤ z.natAbs
      · obtain ⟨cv, HC, hcv⟩ : ∃ cv : Int, Hid (cmpN (X * X) z.natAbs = cv) ∧ cv ≤ 0 := by
          rcases Nat.lt_or_ge (X * X) z.natAbs with h1 | h1
          · exact ⟨-1, Lib.hid (cmpN_lt h1), by omega⟩
          · exact ⟨0, Lib.hid (cmpN_eq (by omega)), by omega⟩
        have HY := Lib.hid (rb_yes HRB.out HXX.out hle)
        have hn5m : n5 ≤ n1 := by rw [← hn5.out, ← Hn1.out]; exact digs_len_mono (rb_le HY.out)
        clear hle
        go_wp2_with fail
        refine (refcompare_any _ A1 (digs (X * X)) (mg z) n6 n1 c6 c1 _ _ _ hr6 hmz hn6.out Hn1.out (by omega) (by omega)).mono ?_
        rintro e w' ⟨rfl, rfl⟩
        rw [val_digs, val_mg, HC.out]
        go_wp2_with fail
        go_roundw
        case rel => exact ⟨(j : Int) - 1, X, n5, c5, _, by omega, by omega, by go_num, rfl, hn5, hc5, hn5m, HR5.out.more hs56, Lib.hid (by rw [show ((j : Int) - 1 + 1).toNat = j by omega]; exact HY.out), HBW.out⟩
        case measure => simp [intOf]
      · have HC := Lib.hid (cmpN_gt (a := X * X) (b := z.natAbs) (by omega))
        have HY := Lib.hid (rb_no HRB.out HXX.out (by omega))
        clear hle
        go_wp2_with fail
        refine (refcompare_any _ A1 (digs (X * X)) (mg z) n6 n1 c6 c1 _ _ _ hr6 hmz hn6.out Hn1.out (by omega) (by omega)).mono ?_
        rintro e w' ⟨rfl, rfl⟩
        rw [val_digs, val_mg, HC.out]
        go_wp2_with fail
        go_roundw
        case rel => exact ⟨(j : Int) - 1, R, nr, cr, _, by omega, by omega, by go_num, rfl, hlr, hcr, hnr, HRO.out, Lib.hid (by rw [show ((j : Int) - 1 + 1).toNat = j by omega]; exact HY.out), HBW.out⟩
        case measure => simp [intOf]
end Go.Proofs.YtbihljnjaondcaaGreatDoor
/-! Walks of the reference's Gcd and Div. -/
namespace Lw
open Go Go.RowKit
theorem Envr.addbox {t : TypeId} {W0 w : World} {bs : List Bx} {L : List En} {M : List Sn} (h : Envr t W0 w bs L M) (x y : Value) : Envr t W0 (w.alloc (.cells #[x, y] t)) (⟨w.heap.size, x, y⟩ :: bs) L M :=
  ⟨h.env.addbox x y, fun e he => (h.sls e he).next ((Below.refl _ w).alloc (Nat.le_refl _) _)⟩
theorem Envr.lit1 {t tu : TypeId} {W0 w : World} {bs : List Bx} {L : List En} {M : List Sn} (h : Envr t W0 w bs L M) : Envr t W0 (w.alloc (.cells #[.int .u32 1] tu)) bs L (⟨.slice (some ⟨w.heap.size, 0, none⟩) 1 1, [1], 1⟩ :: M) :=
  (h.next ((Below.refl _ w).alloc (Nat.le_refl _) _)).cons ⟨some ⟨w.heap.size, 0, none⟩, 1, 1, _, rfl, (Blk.new w tu [1]).rd (by rw [wds_cons]; exact ⟨by omega, wds_nil⟩), Nat.le_refl _, rfl, Nat.le_refl _, Nat.le_refl _⟩
theorem opd_read {w : World} {z : Int} {K : Nat} {A : Option Addr} {c : Nat} (h : Opd w ⟨.agg #[.bool (sg z), .slice A (mg z).length c], z, K, true⟩) : ∃ B, Rd w B A (mg z) ∧ B ≤ w.heap.size ∧ (mg z).length ≤ c := by
  obtain ⟨s, A', n, c', ns, B, e1, h2, h3, h4, h5, h6, e7, h8⟩ := h
  dsimp only at e1 e7 h8
  simp at e1
  obtain ⟨rfl, rfl, rfl, rfl⟩ := e1
  have hz : z = if sg z then -(val ns : Int) else (val ns : Int) := by
    unfold zv at e7; rw [h8] at e7; exact e7.symm
  obtain ⟨_, e2, _⟩ := valid_form h8 hz h2.wds
  exact ⟨B, by rw [e2]; exact h2, h3, h6⟩
theorem Env.four {t : TypeId} {W0 w : World} {L : List En} {g1 g2 g3 g4 : Nat} {x1 y1 x2 y2 x3 y3 x4 y4 : Value} (h : Env t W0 w [⟨g4, x4, y4⟩, ⟨g1, x1, y1⟩, ⟨g2, x2, y2⟩, ⟨g3, x3, y3⟩] L) :
    w.cell? ⟨g1, 0, none⟩ = some x1 ∧ w.cell? ⟨g1, 1, none⟩ = some y1 ∧ w.cell? ⟨g2, 0, none⟩ = some x2 ∧ w.cell? ⟨g2, 1, none⟩ = some y2 := by
  obtain ⟨a1, a2, _, _⟩ := (h.box _ (.tail _ (.head _))).facts
  obtain ⟨b1, b2, _, _⟩ := (h.box _ (.tail _ (.tail _ (.head _)))).facts
  exact ⟨a1, a2, b1, b2⟩
theorem Env.res3 {t : TypeId} {W0 w : World} {L : List En} {g1 g2 g3 g4 : Nat} {x1 y1 x2 y2 x3 y3 x4 y4 : Value} (h : Env t W0 w [⟨g4, x4, y4⟩, ⟨g1, x1, y1⟩, ⟨g2, x2, y2⟩, ⟨g3, x3, y3⟩] L) : Two w g3 t x3 y3 := h.box _ (.tail _ (.tail _ (.tail _ (.head _))))
theorem Env.res4 {t : TypeId} {W0 w : World} {L : List En} {bs : List Bx} {g4 : Nat} {x4 y4 : Value} (h : Env t W0 w (⟨g4, x4, y4⟩ :: bs) L) : Two w g4 t x4 y4 := h.box _ (.head _)
theorem two_cells {t : TypeId} {w : World} {g1 g2 : Nat} {x1 y1 x2 y2 : Value} (h1 : Two w g1 t x1 y1) (h2 : Two w g2 t x2 y2) :
    w.cell? ⟨g1, 0, none⟩ = some x1 ∧ w.cell? ⟨g1, 1, none⟩ = some y1 ∧ w.cell? ⟨g2, 0, none⟩ = some x2 ∧ w.cell? ⟨g2, 1, none⟩ = some y2 := ⟨h1.facts.1, h1.facts.2.1, h2.facts.1, h2.facts.2.1⟩
theorem Env.far2 {t : TypeId} {W0 w : World} {L : List En} {g1 g2 g3 g4 p : Nat} {x1 y1 x2 y2 x3 y3 x4 y4 : Value} (h : Env t W0 w [⟨g4, x4, y4⟩, ⟨g1, x1, y1⟩, ⟨g2, x2, y2⟩, ⟨g3, x3, y3⟩] L) (h1 : g1 ≠ p) (h2 : g2 ≠ p) (u v : Value) :
    ((w.setCell ⟨p, 0, none⟩ u).setCell ⟨p, 1, none⟩ v).cell? ⟨g1, 0, none⟩ = some x1 ∧ ((w.setCell ⟨p, 0, none⟩ u).setCell ⟨p, 1, none⟩ v).cell? ⟨g1, 1, none⟩ = some y1 ∧
    ((w.setCell ⟨p, 0, none⟩ u).setCell ⟨p, 1, none⟩ v).cell? ⟨g2, 0, none⟩ = some x2 ∧ ((w.setCell ⟨p, 0, none⟩ u).setCell ⟨p, 1, none⟩ v).cell? ⟨g2, 1, none⟩ = some y2 :=
  two_cells (((h.box _ (.tail _ (.head _))).far (p := ⟨p, 0, none⟩) h1 u).far (p := ⟨p, 1, none⟩) h1 v) (((h.box _ (.tail _ (.tail _ (.head _)))).far (p := ⟨p, 0, none⟩) h2 u).far (p := ⟨p, 1, none⟩) h2 v)
theorem Env.far4 {t : TypeId} {W0 w : World} {L : List En} {g1 g2 g3 g4 p q : Nat} {x1 y1 x2 y2 x3 y3 x4 y4 : Value} (h : Env t W0 w [⟨g4, x4, y4⟩, ⟨g1, x1, y1⟩, ⟨g2, x2, y2⟩, ⟨g3, x3, y3⟩] L) (h1 : g1 ≠ p) (h2 : g2 ≠ p) (k1 : g1 ≠ q) (k2 : g2 ≠ q) (u v u' v' : Value) :
    ((((w.setCell ⟨p, 0, none⟩ u).setCell ⟨p, 1, none⟩ v).setCell ⟨q, 0, none⟩ u').setCell ⟨q, 1, none⟩ v').cell? ⟨g1, 0, none⟩ = some x1 ∧ ((((w.setCell ⟨p, 0, none⟩ u).setCell ⟨p, 1, none⟩ v).setCell ⟨q, 0, none⟩ u').setCell ⟨q, 1, none⟩ v').cell? ⟨g1, 1, none⟩ = some y1 ∧
    ((((w.setCell ⟨p, 0, none⟩ u).setCell ⟨p, 1, none⟩ v).setCell ⟨q, 0, none⟩ u').setCell ⟨q, 1, none⟩ v').cell? ⟨g2, 0, none⟩ = some x2 ∧ ((((w.setCell ⟨p, 0, none⟩ u).setCell ⟨p, 1, none⟩ v).setCell ⟨q, 0, none⟩ u').setCell ⟨q, 1, none⟩ v').cell? ⟨g2, 1, none⟩ = some y2 :=
  two_cells (((((h.box _ (.tail _ (.head _))).far (p := ⟨p, 0, none⟩) h1 u).far (p := ⟨p, 1, none⟩) h1 v).far (p := ⟨q, 0, none⟩) k1 u').far (p := ⟨q, 1, none⟩) k1 v') (((((h.box _ (.tail _ (.tail _ (.head _)))).far (p := ⟨p, 0, none⟩) h2 u).far (p := ⟨p, 1, none⟩) h2 v).far (p := ⟨q, 0, none⟩) k2 u').far (p := ⟨q, 1, none⟩) k2 v')
end Lw
namespace Go.Proofs.YtbihljnjaondcaaGreatDoor
open Go Go.RowKit Lw
section
variable {t : TypeId} {W0 w : World} {bs : List Bx} {L : List En} {M : List Sn} {v u u' : Value} {x : Int} {k k' : Nat} {b : Bool} {l l' : List Nat}
theorem gcd_envr (HE : Envr t W0 w bs L M) (h : ⟨u, l, k⟩ ∈ M) (h' : ⟨u', l', k'⟩ ∈ M) (hk : k + k' ≤ 100000) :
    Calls Tryz.prog 217 #[u, u'] w fun e w' => ∃ u, e = .returned u ∧ Envr t W0 w' bs L (⟨u, digs (Nat.gcd (val l) (val l')), k + k' + 1⟩ :: M) := by
  obtain ⟨A, n, c, B, e1, h2, h3, h4, h5, h6⟩ := HE.sls _ h
  obtain ⟨A', n', c', B', e1', h2', h3', h4', h5', h6'⟩ := HE.sls _ h'
  dsimp only at *
  subst e1 e1'
  have hz : (digs (Nat.gcd (val l) (val l'))).length ≤ k + k' + 1 := digs_length_le (by
    have h9 := lt_sum (x := (val l : Int)) (y := (val l' : Int)) (k := k) (k' := k') (by rw [Int.natAbs_natCast]; exact Nat.lt_of_lt_of_le (val_lt h2.wds) (pw_le (by omega))) (by rw [Int.natAbs_natCast]; exact Nat.lt_of_lt_of_le (val_lt h2'.wds) (pw_le (by omega)))
    rw [← Int.natCast_add, Int.natAbs_natCast] at h9
    refine Nat.lt_of_le_of_lt ?_ h9
    rcases Nat.eq_zero_or_pos (val l) with e | e
    · rw [e, Nat.gcd_zero_left]; omega
    · exact Nat.le_trans (Nat.gcd_le_left _ e) (Nat.le_add_right _ _))
  refine (refgcd_any A A' l l' n n' c c' B B' w h2 h2' h3 h3' h4 h4' (by omega) (by omega)).mono ?_
  rintro e w' ⟨A9, n9, c9, rfl, hn9, hc9, hr9, hb9⟩
  exact ⟨_, rfl, (HE.next hb9).cons ⟨A9, n9, c9, _, rfl, hr9, Nat.le_refl _, hn9.out, hc9, by rw [← hn9.out]; exact hz⟩⟩
theorem divide_envr (HE : Envr t W0 w bs L M) (h : ⟨u, l, k⟩ ∈ M) (h' : ⟨u', l', k'⟩ ∈ M) (hk : k ≤ 50000 ∧ k' ≤ 50000) (hy : 0 < val l') :
    Calls Tryz.prog 165 #[u, u'] w fun e w' => ∃ g1 n1 c1 g2 n2 c2, e = .returned (.tuple #[.slice (some ⟨g1, 0, none⟩) n1 c1, .slice (some ⟨g2, 0, none⟩) n2 c2]) ∧ Hid ((digs (val l % val l')).length = n2) ∧
      Envr t W0 w' bs L (⟨.slice (some ⟨g1, 0, none⟩) n1 c1, digs (val l / val l'), k⟩ :: ⟨.slice (some ⟨g2, 0, none⟩) n2 c2, digs (val l % val l'), k'⟩ :: M) := by
  obtain ⟨A, n, c, B, e1, h2, h3, h4, h5, h6⟩ := HE.sls _ h
  obtain ⟨A', n', c', B', e1', h2', h3', h4', h5', h6'⟩ := HE.sls _ h'
  dsimp only at *
  subst e1 e1'
  refine (refdivide_any A A' l l' n n' c c' B B' w h2 h2' h3 h3' h4 h4' (by omega) (by omega) hy).mono ?_
  rintro e w' ⟨g1, n1, c1, g2, n2, c2, rfl, hn1, hn2, hc1, hc2, hg1, hg2, hb1, hb2, hb⟩
  have hz1 : (digs (val l / val l')).length ≤ k := digs_length_le (Nat.lt_of_le_of_lt (Nat.div_le_self _ _) (Nat.lt_of_lt_of_le (val_lt h2.wds) (pw_le (by omega))))
  have hz2 : (digs (val l % val l')).length ≤ k' := digs_length_le (Nat.lt_trans (Nat.mod_lt _ hy) (Nat.lt_of_lt_of_le (val_lt h2'.wds) (pw_le (by omega))))
  refine ⟨g1, n1, c1, g2, n2, c2, rfl, hn2, ((HE.next hb).cons ?_).cons ?_⟩
  · exact ⟨_, n2, c2, _, rfl, hb2.rd (wds_digs _), Nat.le_refl _, hn2.out, hc2, by rw [← hn2.out]; exact hz2⟩
  · exact ⟨_, n1, c1, _, rfl, hb1.rd (wds_digs _), Nat.le_refl _, hn1.out, hc1, by rw [← hn1.out]; exact hz1⟩
theorem formE_envr (s : Bool) (z : Int) (HE : Envr t W0 w bs L M) (h : ⟨u, l, k⟩ ∈ M) (hk : k ≤ 100000) (hz : z = if s then -(val l : Int) else (val l : Int)) :
    Calls Tryz.prog 161 #[.bool s, u] w fun e w' => ∃ A c, e = .returned (.agg #[.bool (sg z), .slice A (mg z).length c]) ∧ Envr t W0 w' bs (⟨.agg #[.bool (sg z), .slice A (mg z).length c], z, (mg z).length, true⟩ :: L) M := by
  refine (form_envr s z HE h hk hz).mono ?_
  rintro e w' ⟨A, c, rfl, hc, hr, HE⟩
  exact ⟨A, c, rfl, HE.env.cons ⟨sg z, A, _, c, mg z, _, rfl, hr, Nat.le_refl _, rfl, Nat.le_refl _, hc, zv_own z, vB_own z⟩, HE.sls⟩
theorem negB_envr {bx : Bool} (HE : Envr t W0 w bs L M) (h : ⟨v, x, k, b⟩ ∈ L) (hk : k ≤ 100000) (hb : sg x = bx) :
    Calls Tryz.prog 160 #[v] w fun e w' => e = .returned (.bool bx) ∧ Envr t W0 w' bs L M := by
  subst hb; exact neg_envr HE h hk
theorem plusS_envr (HE : Envr t W0 w bs L M) (h : ⟨u, l, k⟩ ∈ M) (h' : ⟨u', l', k'⟩ ∈ M) (hk : k + k' ≤ 100000) :
    Calls Tryz.prog 162 #[u, u'] w fun e w' => ∃ up, e = .returned up ∧ Envr t W0 w' bs L (⟨up, digs (val l + val l'), k + k' + 1⟩ :: M) := plus_envr HE h h' hk
end
set_option maxRecDepth 100000 in
set_option maxHeartbeats 4000000 in
theorem refGcd_any (s s' : Bool) (A A' : Option Addr) (ns ms : List Nat) (n m c c' B B' : Nat) (w : World) (h : Rd w B A ns) (h' : Rd w B' A' ms) (hB : B ≤ w.heap.size) (hB' : B' ≤ w.heap.size)
    (hn : ns.length = n) (hm : ms.length = m) (hl : n ≤ 10000) (hl' : m ≤ 10000) (hc : n ≤ c) (hc' : m ≤ c') :
    Calls Tryz.prog 168 #[.agg #[.bool s, .slice A n c], .agg #[.bool s', .slice A' m c']] w (ZOut w ((Nat.gcd (zv s ns).natAbs (zv s' ms).natAbs : Nat) : Int)) := by
  have HE := begin2 (s1 := s) (s2 := s') 39 h h' hB hB' hn hm hc hc' (Nat.le_refl n) (Nat.le_refl m)
  clear h h'
  generalize zv s ns = x at *
  generalize zv s' ms = y at *
  generalize vB s ns = bb at *
  generalize vB s' ms = bb' at *
  go_enter Tryz.func168, Tryz.ntmps168
  go_wp2_with fail
  go_region_held3 (fun w' => w'.cell? ⟨w.heap.size, 0, none⟩ = some (.bool s) ∧ w'.cell? ⟨w.heap.size, 1, none⟩ = some (.slice A n c) ∧ w'.cell? ⟨w.heap.size + 1, 0, none⟩ = some (.bool s') ∧ w'.cell? ⟨w.heap.size + 1, 1, none⟩ = some (.slice A' m c')) (first | exact HE.env.first2 | exact HE.drew.env.first2 | exact HE.env.put2 (by omega) (by omega) _ _)
    (first
      | (go_at_call 159; refine (mag_envr (by first | exact HE | exact HE.drew) (by first | exact .head _ | exact .tail _ (.head _) | exact .tail _ (.tail _ (.head _)) | exact .tail _ (.tail _ (.tail _ (.head _))) | exact .tail _ (.tail _ (.tail _ (.tail _ (.head _)))) | exact .tail _ (.tail _ (.tail _ (.tail _ (.tail _ (.head _))))) | exact .tail _ (.tail _ (.tail _ (.tail _ (.tail _ (.tail _ (.head _))))))) (by omega)).mono ?_; rintro e wn ⟨u, rfl, HE⟩)
      | (go_at_call 217; refine (gcd_envr (by first | exact HE | exact HE.drew) (by first | exact .head _ | exact .tail _ (.head _) | exact .tail _ (.tail _ (.head _)) | exact .tail _ (.tail _ (.tail _ (.head _))) | exact .tail _ (.tail _ (.tail _ (.tail _ (.head _)))) | exact .tail _ (.tail _ (.tail _ (.tail _ (.tail _ (.head _))))) | exact .tail _ (.tail _ (.tail _ (.tail _ (.tail _ (.tail _ (.head _))))))) (by first | exact .head _ | exact .tail _ (.head _) | exact .tail _ (.tail _ (.head _)) | exact .tail _ (.tail _ (.tail _ (.head _))) | exact .tail _ (.tail _ (.tail _ (.tail _ (.head _)))) | exact .tail _ (.tail _ (.tail _ (.tail _ (.tail _ (.head _))))) | exact .tail _ (.tail _ (.tail _ (.tail _ (.tail _ (.tail _ (.head _))))))) (by omega)).mono ?_; rintro e wn ⟨u, rfl, HE⟩)
      | (go_at_call 161; refine (form_envr false ((Nat.gcd x.natAbs y.natAbs : Nat) : Int) (by first | exact HE | exact HE.drew) (by first | exact .head _ | exact .tail _ (.head _) | exact .tail _ (.tail _ (.head _)) | exact .tail _ (.tail _ (.tail _ (.head _))) | exact .tail _ (.tail _ (.tail _ (.tail _ (.head _)))) | exact .tail _ (.tail _ (.tail _ (.tail _ (.tail _ (.head _))))) | exact .tail _ (.tail _ (.tail _ (.tail _ (.tail _ (.tail _ (.head _))))))) (by omega) (by rw [val_digs, val_mg, val_mg]; rfl)).mono ?_; rintro e wn ⟨A9, c9, rfl, hc9, hr9, HE⟩; obtain ⟨f0, f1, f2, f3⟩ := HE.env.third.facts))
  go_wp2
  refine bodyPost_ret (v := .agg #[.bool (sg ((Nat.gcd x.natAbs y.natAbs : Nat) : Int)), .slice A9 (mg ((Nat.gcd x.natAbs y.natAbs : Nat) : Int)).length c9]) (by simp [results, Tryz.results168, go_sem, f0, f1]) rfl ?_
  exact zout_put HE.env.third hr9 (Nat.le_refl _) hc9 HE.env.below (by omega)
/-- Two integers and the number of an error. -/
def DQ (z z' : Int) (er : Value) (w : World) (e : Ending) (w' : World) : Prop :=
  ∃ (A A' : Option Addr) (c c' : Nat), e = .returned (.tuple #[.agg #[.bool (sg z), .slice A (mg z).length c], .agg #[.bool (sg z'), .slice A' (mg z').length c'], er]) ∧ (mg z).length ≤ c ∧ (mg z').length ≤ c' ∧ Rd w' w'.heap.size A (mg z) ∧ Rd w' w'.heap.size A' (mg z') ∧ Below w.heap.size w w'
set_option maxRecDepth 100000 in
set_option maxHeartbeats 6400000 in
theorem refDiv_any (s s' : Bool) (A A' : Option Addr) (ns ms : List Nat) (n m c c' B B' : Nat) (w : World) (h : Rd w B A ns) (h' : Rd w B' A' ms) (hB : B ≤ w.heap.size) (hB' : B' ≤ w.heap.size)
    (hn : ns.length = n) (hm : ms.length = m) (hl : n ≤ 10000) (hl' : m ≤ 10000) (hc : n ≤ c) (hc' : m ≤ c') (hy : zv s' ms ≠ 0) :
    Calls Tryz.prog 99 #[.agg #[.bool s, .slice A n c], .agg #[.bool s', .slice A' m c']] w (DQ (zv s ns / zv s' ms) (zv s ns % zv s' ms) (.int .i64 0) w) := by
  have HE := (begin2 (s1 := s) (s2 := s') 39 h h' hB hB' hn hm hc hc' (Nat.le_refl n) (Nat.le_refl m)).addbox (.bool false) (.slice none 0 0)
  rw [World.size_alloc, World.size_alloc, World.size_alloc] at HE
  have hsy := fun W (hR : Rd W B' A' ms) hB => refsign_any s' A' ms m c' B' W hR hB hm (by omega) hc'
  have hrs := h'
  generalize zv s ns = x at *
  generalize zv s' ms = y at *
  generalize vB s ns = bb at *
  generalize vB s' ms = bb' at *
  have HSY := Lib.hid hsy
  have hsq : (signI y == 0) = false := by
    rw [beq_eq_false_iff_ne]; unfold signI; split <;> (try split) <;> omega
  obtain ⟨sy, hsyv⟩ : ∃ sy, sy = signI y := ⟨_, rfl⟩
  rw [← hsyv] at HSY hsq
  have HYP : Hid (0 < val (mg y)) := Lib.hid (by rw [val_mg]; omega)
  obtain ⟨bx, hbx⟩ : ∃ b, sg x = b := ⟨_, rfl⟩
  obtain ⟨by', hby⟩ : ∃ b, sg y = b := ⟨_, rfl⟩
  have hfo := ediv_form (z := x) hy
  rw [hbx, hby] at hfo
  have HFO := Lib.hid hfo
  have HBX := Lib.hid hbx
  have HBY := Lib.hid hby
  obtain ⟨bo, hbo⟩ : ∃ b, (bx != by') = b := ⟨_, rfl⟩
  have HBO := Lib.hid hbo
  clear hbx hby hfo hbo
  clear h hsy hsyv hy
  go_enter Tryz.func99, Tryz.ntmps99
  obtain ⟨q1, q2, q3, q4⟩ := HE.env.four
  go_wp2_with fail
  refine (HSY.out _ (hrs.next (HE.env.below) hB') (Nat.le_trans hB' HE.env.below.size)).mono ?_
  rintro e wn ⟨rfl, hbn⟩
  have HE := HE.next hbn
  clear q1 q2 q3 q4 hbn hrs HSY
  go_wp2_with fail
  go_region_held3 (fun w' => w'.cell? ⟨w.heap.size, 0, none⟩ = some (.bool s) ∧ w'.cell? ⟨w.heap.size, 1, none⟩ = some (.slice A n c) ∧ w'.cell? ⟨w.heap.size + 1, 0, none⟩ = some (.bool s') ∧ w'.cell? ⟨w.heap.size + 1, 1, none⟩ = some (.slice A' m c')) (with_reducible first | exact HE.env.four | exact HE.drew.env.four | exact HE.env.far2 (by omega) (by omega) _ _ | exact HE.env.far4 (by omega) (by omega) (by omega) (by omega) _ _ _ _)
    (first
      | (go_at_call 159; refine (mag_envr (by first | exact HE | exact HE.drew) (by first | exact .head _ | exact .tail _ (.head _) | exact .tail _ (.tail _ (.head _)) | exact .tail _ (.tail _ (.tail _ (.head _))) | exact .tail _ (.tail _ (.tail _ (.tail _ (.head _)))) | exact .tail _ (.tail _ (.tail _ (.tail _ (.tail _ (.head _))))) | exact .tail _ (.tail _ (.tail _ (.tail _ (.tail _ (.tail _ (.head _))))))) (by omega)).mono ?_; rintro e wn ⟨u, rfl, HE⟩)
      | (go_at_call 165; refine (divide_envr (by first | exact HE | exact HE.drew) (by first | exact .head _ | exact .tail _ (.head _) | exact .tail _ (.tail _ (.head _)) | exact .tail _ (.tail _ (.tail _ (.head _))) | exact .tail _ (.tail _ (.tail _ (.tail _ (.head _)))) | exact .tail _ (.tail _ (.tail _ (.tail _ (.tail _ (.head _))))) | exact .tail _ (.tail _ (.tail _ (.tail _ (.tail _ (.tail _ (.head _))))))) (by first | exact .head _ | exact .tail _ (.head _) | exact .tail _ (.tail _ (.head _)) | exact .tail _ (.tail _ (.tail _ (.head _))) | exact .tail _ (.tail _ (.tail _ (.tail _ (.head _)))) | exact .tail _ (.tail _ (.tail _ (.tail _ (.tail _ (.head _))))) | exact .tail _ (.tail _ (.tail _ (.tail _ (.tail _ (.tail _ (.head _))))))) (by omega) HYP.out).mono ?_; rintro e wn ⟨g1, n1, c1, g2, n2, c2, rfl, hn2, HE⟩))
  all_goals
    have HR2 : Hid (x.natAbs % y.natAbs = 0 ↔ n2 = 0) := Lib.hid (by
      have h9 := hn2.out
      rw [val_mg, val_mg] at h9
      rw [← h9, List.length_eq_zero_iff, digs_eq_nil])
    have HRL : Hid (val (digs (val (mg x) % val (mg y))) ≤ val (mg y)) := Lib.hid (by rw [val_digs]; exact Nat.le_of_lt (Nat.mod_lt _ HYP.out))
    obtain ⟨q1, q2, q3, q4⟩ := HE.env.four
    go_wp2_with fail
    refine (negB_envr HE (by first | exact .head _ | exact .tail _ (.head _) | exact .tail _ (.tail _ (.head _)) | exact .tail _ (.tail _ (.tail _ (.head _))) | exact .tail _ (.tail _ (.tail _ (.tail _ (.head _)))) | exact .tail _ (.tail _ (.tail _ (.tail _ (.tail _ (.head _))))) | exact .tail _ (.tail _ (.tail _ (.tail _ (.tail _ (.tail _ (.head _))))))) (by omega) HBX.out).mono ?_
    rintro e wn ⟨rfl, HE⟩
    clear q1 q2 q3 q4
    by_cases hsg : bx = true
    case neg =>
      have hsg' : bx = false := by cases bx; rfl; exact absurd rfl hsg
      have HF := Lib.hid (HFO.out.2.2 (.inl hsg'))
      clear hsg
      go_wp2_with fail
      clear hsg'
      have hbo := HBO.out
      have HS1 : Hid (x / y = if bo = true then -(val (digs (val (mg x) / val (mg y))) : Int) else (val (digs (val (mg x) / val (mg y))) : Int)) := Lib.hid (by rw [HF.out.1, hbo]; simp only [val_digs, val_mg]; rfl)
      have HS2 : Hid (x % y = if false = true then -(val (digs (val (mg x) % val (mg y))) : Int) else (val (digs (val (mg x) % val (mg y))) : Int)) := Lib.hid (by rw [HF.out.2]; simp only [val_digs, val_mg]; rfl)
      have hbo2 : (!(bx == by')) = bo := hbo
      clear hbo
      go_region_held3 (fun w' => w'.cell? ⟨w.heap.size, 0, none⟩ = some (.bool s) ∧ w'.cell? ⟨w.heap.size, 1, none⟩ = some (.slice A n c) ∧ w'.cell? ⟨w.heap.size + 1, 0, none⟩ = some (.bool s') ∧ w'.cell? ⟨w.heap.size + 1, 1, none⟩ = some (.slice A' m c')) (with_reducible first | exact HE.env.four | exact HE.drew.env.four | exact HE.env.far2 (by omega) (by omega) _ _ | exact HE.env.far4 (by omega) (by omega) (by omega) (by omega) _ _ _ _)
        (first
          | (go_at_call 160; refine (negB_envr (by first | exact HE | exact HE.drew) (by first | exact .head _ | exact .tail _ (.head _) | exact .tail _ (.tail _ (.head _)) | exact .tail _ (.tail _ (.tail _ (.head _))) | exact .tail _ (.tail _ (.tail _ (.tail _ (.head _)))) | exact .tail _ (.tail _ (.tail _ (.tail _ (.tail _ (.head _))))) | exact .tail _ (.tail _ (.tail _ (.tail _ (.tail _ (.tail _ (.head _))))))) (by omega) (by first | exact HBX.out | exact HBY.out)).mono ?_; rintro e wn ⟨rfl, HE⟩)
          | (go_at_call 161; (with_reducible show Calls _ _ #[Value.bool bo, _] _ _); refine (formE_envr (l := digs (val (mg x) / val (mg y))) (k := n) bo (x / y) (by first | exact HE | exact HE.drew) ?_ (by omega) HS1.out).mono ?_; (first | exact .head _ | exact .tail _ (.head _) | exact .tail _ (.tail _ (.head _)) | exact .tail _ (.tail _ (.tail _ (.head _))) | exact .tail _ (.tail _ (.tail _ (.tail _ (.head _)))) | exact .tail _ (.tail _ (.tail _ (.tail _ (.tail _ (.head _))))) | exact .tail _ (.tail _ (.tail _ (.tail _ (.tail _ (.tail _ (.head _))))))); rintro e wn ⟨A9, c9, rfl, HE⟩; obtain ⟨f0, f1, f2, f3⟩ := HE.env.res3.facts; obtain ⟨f4, f5, f6, f7⟩ := HE.env.res4.facts)
          | (go_at_call 161; (with_reducible show Calls _ _ #[Value.bool false, _] _ _); refine (formE_envr (l := digs (val (mg x) % val (mg y))) (k := m) false (x % y) (by first | exact HE | exact HE.drew) ?_ (by omega) HS2.out).mono ?_; (first | exact .head _ | exact .tail _ (.head _) | exact .tail _ (.tail _ (.head _)) | exact .tail _ (.tail _ (.tail _ (.head _))) | exact .tail _ (.tail _ (.tail _ (.tail _ (.head _)))) | exact .tail _ (.tail _ (.tail _ (.tail _ (.tail _ (.head _))))) | exact .tail _ (.tail _ (.tail _ (.tail _ (.tail _ (.tail _ (.head _))))))); rintro e wn ⟨A8, c8, rfl, HE⟩; obtain ⟨f0, f1, f2, f3⟩ := HE.env.res3.facts; obtain ⟨f4, f5, f6, f7⟩ := HE.env.res4.facts))
      all_goals
        obtain ⟨B9, hr9, hB9, hc9⟩ := opd_read (HE.env.ops ⟨.agg #[.bool (sg (x / y)), .slice A9 (mg (x / y)).length c9], x / y, _, true⟩ (by first | exact .head _ | exact .tail _ (.head _)))
        obtain ⟨B8, hr8, hB8, hc8⟩ := opd_read (HE.env.ops ⟨.agg #[.bool (sg (x % y)), .slice A8 (mg (x % y)).length c8], x % y, _, true⟩ (by first | exact .head _ | exact .tail _ (.head _)))
        obtain ⟨p1, p2, p3, p4, p5⟩ := pair_put (sg (x / y)) (sg (x % y)) (.slice A9 (mg (x / y)).length c9) (.slice A8 (mg (x % y)).length c8) HE.env.res3 HE.env.res4 (by omega) hr9 hr8 HE.env.below (by omega) (by omega)
        clear f0 f1 f2 f3 f4 f5 f6 f7
        obtain ⟨f0, f1, _, _⟩ := p1.facts
        obtain ⟨f4, f5, _, _⟩ := p2.facts
        go_wp2_with fail
        refine bodyPost_ret (v := .tuple #[.agg #[.bool (sg (x / y)), .slice A9 (mg (x / y)).length c9], .agg #[.bool (sg (x % y)), .slice A8 (mg (x % y)).length c8], .int .i64 0]) (by simp [results, Tryz.results99, go_sem, f0, f1, f4, f5]) rfl ?_
        exact ⟨A9, A8, c9, c8, rfl, hc9, hc8, p3.more (by simpa using hB9), p4.more (by simpa using hB8), p5⟩
    case pos =>
      by_cases hn0 : n2 = 0
      · have HF := Lib.hid (HFO.out.2.2 (.inr (HR2.out.2 hn0)))
        subst hn0
        go_wp2_with fail
        clear hsg
        have hbo := HBO.out
        have HS1 : Hid (x / y = if bo = true then -(val (digs (val (mg x) / val (mg y))) : Int) else (val (digs (val (mg x) / val (mg y))) : Int)) := Lib.hid (by rw [HF.out.1, hbo]; simp only [val_digs, val_mg]; rfl)
        have HS2 : Hid (x % y = if false = true then -(val (digs (val (mg x) % val (mg y))) : Int) else (val (digs (val (mg x) % val (mg y))) : Int)) := Lib.hid (by rw [HF.out.2]; simp only [val_digs, val_mg]; rfl)
        have hbo2 : (!(bx == by')) = bo := hbo
        clear hbo
        go_region_held3 (fun w' => w'.cell? ⟨w.heap.size, 0, none⟩ = some (.bool s) ∧ w'.cell? ⟨w.heap.size, 1, none⟩ = some (.slice A n c) ∧ w'.cell? ⟨w.heap.size + 1, 0, none⟩ = some (.bool s') ∧ w'.cell? ⟨w.heap.size + 1, 1, none⟩ = some (.slice A' m c')) (with_reducible first | exact HE.env.four | exact HE.drew.env.four | exact HE.env.far2 (by omega) (by omega) _ _ | exact HE.env.far4 (by omega) (by omega) (by omega) (by omega) _ _ _ _)
          (first
            | (go_at_call 160; refine (negB_envr (by first | exact HE | exact HE.drew) (by first | exact .head _ | exact .tail _ (.head _) | exact .tail _ (.tail _ (.head _)) | exact .tail _ (.tail _ (.tail _ (.head _))) | exact .tail _ (.tail _ (.tail _ (.tail _ (.head _)))) | exact .tail _ (.tail _ (.tail _ (.tail _ (.tail _ (.head _))))) | exact .tail _ (.tail _ (.tail _ (.tail _ (.tail _ (.tail _ (.head _))))))) (by omega) (by first | exact HBX.out | exact HBY.out)).mono ?_; rintro e wn ⟨rfl, HE⟩)
            | (go_at_call 161; (with_reducible show Calls _ _ #[Value.bool bo, _] _ _); refine (formE_envr (l := digs (val (mg x) / val (mg y))) (k := n) bo (x / y) (by first | exact HE | exact HE.drew) ?_ (by omega) HS1.out).mono ?_; (first | exact .head _ | exact .tail _ (.head _) | exact .tail _ (.tail _ (.head _)) | exact .tail _ (.tail _ (.tail _ (.head _))) | exact .tail _ (.tail _ (.tail _ (.tail _ (.head _)))) | exact .tail _ (.tail _ (.tail _ (.tail _ (.tail _ (.head _))))) | exact .tail _ (.tail _ (.tail _ (.tail _ (.tail _ (.tail _ (.head _))))))); rintro e wn ⟨A9, c9, rfl, HE⟩; obtain ⟨f0, f1, f2, f3⟩ := HE.env.res3.facts; obtain ⟨f4, f5, f6, f7⟩ := HE.env.res4.facts)
            | (go_at_call 161; (with_reducible show Calls _ _ #[Value.bool false, _] _ _); refine (formE_envr (l := digs (val (mg x) % val (mg y))) (k := m) false (x % y) (by first | exact HE | exact HE.drew) ?_ (by omega) HS2.out).mono ?_; (first | exact .head _ | exact .tail _ (.head _) | exact .tail _ (.tail _ (.head _)) | exact .tail _ (.tail _ (.tail _ (.head _))) | exact .tail _ (.tail _ (.tail _ (.tail _ (.head _)))) | exact .tail _ (.tail _ (.tail _ (.tail _ (.tail _ (.head _))))) | exact .tail _ (.tail _ (.tail _ (.tail _ (.tail _ (.tail _ (.head _))))))); rintro e wn ⟨A8, c8, rfl, HE⟩; obtain ⟨f0, f1, f2, f3⟩ := HE.env.res3.facts; obtain ⟨f4, f5, f6, f7⟩ := HE.env.res4.facts))
        all_goals
          obtain ⟨B9, hr9, hB9, hc9⟩ := opd_read (HE.env.ops ⟨.agg #[.bool (sg (x / y)), .slice A9 (mg (x / y)).length c9], x / y, _, true⟩ (by first | exact .head _ | exact .tail _ (.head _)))
          obtain ⟨B8, hr8, hB8, hc8⟩ := opd_read (HE.env.ops ⟨.agg #[.bool (sg (x % y)), .slice A8 (mg (x % y)).length c8], x % y, _, true⟩ (by first | exact .head _ | exact .tail _ (.head _)))
          obtain ⟨p1, p2, p3, p4, p5⟩ := pair_put (sg (x / y)) (sg (x % y)) (.slice A9 (mg (x / y)).length c9) (.slice A8 (mg (x % y)).length c8) HE.env.res3 HE.env.res4 (by omega) hr9 hr8 HE.env.below (by omega) (by omega)
          clear f0 f1 f2 f3 f4 f5 f6 f7
          obtain ⟨f0, f1, _, _⟩ := p1.facts
          obtain ⟨f4, f5, _, _⟩ := p2.facts
          go_wp2_with fail
          refine bodyPost_ret (v := .tuple #[.agg #[.bool (sg (x / y)), .slice A9 (mg (x / y)).length c9], .agg #[.bool (sg (x % y)), .slice A8 (mg (x % y)).length c8], .int .i64 0]) (by simp [results, Tryz.results99, go_sem, f0, f1, f4, f5]) rfl ?_
          exact ⟨A9, A8, c9, c8, rfl, hc9, hc8, p3.more (by simpa using hB9), p4.more (by simpa using hB8), p5⟩
      · have hnp : 0 < n2 := by omega
        have HF := Lib.hid (HFO.out.2.1 hsg (fun e => hn0 (HR2.out.1 e)))
        clear hn0
        go_wp2_with fail
        clear hsg
        go_region_held3 (fun w' => w'.cell? ⟨w.heap.size, 0, none⟩ = some (.bool s) ∧ w'.cell? ⟨w.heap.size, 1, none⟩ = some (.slice A n c) ∧ w'.cell? ⟨w.heap.size + 1, 0, none⟩ = some (.bool s') ∧ w'.cell? ⟨w.heap.size + 1, 1, none⟩ = some (.slice A' m c')) (with_reducible first | exact HE.env.four | exact HE.drew.env.four | exact HE.lit1.env.four | exact HE.lit1.drew.env.four | exact HE.drew.lit1.env.four)
          (first
            | (go_at_call 159; refine (mag_envr (by first | exact HE | exact HE.drew | exact HE.lit1 | exact HE.lit1.drew | exact HE.drew.lit1) (by first | exact .head _ | exact .tail _ (.head _) | exact .tail _ (.tail _ (.head _)) | exact .tail _ (.tail _ (.tail _ (.head _))) | exact .tail _ (.tail _ (.tail _ (.tail _ (.head _)))) | exact .tail _ (.tail _ (.tail _ (.tail _ (.tail _ (.head _))))) | exact .tail _ (.tail _ (.tail _ (.tail _ (.tail _ (.tail _ (.head _))))))) (by omega)).mono ?_; rintro e wn ⟨u, rfl, HE⟩)
            | (go_at_call 162; refine (plusS_envr (by first | exact HE | exact HE.drew | exact HE.lit1 | exact HE.lit1.drew | exact HE.drew.lit1) (by first | exact .head _ | exact .tail _ (.head _) | exact .tail _ (.tail _ (.head _)) | exact .tail _ (.tail _ (.tail _ (.head _))) | exact .tail _ (.tail _ (.tail _ (.tail _ (.head _)))) | exact .tail _ (.tail _ (.tail _ (.tail _ (.tail _ (.head _))))) | exact .tail _ (.tail _ (.tail _ (.tail _ (.tail _ (.tail _ (.head _))))))) (by first | exact .head _ | exact .tail _ (.head _) | exact .tail _ (.tail _ (.head _)) | exact .tail _ (.tail _ (.tail _ (.head _))) | exact .tail _ (.tail _ (.tail _ (.tail _ (.head _)))) | exact .tail _ (.tail _ (.tail _ (.tail _ (.tail _ (.head _))))) | exact .tail _ (.tail _ (.tail _ (.tail _ (.tail _ (.tail _ (.head _))))))) (by omega)).mono ?_; rintro e wn ⟨up, rfl, HE⟩)
            | (go_at_call 164; refine (minus_envr (by first | exact HE | exact HE.drew | exact HE.lit1 | exact HE.lit1.drew | exact HE.drew.lit1) (by first | exact .head _ | exact .tail _ (.head _) | exact .tail _ (.tail _ (.head _)) | exact .tail _ (.tail _ (.tail _ (.head _))) | exact .tail _ (.tail _ (.tail _ (.tail _ (.head _)))) | exact .tail _ (.tail _ (.tail _ (.tail _ (.tail _ (.head _))))) | exact .tail _ (.tail _ (.tail _ (.tail _ (.tail _ (.tail _ (.head _))))))) (by first | exact .head _ | exact .tail _ (.head _) | exact .tail _ (.tail _ (.head _)) | exact .tail _ (.tail _ (.tail _ (.head _))) | exact .tail _ (.tail _ (.tail _ (.tail _ (.head _)))) | exact .tail _ (.tail _ (.tail _ (.tail _ (.tail _ (.head _))))) | exact .tail _ (.tail _ (.tail _ (.tail _ (.tail _ (.tail _ (.head _))))))) (by omega) (trm_digs _) HRL.out).mono ?_; rintro e wn ⟨um, rfl, HE⟩))
        all_goals
          go_wp2_with fail
          have hbo := HBO.out
          have HS1 : Hid (x / y = if bo = true then -(val (digs (val (digs (val (mg x) / val (mg y))) + val [1])) : Int) else (val (digs (val (digs (val (mg x) / val (mg y))) + val [1])) : Int)) := Lib.hid (by rw [HF.out.1, hbo]; simp only [val_digs, val_mg]; rfl)
          have HS2 : Hid (x % y = if false = true then -(val (digs (val (mg y) - val (digs (val (mg x) % val (mg y))))) : Int) else (val (digs (val (mg y) - val (digs (val (mg x) % val (mg y))))) : Int)) := Lib.hid (by rw [HF.out.2]; simp only [val_digs, val_mg]; rfl)
          have hbo2 : (!(bx == by')) = bo := hbo
          clear hbo
          go_region_held3 (fun w' => w'.cell? ⟨w.heap.size, 0, none⟩ = some (.bool s) ∧ w'.cell? ⟨w.heap.size, 1, none⟩ = some (.slice A n c) ∧ w'.cell? ⟨w.heap.size + 1, 0, none⟩ = some (.bool s') ∧ w'.cell? ⟨w.heap.size + 1, 1, none⟩ = some (.slice A' m c')) (with_reducible first | exact HE.env.four | exact HE.drew.env.four | exact HE.env.far2 (by omega) (by omega) _ _ | exact HE.env.far4 (by omega) (by omega) (by omega) (by omega) _ _ _ _)
            (first
              | (go_at_call 160; refine (negB_envr (by first | exact HE | exact HE.drew) (by first | exact .head _ | exact .tail _ (.head _) | exact .tail _ (.tail _ (.head _)) | exact .tail _ (.tail _ (.tail _ (.head _))) | exact .tail _ (.tail _ (.tail _ (.tail _ (.head _)))) | exact .tail _ (.tail _ (.tail _ (.tail _ (.tail _ (.head _))))) | exact .tail _ (.tail _ (.tail _ (.tail _ (.tail _ (.tail _ (.head _))))))) (by omega) (by first | exact HBX.out | exact HBY.out)).mono ?_; rintro e wn ⟨rfl, HE⟩)
              | (go_at_call 161; (with_reducible show Calls _ _ #[Value.bool bo, _] _ _); refine (formE_envr (l := digs (val (digs (val (mg x) / val (mg y))) + val [1])) (k := n + 1 + 1) bo (x / y) (by first | exact HE | exact HE.drew) ?_ (by omega) HS1.out).mono ?_; (first | exact .head _ | exact .tail _ (.head _) | exact .tail _ (.tail _ (.head _)) | exact .tail _ (.tail _ (.tail _ (.head _))) | exact .tail _ (.tail _ (.tail _ (.tail _ (.head _)))) | exact .tail _ (.tail _ (.tail _ (.tail _ (.tail _ (.head _))))) | exact .tail _ (.tail _ (.tail _ (.tail _ (.tail _ (.tail _ (.head _))))))); rintro e wn ⟨A9, c9, rfl, HE⟩; obtain ⟨f0, f1, f2, f3⟩ := HE.env.res3.facts; obtain ⟨f4, f5, f6, f7⟩ := HE.env.res4.facts)
              | (go_at_call 161; (with_reducible show Calls _ _ #[Value.bool false, _] _ _); refine (formE_envr (l := digs (val (mg y) - val (digs (val (mg x) % val (mg y))))) (k := m) false (x % y) (by first | exact HE | exact HE.drew) ?_ (by omega) HS2.out).mono ?_; (first | exact .head _ | exact .tail _ (.head _) | exact .tail _ (.tail _ (.head _)) | exact .tail _ (.tail _ (.tail _ (.head _))) | exact .tail _ (.tail _ (.tail _ (.tail _ (.head _)))) | exact .tail _ (.tail _ (.tail _ (.tail _ (.tail _ (.head _))))) | exact .tail _ (.tail _ (.tail _ (.tail _ (.tail _ (.tail _ (.head _))))))); rintro e wn ⟨A8, c8, rfl, HE⟩; obtain ⟨f0, f1, f2, f3⟩ := HE.env.res3.facts; obtain ⟨f4, f5, f6, f7⟩ := HE.env.res4.facts))
          all_goals
            obtain ⟨B9, hr9, hB9, hc9⟩ := opd_read (HE.env.ops ⟨.agg #[.bool (sg (x / y)), .slice A9 (mg (x / y)).length c9], x / y, _, true⟩ (by first | exact .head _ | exact .tail _ (.head _)))
            obtain ⟨B8, hr8, hB8, hc8⟩ := opd_read (HE.env.ops ⟨.agg #[.bool (sg (x % y)), .slice A8 (mg (x % y)).length c8], x % y, _, true⟩ (by first | exact .head _ | exact .tail _ (.head _)))
            obtain ⟨p1, p2, p3, p4, p5⟩ := pair_put (sg (x / y)) (sg (x % y)) (.slice A9 (mg (x / y)).length c9) (.slice A8 (mg (x % y)).length c8) HE.env.res3 HE.env.res4 (by omega) hr9 hr8 HE.env.below (by omega) (by omega)
            clear f0 f1 f2 f3 f4 f5 f6 f7
            obtain ⟨f0, f1, _, _⟩ := p1.facts
            obtain ⟨f4, f5, _, _⟩ := p2.facts
            go_wp2_with fail
            refine bodyPost_ret (v := .tuple #[.agg #[.bool (sg (x / y)), .slice A9 (mg (x / y)).length c9], .agg #[.bool (sg (x % y)), .slice A8 (mg (x % y)).length c8], .int .i64 0]) (by simp [results, Tryz.results99, go_sem, f0, f1, f4, f5]) rfl ?_
            exact ⟨A9, A8, c9, c8, rfl, hc9, hc8, p3.more (by simpa using hB9), p4.more (by simpa using hB8), p5⟩
end Go.Proofs.YtbihljnjaondcaaGreatDoor
/-! Walk of the law IntegerDivides. -/
namespace Lw
open Go Go.RowKit
theorem Env.cells8 {t : TypeId} {W0 w : World} {L : List En} {g0 g1 g2 g3 g4 g5 g6 g7 : Nat} {x0 y0 x1 y1 x2 y2 x3 y3 x4 y4 x5 y5 x6 y6 x7 y7 : Value} (h : Env t W0 w [⟨g0, x0, y0⟩, ⟨g1, x1, y1⟩, ⟨g2, x2, y2⟩, ⟨g3, x3, y3⟩, ⟨g4, x4, y4⟩, ⟨g5, x5, y5⟩, ⟨g6, x6, y6⟩, ⟨g7, x7, y7⟩] L) :
    w.cell? ⟨g0, 0, none⟩ = some x0 ∧ w.cell? ⟨g0, 1, none⟩ = some y0 ∧ w.cell? ⟨g1, 0, none⟩ = some x1 ∧ w.cell? ⟨g1, 1, none⟩ = some y1 ∧ w.cell? ⟨g2, 0, none⟩ = some x2 ∧ w.cell? ⟨g2, 1, none⟩ = some y2 ∧ w.cell? ⟨g3, 0, none⟩ = some x3 ∧ w.cell? ⟨g3, 1, none⟩ = some y3 ∧ w.cell? ⟨g4, 0, none⟩ = some x4 ∧ w.cell? ⟨g4, 1, none⟩ = some y4 ∧ w.cell? ⟨g5, 0, none⟩ = some x5 ∧ w.cell? ⟨g5, 1, none⟩ = some y5 ∧ w.cell? ⟨g6, 0, none⟩ = some x6 ∧ w.cell? ⟨g6, 1, none⟩ = some y6 ∧ w.cell? ⟨g7, 0, none⟩ = some x7 ∧ w.cell? ⟨g7, 1, none⟩ = some y7 :=
  ⟨(h.box _ (.head _)).facts.1, (h.box _ (.head _)).facts.2.1, (h.box _ (.tail _ (.head _))).facts.1, (h.box _ (.tail _ (.head _))).facts.2.1, (h.box _ (.tail _ (.tail _ (.head _)))).facts.1, (h.box _ (.tail _ (.tail _ (.head _)))).facts.2.1, (h.box _ (.tail _ (.tail _ (.tail _ (.head _))))).facts.1, (h.box _ (.tail _ (.tail _ (.tail _ (.head _))))).facts.2.1, (h.box _ (.tail _ (.tail _ (.tail _ (.tail _ (.head _)))))).facts.1, (h.box _ (.tail _ (.tail _ (.tail _ (.tail _ (.head _)))))).facts.2.1, (h.box _ (.tail _ (.tail _ (.tail _ (.tail _ (.tail _ (.head _))))))).facts.1, (h.box _ (.tail _ (.tail _ (.tail _ (.tail _ (.tail _ (.head _))))))).facts.2.1, (h.box _ (.tail _ (.tail _ (.tail _ (.tail _ (.tail _ (.tail _ (.head _)))))))).facts.1, (h.box _ (.tail _ (.tail _ (.tail _ (.tail _ (.tail _ (.tail _ (.head _)))))))).facts.2.1, (h.box _ (.tail _ (.tail _ (.tail _ (.tail _ (.tail _ (.tail _ (.tail _ (.head _))))))))).facts.1, (h.box _ (.tail _ (.tail _ (.tail _ (.tail _ (.tail _ (.tail _ (.tail _ (.head _))))))))).facts.2.1⟩
end Lw
namespace Go.Proofs.YtbihljnjaondcaaGreatDoor
open Go Go.RowKit Lw
theorem refgcd_env {t : TypeId} {W0 w : World} {bs : List Bx} {L : List En} {v v' : Value} {x y : Int} {k k' : Nat} {b b' : Bool} (HE : Env t W0 w bs L) (h : ⟨v, x, k, b⟩ ∈ L) (h' : ⟨v', y, k', b'⟩ ∈ L) (hk : k + k' ≤ 10000) :
    Calls Tryz.prog 168 #[v, v'] w fun e w' => ∃ u, e = .returned u ∧ Env t W0 w' bs (⟨u, ((Nat.gcd x.natAbs y.natAbs : Nat) : Int), k + k' + 1, true⟩ :: L) := by
  have H1 := HE.ops _ h
  have H2 := HE.ops _ h'
  have hz : ((Nat.gcd x.natAbs y.natAbs : Nat) : Int).natAbs < pw (k + k' + 1) := by
    have h9 := lt_sum (x := (x.natAbs : Int)) (y := (y.natAbs : Int)) (by rw [Int.natAbs_natCast]; exact H1.lt) (by rw [Int.natAbs_natCast]; exact H2.lt)
    rw [← Int.natCast_add, Int.natAbs_natCast] at h9
    rw [Int.natAbs_natCast]
    refine Nat.lt_of_le_of_lt ?_ h9
    rcases Nat.eq_zero_or_pos x.natAbs with e | e
    · rw [e, Nat.gcd_zero_left]; omega
    · exact Nat.le_trans (Nat.gcd_le_left _ e) (Nat.le_add_right _ _)
  obtain ⟨s, A, n, c, ns, B, e1, h2, h3, h4, h5, h6, e7, h8⟩ := H1
  obtain ⟨s', A', n', c', ns', B', e1', h2', h3', h4', h5', h6', e7', h8'⟩ := H2
  dsimp only at e1 e7 e1' e7' h5 h5' hz
  subst e1 e1' e7 e7'
  exact (refGcd_any s s' A A' ns ns' n n' c c' B B' w h2 h2' h3 h3' h4 h4' (by omega) (by omega) h6 h6').mono fun e w' hh => zout_env HE hh hz
end Go.Proofs.YtbihljnjaondcaaGreatDoor
