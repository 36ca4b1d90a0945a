/- Walk of fraction: Parse at the text of a fraction. -/
import Derived.Test.YtdecmhcojdnokaaGreatDoorFawake
namespace Lw
open Go Go.RowKit
theorem byte_none {l : List UInt8} {c : UInt8} (h : ∀ x ∈ l, x ≠ c) : Lib.indexByte l c = -1 := by
  induction l with
  | nil => rfl
  | cons b l ih =>
    unfold Lib.indexByte
    rw [if_neg (by simpa using h b (.head _)), ih (fun x hx => h x (.tail _ hx))]
    rfl
theorem index_none1 {l : List UInt8} {c : UInt8} (h : ∀ x ∈ l, x ≠ c) : Lib.index l [c] = -1 := by
  induction l with
  | nil => rfl
  | cons b l ih =>
    have hb : ([c].isPrefixOf (b :: l)) = false := by
      simp only [List.isPrefixOf, Bool.and_true, beq_eq_false_iff_ne]
      exact fun e => h b (.head _) e.symm
    unfold Lib.index
    rw [hb, ih (fun x hx => h x (.tail _ hx))]
    rfl
theorem index_at1 {l : List UInt8} {c : UInt8} (r : List UInt8) (h : ∀ x ∈ l, x ≠ c) : Lib.index (l ++ ([c] ++ r)) [c] = (l.length : Int) := by
  induction l with
  | nil =>
    show Lib.index (c :: r) [c] = 0
    unfold Lib.index
    rw [if_pos (by simp [List.isPrefixOf])]
  | cons b l ih =>
    have hb : ([c].isPrefixOf (b :: (l ++ ([c] ++ r)))) = false := by
      simp only [List.isPrefixOf, Bool.and_true, beq_eq_false_iff_ne]
      exact fun e => h b (.head _) e.symm
    show Lib.index (b :: (l ++ ([c] ++ r))) [c] = _
    unfold Lib.index
    rw [hb, ih (fun x hx => h x (.tail _ hx))]
    have : (((l.length : Int)) == -1) = false := by rw [beq_eq_false_iff_ne]; omega
    rw [this]
    simp
theorem cut_none1 {l : List UInt8} {c : UInt8} (h : ∀ x ∈ l, x ≠ c) : Lib.cut l [c] = (l, [], false) := by
  unfold Lib.cut
  rw [index_none1 h, if_neg (by decide)]
theorem cut_at1 {l : List UInt8} {c : UInt8} (r : List UInt8) (h : ∀ x ∈ l, x ≠ c) : Lib.cut (l ++ ([c] ++ r)) [c] = (l, r, true) := by
  unfold Lib.cut
  rw [index_at1 r h, if_pos (by omega)]
  simp
theorem itoa_chars (z : Int) : ∀ x ∈ Lib.itoa z, x.toNat = 45 ∨ (48 ≤ x.toNat ∧ x.toNat ≤ 57) := by
  intro x hx
  cases hs : sg z
  · rw [itoa_pos hs] at hx
    simp only [List.nil_append] at hx
    exact .inr (digs_dec _ x hx)
  · rw [itoa_neg hs] at hx
    rcases List.mem_append.1 hx with hx | hx
    · simp only [List.mem_cons, List.not_mem_nil, or_false] at hx
      subst hx; exact .inl rfl
    · exact .inr (digs_dec _ x hx)
theorem itoa_ne {z : Int} {c : UInt8} (h : c.toNat = 46 ∨ c.toNat = 47) : ∀ x ∈ Lib.itoa z, x ≠ c := by
  rintro x hx rfl
  have := itoa_chars z x hx
  omega
theorem dec_long {N k : Nat} (h : N < pw k) (hk : k ≤ 100) : (Lib.decDigits N).length ≤ 1001 := by
  have h1 : pw k ≤ (10 ^ 10) ^ k := by unfold pw; exact Nat.pow_le_pow_left (by decide) k
  rw [← Nat.pow_mul] at h1
  have h2 : 10 ^ (10 * k) ≤ 10 ^ (10 * k + 1) := Nat.pow_le_pow_right (by omega) (by omega)
  have h3 := dec_len (10 * k) N (by omega)
  omega
theorem itoa_long {z : Int} {k : Nat} (h : z.natAbs < pw k) (hk : k ≤ 100) : (Lib.itoa z).length ≤ 1002 := by
  have := dec_long h hk
  cases hs : sg z
  · rw [itoa_pos hs]; simp; omega
  · rw [itoa_neg hs]; simp; omega
end Lw
namespace Go.Proofs.YtdecmhcojdnokaaGreatDoor
open Go Go.RowKit Lw
section
variable {W0 w : World} {bs : List Bx} {L : List En} {ts : List Bt} {M : List Qn} {s : Bool} {A A' : Option Addr} {n c n' c' k : Nat} {q : Rat} {b : Bool}
theorem iparse_f {z : Int} {K : Nat} (HE : FEnv W0 w bs L ts M) (h : z.natAbs < pw K) (hk : K ≤ 100) :
    Calls Tryz.prog 102 #[.string ⟨(Lib.itoa z).toArray⟩] w fun e w' => ∃ (s : Bool) (A : Option Addr) (n c : Nat), e = .returned (.tuple #[.agg #[.bool s, .slice A n c], .nilIface]) ∧ FEnv W0 w' bs (⟨.agg #[.bool s, .slice A n c], z, K, true⟩ :: L) ts M := by
  refine (parse_any z w (by have := dec_long h hk; omega)).mono ?_
  rintro e w5 ⟨A9, c9, rfl, hc9, hr9, hb9⟩
  exact ⟨_, _, _, _, rfl, (HE.next hb9).push ⟨sg z, A9, _, c9, mg z, _, rfl, hr9, Nat.le_refl _, rfl, len_z h, hc9, zv_own z, vB_own z⟩⟩
theorem cmpI_one {y : Int} (h : 1 < y) : cmpI y 1 = 1 := by unfold cmpI; rw [if_neg (by omega), if_neg (by omega)]
theorem FEnv.k2 {g : Nat} {x y : Value} (h : FEnv W0 w (⟨g, x, y⟩ :: bs) L ts M) : w.cell? ⟨g, 0, none⟩ = some x ∧ w.cell? ⟨g, 1, none⟩ = some y := ⟨(h.c2 (.head _)).1, (h.c2 (.head _)).2.1⟩
theorem FEnv.k23 {g g' : Nat} {x y x' y' z' : Value} (h : FEnv W0 w (⟨g, x, y⟩ :: bs) L (⟨g', x', y', z'⟩ :: ts) M) : w.cell? ⟨g, 0, none⟩ = some x ∧ w.cell? ⟨g, 1, none⟩ = some y ∧ w.cell? ⟨g', 0, none⟩ = some x' ∧ w.cell? ⟨g', 1, none⟩ = some y' ∧ w.cell? ⟨g', 2, none⟩ = some z' :=
  ⟨(h.c2 (.head _)).1, (h.c2 (.head _)).2.1, (h.c3 (.head _)).1, (h.c3 (.head _)).2.1, (h.c3 (.head _)).2.2.1⟩
set_option maxRecDepth 100000 in
set_option maxHeartbeats 3200000 in
theorem fparse1_f {K : Nat} (HE : FEnv W0 w bs L ts M) (hx : Mx w) (hn : q.num.natAbs < pw K) (hd : q.den = 1) (hK : K ≤ 40) :
    Calls Tryz.prog 56 #[.string ⟨(Lib.itoa q.num).toArray⟩] w (GotE W0 bs L ts M q (K + 2)) := by
  refine Calls.mono (R := GotE w [] L [] M q (K + 2)) ?_ fun _ _ hh => GotE.of HE hh
  have hl := itoa_long hn (by omega)
  replace HE := HE.here.box3 (.bool false) (.slice none 0 0) (.slice none 0 0)
  obtain ⟨z, hz1⟩ := hx.next ((Below.refl _ w).alloc (Nat.le_refl _) (.cells #[.bool false, .slice none 0 0, .slice none 0 0] 24))
  have C1 := Lib.hid (fun W => Tryz.strings_Contains_one ⟨(Lib.itoa q.num).toArray⟩ 46 W)
  have C2 := Lib.hid (Tryz.strings_Cut ⟨(Lib.itoa q.num).toArray⟩ ⟨#[47]⟩ z _ (by simp [ByteArray.size]; omega) hz1)
  have H1 := Lib.hid (show decide (0 ≤ Lib.indexByte (Lib.itoa q.num) 46) = false by rw [byte_none (itoa_ne (.inl rfl))]; rfl)
  have H3 := Lib.hid (cut_none1 (itoa_ne (z := q.num) (c := 47) (.inr rfl)))
  have hsz : (⟨(Lib.itoa q.num).toArray⟩ : ByteArray).size = (Lib.itoa q.num).length := by simp [ByteArray.size]
  have HN := Lib.hid hn
  have HD := Lib.hid (show (q.den : Int) = 1 by rw [hd]; rfl)
  obtain ⟨q0, q1, q2, q3, q4, q5⟩ := HE.c3 (.head _)
  clear hx hn hd hz1
  go_enter Tryz.func56, Tryz.ntmps56
  go_wp2_with fail
  refine (C1.out _).mono ?_
  rw [H1.out]
  rintro e w1 ⟨rfl, rfl⟩
  go_wp2_with fail
  refine C2.out.mono ?_
  rw [H3.out]
  rintro e w2 ⟨rfl, p, rfl⟩
  clear q0 q1 q2 q3 q4 q5
  replace HE := HE.next (below_drewN' _ _ p)
  go_wp2_with fail
  refine (iparse_f HE HN.out (by omega)).mono ?_
  clear HE
  rintro e w3 ⟨s1, D1, m1, d1, rfl, HE⟩
  replace HE := HE.box2 (.bool s1) (.slice D1 m1 d1)
  obtain ⟨q0, q1, q2, q3⟩ := HE.c2 (.head _)
  obtain ⟨q4, q5, q6, q7, q8, q9⟩ := HE.c3 (.head _)
  go_wp2_with fail
  go_region_held3 (fun w' => w'.cell? ⟨w3.heap.size, 0, none⟩ = some (.bool s1) ∧ w'.cell? ⟨w3.heap.size, 1, none⟩ = some (.slice D1 m1 d1)) (with_reducible first | exact FEnv.k2 HE | exact FEnv.k2 HE.drew | exact FEnv.k2 HK)
    (first
      | (go_at_call 62; refine (iof_f (by with_reducible first | exact HE | exact HE.drew) (by omega) (by omega)).mono ?_; rintro e wn ⟨s2, D2, m2, d2, rfl, HE⟩)
      | (go_at_call 89; refine (lowest_f (by with_reducible first | exact HE | exact HE.drew) (by repeat (first | exact .head _ | assumption | refine .tail _ ?_)) (by repeat (first | exact .head _ | assumption | refine .tail _ ?_)) rfl HD.out).mono ?_; rintro e wn ⟨sx, Ax, nx, cx, Ay, ny, cy, rfl, HE⟩; obtain ⟨g0, g1, g2, g3, g4, g5⟩ := HE.c3 (.head _); have HK := HE.done3 (D := Ax) (m := nx) (d := cx) (.head _) sx (.slice Ay ny cy)))
  go_wp2_with fail
  refine bodyPost_ret (v := .tuple #[.agg #[.bool sx, .slice Ax nx cx, .slice Ay ny cy], .nilIface]) (by simp [results, Tryz.results56, go_sem, g0, g1, g2]) rfl ?_
  exact ⟨_, _, _, _, _, _, _, rfl, HK.bare.pick (fun e he => .tail _ (.tail _ he)) (fun _ he => he)⟩
set_option maxRecDepth 100000 in
set_option maxHeartbeats 3200000 in
theorem fparse2_f {K : Nat} (HE : FEnv W0 w bs L ts M) (hx : Mx w) (hn : q.num.natAbs < pw K) (hd : q.den < pw K) (hd1 : q.den ≠ 1) (hK : K ≤ 40) :
    Calls Tryz.prog 56 #[.string ⟨(Lib.itoa q.num ++ ([47] ++ Lib.itoa (q.den : Int))).toArray⟩] w (GotE W0 bs L ts M q (K + K)) := by
  refine Calls.mono (R := GotE w [] L [] M q (K + K)) ?_ fun _ _ hh => GotE.of HE hh
  have hl := itoa_long hn (by omega)
  replace HE := HE.here.box3 (.bool false) (.slice none 0 0) (.slice none 0 0)
  obtain ⟨z, hz1⟩ := hx.next ((Below.refl _ w).alloc (Nat.le_refl _) (.cells #[.bool false, .slice none 0 0, .slice none 0 0] 24))
  have C1 := Lib.hid (fun W => Tryz.strings_Contains_one ⟨(Lib.itoa q.num ++ ([47] ++ Lib.itoa (q.den : Int))).toArray⟩ 46 W)
  have hd' : (q.den : Int).natAbs < pw K := by rw [Int.natAbs_natCast]; exact hd
  have hl2 := itoa_long hd' (by omega)
  have hlen : (Lib.itoa q.num ++ ([47] ++ Lib.itoa (q.den : Int))).length ≤ 3000 := by simp only [List.length_append, List.length_cons, List.length_nil]; omega
  have hno : ∀ x ∈ Lib.itoa q.num ++ ([47] ++ Lib.itoa (q.den : Int)), x ≠ 46 := by
    intro x hx
    rcases List.mem_append.1 hx with hx | hx
    · exact itoa_ne (.inl rfl) x hx
    · rcases List.mem_append.1 hx with hx | hx
      · simp only [List.mem_cons, List.not_mem_nil, or_false] at hx; subst hx; decide
      · exact itoa_ne (.inl rfl) x hx
  have H1 := Lib.hid (show decide (0 ≤ Lib.indexByte (Lib.itoa q.num ++ ([47] ++ Lib.itoa (q.den : Int))) 46) = false by rw [byte_none hno]; rfl)
  have H3 := Lib.hid (cut_at1 (Lib.itoa (q.den : Int)) (itoa_ne (z := q.num) (c := 47) (.inr rfl)))
  have HZ := Lib.hid (itoa_long hn (by omega))
  have hq0 : q.num ≠ 0 := by
    intro e
    have h1 : Nat.gcd q.num.natAbs q.den = 1 := q.reduced
    rw [e, Int.natAbs_zero, Nat.gcd_zero_left] at h1
    exact hd1 h1
  have hpos := q.den_pos
  have HQ := Lib.hid (show q.num ≠ 0 ∧ 0 < (q.den : Int) ∧ Nat.gcd q.num.natAbs (q.den : Int).natAbs = 1 ∧ cmpI (q.den : Int) 1 = 1 from ⟨hq0, by omega, by rw [Int.natAbs_natCast]; exact q.reduced, cmpI_one (by omega)⟩)
  have HN := Lib.hid hn
  have HD := Lib.hid hd'
  clear hl hl2
  generalize hT : Lib.itoa q.num ++ ([47] ++ Lib.itoa (q.den : Int)) = T at *
  have C2 := Lib.hid (Tryz.strings_Cut ⟨T.toArray⟩ ⟨#[47]⟩ z _ (by simp [ByteArray.size]; omega) hz1)
  have hsz : (⟨T.toArray⟩ : ByteArray).size = T.length := by simp [ByteArray.size]
  obtain ⟨q0, q1, q2, q3, q4, q5⟩ := HE.c3 (.head _)
  clear hx hn hd hd' hd1 hz1 hno hT hq0 hpos
  go_enter Tryz.func56, Tryz.ntmps56
  go_wp2_with fail
  refine (C1.out _).mono ?_
  rw [H1.out]
  rintro e w1 ⟨rfl, rfl⟩
  go_wp2_with fail
  refine C2.out.mono ?_
  rw [H3.out]
  rintro e w2 ⟨rfl, p, rfl⟩
  clear q0 q1 q2 q3 q4 q5
  replace HE := HE.next (below_drewN' _ _ p)
  go_wp2_with fail
  refine (iparse_f HE HN.out (by omega)).mono ?_
  clear HE
  rintro e w3 ⟨s1, D1, m1, d1, rfl, HE⟩
  replace HE := HE.box2 (.bool s1) (.slice D1 m1 d1)
  go_wp2_with fail
  refine (iparse_f HE HD.out (by omega)).mono ?_
  clear HE
  rintro e w4 ⟨s2, D2, m2, d2, rfl, HE⟩
  replace HE := (HE.frac (.tail _ (.head _)) (.head _) HQ.out.1 HQ.out.2.1 HQ.out.2.2.1)
  rw [show Rat.divInt q.num (q.den : Int) = q from Rat.num_divInt_den q] at HE
  obtain ⟨z0, z1, z2, z3⟩ := HE.c2 (.head _)
  have HB := HE.box2 (.bool s2) (.slice D2 m2 d2)
  obtain ⟨z4, z5, z6, z7⟩ := HB.c2 (.tail _ (.head _))
  obtain ⟨z8, z9, z10, z11⟩ := HB.c2 (.head _)
  replace HE := HB.box3 (.bool s1) (.slice D1 m1 d1) (.slice D2 m2 d2)
  clear HB
  simp only [World.size_alloc] at HE
  obtain ⟨q0, q1, q2, q3⟩ := HE.c2 (.head _)
  obtain ⟨q4, q5, q6, q7, q8, q9⟩ := HE.c3 (.head _)
  obtain ⟨y0, y1, y2, y3⟩ := HE.c2 (.tail _ (.head _))
  obtain ⟨y4, y5, y6, y7, y8, y9⟩ := HE.c3 (.tail _ (.head _))
  go_wp2_with fail
  go_region_held3 (fun w' => w'.cell? ⟨w4.heap.size, 0, none⟩ = some (.bool s2) ∧ w'.cell? ⟨w4.heap.size, 1, none⟩ = some (.slice D2 m2 d2) ∧ w'.cell? ⟨w4.heap.size + 1, 0, none⟩ = some (.bool s1) ∧ w'.cell? ⟨w4.heap.size + 1, 1, none⟩ = some (.slice D1 m1 d1) ∧ w'.cell? ⟨w4.heap.size + 1, 2, none⟩ = some (.slice D2 m2 d2)) (with_reducible first | exact FEnv.k23 HE | exact FEnv.k23 HE.drew)
    (first
      | (go_at_call 62; refine (iof_f (by with_reducible first | exact HE | exact HE.drew) (by omega) (by omega)).mono ?_; rintro e wn ⟨s3, D3, m3, d3, rfl, HE⟩)
      | (go_at_call 61; refine (icmp_f (by with_reducible first | exact HE | exact HE.drew) (by repeat (first | exact .head _ | assumption | refine .tail _ ?_)) (by repeat (first | exact .head _ | assumption | refine .tail _ ?_)) (by omega)).mono ?_; rw [HQ.out.2.2.2]; rintro e wn ⟨rfl, HE⟩)
      | (go_at_call 19; refine (fvalid_v (by with_reducible first | exact HE | exact HE.drew) (by repeat (first | exact .head _ | assumption | refine .tail _ ?_)) (by omega)).mono ?_; rintro e wn ⟨rfl, HE⟩))
  obtain ⟨q0, q1, q2, q3, q4, q5⟩ := HE.c3 (.head _)
  obtain ⟨z0, z1, z2, z3, z4, z5⟩ := HE.c3 (.tail _ (.head _))
  have TF := (HE.tri3 (.tail _ (.head _))).put (.bool s1) (.slice D1 m1 d1) (.slice D2 m2 d2)
  go_wp2_with fail
  obtain ⟨x0, x1, x2, -, -, -⟩ := TF.cells
  have HF := (HE.done3 (D := D1) (m := m1) (d := d1) (.tail _ (.head _)) s1 (.slice D2 m2 d2)).bare
  refine bodyPost_ret (v := .tuple #[.agg #[.bool s1, .slice D1 m1 d1, .slice D2 m2 d2], .nilIface]) (by simp [results, Tryz.results56, go_sem, x0, x1, x2]) rfl ?_
  exact ⟨_, _, _, _, _, _, _, rfl, HF.pick (fun e he => .tail _ (.tail _ (.tail _ he))) (fun _ he => he)⟩
/-- Parse gives back the fraction of a text. -/
theorem fparse_f {K : Nat} (HE : FEnv W0 w bs L ts M) (hx : Mx w) (hn : q.num.natAbs < pw K) (hd : q.den < pw K) (hK : K ≤ 40) :
    Calls Tryz.prog 56 #[.string ⟨(qtxt q).toArray⟩] w (GotE W0 bs L ts M q (2 * K + 2)) := by
  have hw : ∀ k, k ≤ 2 * K + 2 → ∀ e w', GotE W0 bs L ts M q k e w' → GotE W0 bs L ts M q (2 * K + 2) e w' := by
    rintro k hk e w' ⟨s, A, n, c, A', n', c', rfl, HF⟩
    exact ⟨s, A, n, c, A', n', c', rfl, HF.hd (·.weak hk)⟩
  unfold qtxt
  by_cases h1 : q.den = 1
  · rw [if_pos h1]
    exact (fparse1_f HE hx hn h1 hK).mono (hw _ (by omega))
  · rw [if_neg h1]
    exact (fparse2_f HE hx hn hd h1 hK).mono (hw _ (by omega))
end
end Go.Proofs.YtdecmhcojdnokaaGreatDoor
