/- The reference of fractions: plain, one, Valid, Parts. -/
import Derived.Test.YtdecmhcojdnokaaGreatDoorFrefi
namespace Lw
theorem fV_p {s : Bool} {ns ms : List Nat} {n m : Nat} (hn : ns.length = n) (hm : ms.length = m) (h : ¬ (n = 0 ∧ m = 0)) :
    fV s ns ms = ((decide (0 < n) && vB false ns) && ((decide (0 < m) && vB false ms) && cp ns ms)) := by
  unfold fV
  rw [hn, hm]
  by_cases h1 : n = 0
  · rw [if_pos (.inl h1), decide_eq_false (by omega : ¬ n = m), decide_eq_false (by omega : ¬ 0 < n)]; rfl
  · by_cases h2 : m = 0
    · rw [if_pos (.inr h2), decide_eq_false (by omega : ¬ n = m), decide_eq_false (by omega : ¬ 0 < m)]; simp
    · rw [if_neg (by omega), decide_eq_true (by omega : 0 < n), decide_eq_true (by omega : 0 < m)]; simp
theorem cmpI_gcd (ns ms : List Nat) : (cmpI ((Nat.gcd (val ns) (val ms) : Nat) : Int) 1 == 0) = cp ns ms := by
  unfold cmpI cp
  rcases Nat.lt_trichotomy (Nat.gcd (val ns) (val ms)) 1 with h | h | h
  · rw [if_pos (by omega)]
    have : (Nat.gcd (val ns) (val ms) == 1) = false := by rw [beq_eq_false_iff_ne]; omega
    rw [this]; rfl
  · rw [h]; rfl
  · rw [if_neg (by omega), if_neg (by omega)]
    have : (Nat.gcd (val ns) (val ms) == 1) = false := by rw [beq_eq_false_iff_ne]; omega
    rw [this]; rfl
theorem zv_false {ns : List Nat} (h : vB false ns = true) : zv false ns = (val ns : Int) := by unfold zv; rw [if_pos h]; rfl
end Lw
namespace Go.Proofs.YtdecmhcojdnokaaGreatDoor
open Go Go.RowKit Lw
set_option maxRecDepth 100000 in
set_option maxHeartbeats 800000 in
theorem rplain_any (A : Option Addr) (ns : List Nat) (n c B : Nat) (w : World) (h : Rd w B A ns) (hB : B ≤ w.heap.size) (hn : ns.length = n) (hl : n ≤ 16777216) :
    Calls Tryz.prog 77 #[.slice A n c] w fun e w' => e = .returned (.bool (decide (0 < n) && vB false ns)) ∧ w = w' := by
  have Hn := Lib.hid hn
  clear hn
  by_cases h0 : n = 0
  · subst h0
    go_enter Tryz.func77, Tryz.ntmps77
    go_wp2_with fail
    go_ret
    exact ⟨rfl, rfl⟩
  · obtain ⟨b, off, rfl, hb, hcell, hlt⟩ := h.at_ (k := n - 1) (by rw [Hn.out]; omega)
    have hb1 : decide ((0 : Int) < (n : Int)) = true := decide_eq_true (by omega)
    have hbs : b < w.heap.size := by omega
    go_enter Tryz.func77, Tryz.ntmps77
    go_wp2_with fail
    go_ret
    refine ⟨ret_bool ?_, rfl⟩
    rw [decide_eq_true (by omega : 0 < n), Bool.true_and]
    unfold vB
    rw [if_neg (by rw [Hn.out]; exact h0), Hn.out, Bool.eq_iff_iff, bne_iff_ne, bne_iff_ne]
    exact not_congr Int.ofNat_inj
section
variable {W0 w : World} {bs : List Bx} {L : List En} {ts : List Bt} {M : List Qn} {s : Bool} {A A' : Option Addr} {n c n' c' k : Nat} {q : Rat} {b : Bool}
set_option maxRecDepth 100000 in
set_option maxHeartbeats 1600000 in
theorem one_f (HE : FEnv W0 w bs L ts M) : Calls Tryz.prog 74 #[] w (GotI W0 bs L ts M 1 2) := by
  refine Calls.mono (R := GotI w [] L [] M 1 2) ?_ fun _ _ hh => GotI.of HE hh
  replace HE := HE.here.box2 (.bool false) (.slice none 0 0)
  obtain ⟨q0, q1, q2, q3⟩ := HE.c2 (.head _)
  go_enter Tryz.func74, Tryz.ntmps74
  go_wp2_with fail
  refine (rof_f HE (by omega) (by omega)).mono ?_
  clear HE
  rintro e w1 ⟨s1, A1, n1, c1, rfl, HE⟩
  clear q0 q1 q2 q3
  obtain ⟨q0, q1, q2, q3⟩ := HE.c2 (.head _)
  go_wp2_with fail
  refine bodyPost_ret (v := .agg #[.bool s1, .slice A1 n1 c1]) (by simp [results, Tryz.results74, go_sem, q0, q1]) rfl ?_
  exact ⟨_, _, _, _, rfl, HE.done2 (.head _) s1 (.slice A1 n1 c1)⟩
set_option maxRecDepth 100000 in
set_option maxHeartbeats 3200000 in
theorem rfvalid_f (HE : FEnv W0 w bs L ts M) (h : ⟨.agg #[.bool s, .slice A n c, .slice A' n' c'], q, k, b⟩ ∈ M) (hk : k ≤ 3000) :
    Calls Tryz.prog 20 #[.agg #[.bool s, .slice A n c, .slice A' n' c']] w fun e w' => e = .returned (.bool b) ∧ FEnv W0 w' bs L ts M := by
  refine Calls.mono (R := fun e w' => e = .returned (.bool b) ∧ FEnv w w' [] L [] M) ?_ fun _ _ hh => ⟨hh.1, HE.back hh.2⟩
  obtain ⟨s', A1, n1, c1, A2, n2, c2, ns, ms, h1, r1, r2, e2, e3, e4, e5, e6, e7, e8, e9⟩ := HE.fr _ h
  dsimp only at h1 e4 e5 e9
  injection h1 with h1
  injection h1 with h1
  simp only [List.cons.injEq, Value.bool.injEq, Value.slice.injEq, and_true] at h1
  obtain ⟨rfl, ⟨rfl, rfl, rfl⟩, rfl, rfl, rfl⟩ := h1
  replace HE := HE.here.box3 (.bool s) (.slice A n c) (.slice A' n' c')
  obtain ⟨q0, q1, q2, q3, q4, q5⟩ := HE.c3 (.head _)
  by_cases h0 : n = 0 ∧ n' = 0
  · obtain ⟨h1, h2⟩ := h0
    have HV := Lib.hid (show (!s) = b by rw [← e9]; unfold fV; rw [if_pos (.inl (by omega)), e2, e3, decide_eq_true (by omega : n = n')]; rfl)
    subst h1 h2
    clear e2 e3 e4 e5 e6 e7 e8 e9 r1 r2 h
    go_enter Tryz.func20, Tryz.ntmps20
    go_wp2_with fail
    go_ret
    exact ⟨ret_bool HV.out, HE.bare⟩
  · have hp := fun W hb => rplain_any A ns n c w.heap.size W (r1.next hb (Nat.le_refl _)) (Below.size hb) e2 (by omega)
    have hp' := fun W hb => rplain_any A' ms n' c' w.heap.size W (r2.next hb (Nat.le_refl _)) (Below.size hb) e3 (by omega)
    have hV := fV_p (s := s) e2 e3 h0
    rw [e9] at hV
    have o1 := fun (hv : vB false ns = true) (W : World) (hb : Below w.heap.size w W) => (show Opd W ⟨.agg #[.bool false, .slice A n c], (val ns : Int), k, true⟩ from ⟨false, A, n, c, ns, w.heap.size, rfl, r1.next hb (Nat.le_refl _), hb.size, e2, e4, e6, zv_false hv, hv⟩)
    have o2 := fun (hv : vB false ms = true) (W : World) (hb : Below w.heap.size w W) => (show Opd W ⟨.agg #[.bool false, .slice A' n' c'], (val ms : Int), k, true⟩ from ⟨false, A', n', c', ms, w.heap.size, rfl, r2.next hb (Nat.le_refl _), hb.size, e3, e5, e7, zv_false hv, hv⟩)
    have HC := Lib.hid (cmpI_gcd ns ms)
    have HP := Lib.hid hp
    have HP' := Lib.hid hp'
    have HV := Lib.hid hV
    have O1 := Lib.hid o1
    have O2 := Lib.hid o2
    have HH : Hid (n ≠ 0 ∨ n' ≠ 0) := Lib.hid (by omega)
    clear hp hp' hV o1 o2 e2 e3 e4 e5 e6 e7 e8 e9 r1 r2 h h0
    cases g1 : (decide (0 < n) && vB false ns)
    · have HP1 := Lib.hid (show ∀ W, Below w.heap.size w W → Calls Tryz.prog 77 #[.slice A n c] W fun e w' => e = .returned (.bool false) ∧ W = w' by have := HP.out; rwa [g1] at this)
      have HB := Lib.hid (show b = false by rw [HV.out, g1]; rfl)
      clear HP HP' HV O1 O2 g1 HC
      by_cases h0 : n = 0
      · have hm := HH.out
        have hqm : ((n' : Int) == 0) = false := by rw [beq_eq_false_iff_ne]; omega
        subst h0
        clear hm
        go_enter Tryz.func20, Tryz.ntmps20
        go_wp2_with fail
        refine (HP1.out _ HE.below).mono ?_
        rintro e w1 ⟨rfl, rfl⟩
        go_wp2_with fail
        go_ret
        exact ⟨ret_bool HB.out.symm, HE.bare⟩
      · have hqn : ((n : Int) == 0) = false := by rw [beq_eq_false_iff_ne]; omega
        clear h0
        go_enter Tryz.func20, Tryz.ntmps20
        go_wp2_with fail
        refine (HP1.out _ HE.below).mono ?_
        rintro e w1 ⟨rfl, rfl⟩
        go_wp2_with fail
        go_ret
        exact ⟨ret_bool HB.out.symm, HE.bare⟩
    · have HP1 := Lib.hid (show ∀ W, Below w.heap.size w W → Calls Tryz.prog 77 #[.slice A n c] W fun e w' => e = .returned (.bool true) ∧ W = w' by have := HP.out; rwa [g1] at this)
      have hg := g1
      rw [Bool.and_eq_true, decide_eq_true_iff] at hg
      have hqn : ((n : Int) == 0) = false := by rw [beq_eq_false_iff_ne]; omega
      have O3 := Lib.hid (O1.out hg.2)
      clear O1 HP hg
      cases g2 : (decide (0 < n') && vB false ms)
      · have HP2 := Lib.hid (show ∀ W, Below w.heap.size w W → Calls Tryz.prog 77 #[.slice A' n' c'] W fun e w' => e = .returned (.bool false) ∧ W = w' by have := HP'.out; rwa [g2] at this)
        have HB := Lib.hid (show b = false by rw [HV.out, g1, g2]; rfl)
        clear HP' HV O2 O3 g1 g2 HC
        go_enter Tryz.func20, Tryz.ntmps20
        go_wp2_with fail
        refine (HP1.out _ HE.below).mono ?_
        rintro e w1 ⟨rfl, rfl⟩
        go_wp2_with fail
        refine (HP2.out _ HE.below).mono ?_
        rintro e w1 ⟨rfl, rfl⟩
        go_wp2_with fail
        go_ret
        exact ⟨ret_bool HB.out.symm, HE.bare⟩
      · have HP2 := Lib.hid (show ∀ W, Below w.heap.size w W → Calls Tryz.prog 77 #[.slice A' n' c'] W fun e w' => e = .returned (.bool true) ∧ W = w' by have := HP'.out; rwa [g2] at this)
        have hg := g2
        rw [Bool.and_eq_true] at hg
        have O4 := Lib.hid (O2.out hg.2)
        have HB := Lib.hid (show b = (cmpI ((Nat.gcd (val ns) (val ms) : Nat) : Int) 1 == 0) by rw [HV.out, g1, g2, HC.out]; rfl)
        clear HP' HV O2 g1 g2 HC hg
        go_enter Tryz.func20, Tryz.ntmps20
        go_wp2_with fail
        refine (HP1.out _ HE.below).mono ?_
        rintro e w1 ⟨rfl, rfl⟩
        go_wp2_with fail
        refine (HP2.out _ HE.below).mono ?_
        rintro e w1 ⟨rfl, rfl⟩
        replace HE := (HE.push (O4.out _ HE.below)).push (O3.out _ HE.below)
        go_wp2_with fail
        refine (rgcd_f HE (.head _) (.tail _ (.head _)) (by omega)).mono ?_
        clear HE
        rintro e w1 ⟨sa, Aa, na, ca, rfl, HE⟩
        go_wp2_with fail
        refine (one_f HE).mono ?_
        clear HE
        rintro e w2 ⟨sb, Ab, nb, cb, rfl, HE⟩
        go_wp2_with fail
        refine (rcmp_f HE (.tail _ (.head _)) (.head _) (by omega)).mono ?_
        clear HE
        rintro e w3 ⟨rfl, HE⟩
        go_wp2_with fail
        go_ret
        exact ⟨ret_bool HB.out.symm, HE.bare.pick (fun _ he => .tail _ (.tail _ (.tail _ (.tail _ he)))) (fun _ he => he)⟩
end
end Go.Proofs.YtdecmhcojdnokaaGreatDoor
