/- Walk of the law IntegerReturns. -/
import Derived.Test.YtajlehaminddiaaDoorEnvs
import Derived.Test.YtajlehaminddiaaDoorParse
import Derived.Deep.RegionHeld3
namespace Lw
open Go Go.RowKit
theorem Env.addbox {t : TypeId} {W0 w : World} {bs : List Bx} {L : List En} (h : Env t W0 w bs L) (x y : Value) : Env t W0 (w.alloc (.cells #[x, y] t)) (⟨w.heap.size, x, y⟩ :: bs) L :=
  have h2 := h.next ((Below.refl _ w).alloc (Nat.le_refl _) (.cells #[x, y] t))
  ⟨h2.ops, fun b hb => by
    rcases List.mem_cons.1 hb with rfl | hb
    · exact Two.new w t x y
    · exact h2.box b hb, h2.below⟩
theorem short_dec {z : Int} (h : z.natAbs < pw 30) : (Lib.decDigits z.natAbs).length ≤ 60000 := by
  have key : ∀ m, m = 300 → z.natAbs < 10 ^ m → (Lib.decDigits z.natAbs).length ≤ 300 := by
    intro m hm hz
    obtain ⟨k, rfl⟩ : ∃ k, m = k + 1 := ⟨m - 1, by omega⟩
    have := dec_len k _ hz
    omega
  have h1 : pw 30 < (10 ^ 10) ^ 30 := by unfold pw; exact Nat.pow_lt_pow_left (by decide) (by omega)
  rw [← Nat.pow_mul] at h1
  exact Nat.le_trans (key _ (by omega) (Nat.lt_trans h h1)) (by omega)
theorem cmp_self (x : Int) : cmpI x x = 0 := by unfold cmpI; simp
end Lw
namespace Go.Proofs.YtajlehaminddiaaDoor
open Go Go.RowKit Lw
theorem text_env {t : TypeId} {W0 w : World} {bs : List Bx} {L : List En} {v : Value} {x : Int} {k : Nat} {b : Bool} (HE : Env t W0 w bs L) (h : ⟨v, x, k, b⟩ ∈ L) (hk : k ≤ 100000) (ht : Tab W0) :
    Calls Tryd.prog 43 #[v] w fun e w' => e = .returned (.string ⟨(Lib.itoa x).toArray⟩) ∧ Env t W0 w' bs L := by
  obtain ⟨s, A, n, c, ns, B, e1, h2, h3, h4, h5, h6, e7, h8⟩ := HE.ops _ h
  dsimp only at e1 e7 h5
  subst e1 e7
  exact (text_any s A ns n c B w h2 h3 h4 (by omega) h6 (ht.next HE.below)).mono fun e w' hh => ⟨hh.1, HE.next hh.2⟩
set_option maxRecDepth 100000 in
set_option maxHeartbeats 4000000 in
theorem returns_any (s1 : Bool) (A1 : Option Addr) (n1 c1 : Nat) (l1 : List Nat) (z2 : Int) (w : World) (ht : Tab w)
    (r1 : Rd w w.heap.size A1 l1) (h1 : l1.length = n1) (k1 : n1 ≤ c1) (hz : (Lit.int .i64 z2).wf = true) :
    Calls Tryd.prog 10 #[.agg #[.bool s1, .slice A1 n1 c1], .int .i64 z2] w fun e w' => e = .returned (.bool true) ∧ Below w.heap.size w w' := by
  have HT := Lib.hid ht
  have H1 := Lib.hid h1
  have hzz : -9223372036854775808 ≤ z2 ∧ z2 ≤ 9223372036854775807 := by
    have h2 : IntKind.i64.min ≤ z2 ∧ z2 ≤ IntKind.i64.max := by simpa [Lit.wf] using hz
    have e1 : IntKind.i64.min = -9223372036854775808 := by decide
    have e2 : IntKind.i64.max = 9223372036854775807 := by decide
    rw [e1, e2] at h2
    exact h2
  obtain ⟨hz1, hz2⟩ := hzz
  clear ht h1 hz
  obtain ⟨hb0, hE0⟩ := start1 (w := w) (s1 := s1) (A1 := A1) (n1 := n1) (c1 := c1) l1 24 (.cells #[.bool s1, .slice A1 n1 c1] 24)
  have HE0 := Lib.hid (hE0 r1 H1.out k1)
  have hg := heap_alloc_new (w.alloc (.cells #[.bool s1, .slice A1 n1 c1] 24)) (.cells #[.bool s1, .slice A1 n1 c1] 24)
  rw [World.size_alloc] at hg
  have hs := fun W hg => short_any [⟨s1, A1, n1, c1⟩] (w.heap.size + 1) 1 24 W hg rfl (by omega)
  have HS := Lib.hid (hs _ hg)
  have HB0 := Lib.hid hb0
  clear hE0 hb0 hg hs H1
  go_enter Tryd.func10, Tryd.ntmps10
  go_wp2_with fail
  refine HS.out.mono ?_
  rintro e w1 ⟨rfl, hb1⟩
  have hb1' := below_next HB0.out hb1 (Nat.le_refl _)
  cases hf : few [⟨s1, A1, n1, c1⟩]
  · clear HE0 HS hb1
    go_wp2_with fail
    refine (awake_any _ (HT.out.next hb1')).mono ?_
    rintro e w2 ⟨rfl, hb2⟩
    go_wp2_with fail
    go_ret
    exact ⟨rfl, below_next hb1' hb2 (Nat.le_refl _)⟩
  · have HE1 := (HE0.out (few1 hf)).next hb1
    clear HE0 HS hb1 HB0 hf
    go_wp2_with fail
    refine (awake_any _ (HT.out.next hb1')).mono ?_
    rintro e w2 ⟨rfl, hb2⟩
    have HE := HE1.next hb2
    clear HE1 hb2 hb1'  r1
    generalize zv s1 l1 = x1 at *
    obtain ⟨q1, q2⟩ := HE.cells1
    go_wp2_with fail
    have hx := (HE.ops _ (.head _)).lt
    refine (text_env HE (.head _) (by omega) HT.out).mono ?_
    rintro e wn ⟨rfl, HE⟩
    clear q1 q2
    go_wp2_with fail
    refine (parse_any x1 _ (short_dec hx)).mono ?_
    rintro e w5 ⟨A9, c9, rfl, hc9, hr9, hb9⟩
    have HE := (((HE.next hb9).cons (e := ⟨.agg #[.bool (sg x1), .slice A9 (mg x1).length c9], x1, 30, true⟩) ⟨sg x1, A9, _, c9, mg x1, _, rfl, hr9, Nat.le_refl _, rfl, len_z hx, hc9, zv_own x1, vB_own x1⟩)).addbox (.bool (sg x1)) (.slice A9 (mg x1).length c9)
    have hf := fits_yes (z := z2) ⟨hz1, hz2⟩
    obtain ⟨hf1, hf2⟩ := hf
    have hc0 := cmp_self x1
    clear hb9 hr9 hc9
    go_wp2_with fail
    refine (of_env HE hz1 hz2).mono ?_
    rintro e wn ⟨u, rfl, HE⟩
    go_wp2_with fail
    refine (int_env HE (.head _) (by omega)).mono ?_
    rintro e wn ⟨rfl, HE⟩
    rw [hf1, hf2]
    obtain ⟨q1, q2, q3, q4⟩ := HE.cells2
    go_wp2_with fail
    refine (cmp_env HE (.tail _ (.head _)) (.tail _ (.tail _ (.head _))) (by omega)).mono ?_
    rintro e wn ⟨rfl, HE⟩
    rw [hc0]
    clear q1 q2 q3 q4
    obtain ⟨q1, q2, q3, q4⟩ := HE.cells2
    go_wp2_with fail
    refine (valid_env HE (.tail _ (.head _)) (by omega)).mono ?_
    rintro e wn ⟨rfl, HE⟩
    clear q1 q2 q3 q4
    go_wp2_with fail
    go_ret
    exact ⟨rfl, HE.below⟩
end Go.Proofs.YtajlehaminddiaaDoor
