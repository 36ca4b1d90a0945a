/- Walk of integer.difference. -/
import Derived.Test.YtobffffcihlkbaaDoorKnuths
import Derived.Test.YtobffffcihlkbaaDoorMul
import Derived.Deep.RegionWith
import Derived.Test.YtobffffcihlkbaaDoorLead
import Derived.Test.YtobffffcihlkbaaDoorRoots
import Derived.Deep.RegionHeld3
import Derived.Test.YtobffffcihlkbaaDoorMem
import Derived.Test.YtobffffcihlkbaaDoorDivw
namespace Go.Proofs.YtobffffcihlkbaaDoor
open Go Go.RowKit Lw
set_option maxRecDepth 100000 in
set_option maxHeartbeats 3200000 in
theorem difference_any (A A' : Option Addr) (ns ms : List Nat) (n m L c c' B B' x y R : Nat) (w : World) (h : Rd w B A ns) (h' : Rd w B' A' ms) (hB : B ≤ w.heap.size) (hB' : B' ≤ w.heap.size)
    (hn : ns.length = n) (hm : ms.length = m) (hl : n ≤ 16777216) (hl' : m ≤ 16777216) (hx : x ≤ 4294967295) (hy : y ≤ 4294967295) (hL : L = max n m) (hR : x * val ns = R + y * val ms) (hRl : R < pw L) :
    Calls Tryd.prog 72 #[.slice A n c, .int .u64 x, .slice A' m c', .int .u64 y] w (OutW w R) := by
  have Hn := Lib.hid hn
  have Hm := Lib.hid hm
  have HR := Lib.hid (And.intro hR hRl)
  have hL1 : L ≤ 16777216 := by omega
  have hL2 : n ≤ L := by omega
  have hL3 : m ≤ L := by omega
  have hL4 : ((max n m : Nat) : Int) = (L : Int) := by omega
  have hL5 : max (n : Int) (m : Int) = (L : Int) := by omega
  clear hn hm hR hRl hL
  go_enter Tryd.func72, Tryd.ntmps72
  go_wp2_with (at_make; refine wpList_make32 _ rfl _ _ _ rfl 46 Tryd.underlying22 info32 _ _ _ _ L rfl rfl (by omega) (by omega) (by omega) ?_; intro w1 hblk hbel hsz)
  go_loopw [10, 11, 12, 23] (fun a b e i wr => ∃ (k cA cB bo : Nat) (cs : List Nat), k ≤ L ∧ cA ≤ 4294967295 ∧ cB ≤ 4294967295 ∧ bo ≤ 1 ∧ i = .int .i64 k ∧ a = .int .u64 cA ∧ b = .int .u64 cB ∧ e = .int .u64 bo ∧ Blk wr w.heap.size 46 cs ∧ Hid (cs.length = L) ∧ Wds cs ∧
      Hid (lo cs k + y * lo ms k + pw k * cA = x * lo ns k + pw k * (cB + bo)) ∧ Below w.heap.size w wr) (fun _ _ _ i _ => L - (intOf i).toNat)
  case atStart => exact ⟨0, 0, 0, 0, _, Nat.zero_le _, by omega, by omega, by omega, rfl, rfl, rfl, rfl, hblk, Lib.hid (by simp), wds_replicate _, Lib.hid (by simp [lo_zero]), hbel⟩
  case round =>
    obtain ⟨k, cA, cB, bo, cs, hk, hcA, hcB, hbo, rfl, rfl, rfl, rfl, hb1, hcl, hcw, hv, hbw⟩ := hrel
    clear hblk hbel hsz
    have hr := h.below (hbw.mono hB)
    have hr' := h'.below (hbw.mono hB')
    by_cases hkn : k < L
    · have hwa := wd_lt hr.wds (k : Int)
      have hwb := wd_lt hr'.wds (k : Int)
      have hcc := hb1.cell (i := k) (by rw [hcl.out]; omega)
      have hfr := hb1.frozen k
      obtain ⟨a, ha⟩ : ∃ a, a = wd ns (k : Int) := ⟨_, rfl⟩
      obtain ⟨b, hb⟩ : ∃ b, b = wd ms (k : Int) := ⟨_, rfl⟩
      rw [← ha] at hwa
      rw [← hb] at hwb
      obtain ⟨hxa1, hxa2⟩ := mul_word (x := x) (by omega) hwa
      obtain ⟨hyb1, hyb2⟩ := mul_word (x := y) (by omega) hwb
      have hxN := Int.natCast_mul x a
      have hyN := Int.natCast_mul y b
      obtain ⟨S, hS⟩ : ∃ S, S = cA + x * a := ⟨_, rfl⟩
      obtain ⟨T, hT⟩ : ∃ T, T = cB + y * b := ⟨_, rfl⟩
      have hSl : S ≤ 18446744073709551615 := by omega
      have hTl : T ≤ 18446744073709551615 := by omega
      have hsum : (cA : Int) + (x : Int) * (a : Int) = (S : Int) := by rw [hS, Int.natCast_add, Int.natCast_mul]
      have hsumT : (cB : Int) + (y : Int) * (b : Int) = (T : Int) := by rw [hT, Int.natCast_add, Int.natCast_mul]
      have handS : bits .and .u64 (S : Int) 4294967295 = ((S % 4294967296 : Nat) : Int) := and_mask (by omega)
      have handT : bits .and .u64 (T : Int) 4294967295 = ((T % 4294967296 : Nat) : Int) := and_mask (by omega)
      obtain ⟨D, hD, hDl, hDv⟩ := wrap_sub (S % 4294967296) (T % 4294967296)
      obtain ⟨F, hF, hFl, hFv⟩ := wrap_sub D bo
      have hdw := Lib.hid (diff_word (S := S) (T := T) hbo hDv hFv hDl)
      have hF2 : F / 9223372036854775808 ≤ 1 := hdw.out.2
      have HS := Lib.hid (And.intro hS hT)
      obtain ⟨SM, hSM⟩ : ∃ M, M = S % 4294967296 := ⟨_, rfl⟩
      obtain ⟨TM, hTM⟩ : ∃ M, M = T % 4294967296 := ⟨_, rfl⟩
      rw [← hSM] at handS hD
      rw [← hTM] at handT hD
      have Ha := Lib.hid (And.intro ha hb)
      clear hDv hFv hS hT hSM hTM hxN hyN
      have hwA : ∀ W, Below w.heap.size w W → Calls Tryd.prog 50 #[.slice A n c, .int .i64 k] W fun e w' => e = .returned (.int .u64 (a : Int)) ∧ W = w' := fun W hW => by rw [ha]; exact word_any _ ns _ _ _ _ _ (h.below (hW.mono hB)) Hn.out (by omega)
      have hwB : ∀ W, Below w.heap.size w W → Calls Tryd.prog 50 #[.slice A' m c', .int .i64 k] W fun e w' => e = .returned (.int .u64 (b : Int)) ∧ W = w' := fun W hW => by rw [hb]; exact word_any _ ms _ _ _ _ _ (h'.below (hW.mono hB')) Hm.out (by omega)
      have HWA := Lib.hid hwA
      have HWB := Lib.hid hwB
      clear hwA hwB ha hb
      go_wp2_with fail
      refine (HWA.out _ hbw).mono ?_
      rintro e w2 ⟨rfl, rfl⟩
      go_wp2_with fail
      refine (HWB.out _ hbw).mono ?_
      rintro e w2 ⟨rfl, rfl⟩
      go_wp2_with fail
      go_roundw
      case rel =>
        refine ⟨k + 1, S / 4294967296, T / 4294967296, F / 9223372036854775808, cs.set k (F % 4294967296), by omega, by omega, by omega, hF2, by go_num, by go_num, by go_num, by go_num, hb1.setI (by rw [hcl.out]; omega) (by omega), Lib.hid (by rw [List.length_set]; exact hcl.out), wds_set hcw _ (Nat.mod_lt _ (by omega)), Lib.hid ?_, hbw.setCell (Nat.le_refl _) _⟩
        refine diff_step (by rw [hcl.out]; omega) hv.out ?_ ?_ hdw.out.1
        · rw [HS.out.1, Ha.out.1, wd_nat]
        · rw [HS.out.2, Ha.out.2, wd_nat]
      case measure => simp [intOf]; omega
    · obtain rfl : k = L := by omega
      have HV : Hid (val cs = R) := Lib.hid (diff_out hcw hcl.out (by rw [Hn.out]; omega) (by rw [Hm.out]; omega) hv.out HR.out.1 HR.out.2)
      go_wp2_with fail
      refine (trim_any _ cs _ _ _ _ (hb1.rd hcw) hcl.out (Nat.le_refl _) (by omega)).mono ?_
      rintro e w' ⟨rfl, rfl⟩
      go_wp2_with fail
      go_ret
      refine ⟨_, _, ret_slice (by rw [HV.out]), ?_, ?_, hbw⟩
      · have := digs_len_le hcw
        rw [HV.out, hcl.out] at this; exact this
      · have := (hb1.rd hcw).digs
        rw [HV.out] at this; exact this
end Go.Proofs.YtobffffcihlkbaaDoor
/-! Walk of (integer.steps).apply: where Lehmer's steps lead. -/
namespace Lw
open Go Go.RowKit
theorem digs_mono {a b : Nat} (h : a ≤ b) : (digs a).length ≤ (digs b).length := by
  rcases Nat.lt_or_ge (digs b).length (digs a).length with h1 | h1
  · have := lt_pw_of_length (wds_digs b) (trm_digs a) h1
    rw [val_digs, val_digs] at this
    omega
  · exact h1
/-- Words made anew, the value behind a letter. -/
def OutV (w : World) (N : Nat) (e : Ending) (w' : World) : Prop :=
  ∃ u, e = .returned u ∧ Hid (∃ A c, u = .slice A (digs N).length c ∧ (digs N).length ≤ c ∧ Rd w' w'.heap.size A (digs N)) ∧ Below w.heap.size w w'
/-- A block of five cells. -/
structure Five (w : World) (g : Nat) (a b c d e : Value) : Prop where
  lt : g < w.heap.size
  cells : w.cell? ⟨g, 0, none⟩ = some a ∧ w.cell? ⟨g, 1, none⟩ = some b ∧ w.cell? ⟨g, 2, none⟩ = some c ∧ w.cell? ⟨g, 3, none⟩ = some d ∧ w.cell? ⟨g, 4, none⟩ = some e
theorem Five.new (w : World) (t : TypeId) (a b c d : Nat) (e : Bool) : Five (w.alloc (.cells #[.int .u64 a, .int .u64 b, .int .u64 c, .int .u64 d, .bool e] t)) w.heap.size (.int .u64 a) (.int .u64 b) (.int .u64 c) (.int .u64 d) (.bool e) :=
  ⟨by simp, by simp [go_sem], by simp [go_sem], by simp [go_sem], by simp [go_sem], by simp [go_sem]⟩
theorem Five.drew {w : World} {g : Nat} {a b c d e : Value} (h : Five w g a b c d e) : Five w.drew g a b c d e := ⟨h.lt, h.cells⟩
theorem Five.next {w w' : World} {g B : Nat} {a b c d e : Value} (h : Five w g a b c d e) (hb : Below B w w') (hB : B = w.heap.size) : Five w' g a b c d e := by
  subst hB
  exact ⟨Nat.lt_of_lt_of_le h.lt hb.size, (hb.cell h.lt).trans h.cells.1, (hb.cell h.lt).trans h.cells.2.1, (hb.cell h.lt).trans h.cells.2.2.1, (hb.cell h.lt).trans h.cells.2.2.2.1, (hb.cell h.lt).trans h.cells.2.2.2.2⟩
end Lw
namespace Go.Proofs.YtobffffcihlkbaaDoor
open Go Go.RowKit Lw
set_option maxRecDepth 100000 in
set_option maxHeartbeats 6400000 in
theorem apply_any (A A' : Option Addr) (N M n m c c' B B' u0 u1 v0 v1 : Nat) (o : Bool) (w : World) (h : Rd w B A (digs N)) (h' : Rd w B' A' (digs M)) (hB : B ≤ w.heap.size) (hB' : B' ≤ w.heap.size)
    (hn : (digs N).length = n) (hm : (digs M).length = m) (hl : n ≤ 8388608) (hl' : m ≤ n) (hv : v0 ≠ 0) (hs : StepsOK N M u0 u1 v0 v1 o) :
    Calls Tryd.prog 59 #[.agg #[.int .u64 u0, .int .u64 u1, .int .u64 v0, .int .u64 v1, .bool o], .slice A n c, .slice A' m c'] w fun e w' =>
      ∃ r1 r2, PairW w r1 r2 e w' ∧ r2 ≤ r1 ∧ Nat.gcd r1 r2 = Nat.gcd N M ∧ r1 ≤ N ∧ r1 + r2 ≤ N := by
  obtain ⟨b1, b2, b3, b4, r1, r2, heq, hle, hg, hrN, hsum⟩ := hs.resolve_left hv
  have hsum' := hsum (Nat.pos_of_ne_zero hv)
  have hr1 : r1 < pw n := Nat.lt_of_le_of_lt hrN (lt_of_digs_length (by omega))
  have hr2 : r2 < pw n := Nat.lt_of_le_of_lt hle hr1
  have hmax : n = max n m := by omega
  have hmax2 : n = max m n := by omega
  have HG := Lib.hid (And.intro hle (And.intro hg (And.intro hrN hsum')))
  have HN := Lib.hid (And.intro hn hm)
  have HR := Lib.hid (And.intro hr1 hr2)
  have HM := Lib.hid (And.intro hmax hmax2)
  clear hle hg hrN hsum hsum' hn hm hr1 hr2 hmax hmax2 hs
  cases o
  · simp only [Bool.false_eq_true, if_false] at heq
    have HE := Lib.hid heq
    clear heq
    go_enter Tryd.func59, Tryd.ntmps59
    go_wp2_with fail
    have H1 : ∀ W, Below w.heap.size w W → Calls Tryd.prog 72 #[.slice A n c, .int .u64 u0, .slice A' m c', .int .u64 v0] W (OutV W r1) := fun W hW =>
      (difference_any _ _ (digs N) (digs M) _ _ n _ _ _ _ u0 v0 r1 W (h.below (hW.mono hB)) (h'.below (hW.mono hB')) (Nat.le_trans hB hW.size) (Nat.le_trans hB' hW.size) HN.out.1 HN.out.2 (by omega) (by omega) (by omega) (by omega) HM.out.1 (by rw [val_digs, val_digs]; exact HE.out.1) HR.out.1).mono fun e w' ⟨A, c, he, hc, hr, hb⟩ => ⟨_, he, Lib.hid ⟨A, c, rfl, hc, hr⟩, hb⟩
    have H2 : ∀ W, Below w.heap.size w W → Calls Tryd.prog 72 #[.slice A' m c', .int .u64 v1, .slice A n c, .int .u64 u1] W (OutV W r2) := fun W hW =>
      (difference_any _ _ (digs M) (digs N) _ _ n _ _ _ _ v1 u1 r2 W (h'.below (hW.mono hB')) (h.below (hW.mono hB)) (Nat.le_trans hB' hW.size) (Nat.le_trans hB hW.size) HN.out.2 HN.out.1 (by omega) (by omega) (by omega) (by omega) HM.out.2 (by rw [val_digs, val_digs]; exact HE.out.2) HR.out.2).mono fun e w' ⟨A, c, he, hc, hr, hb⟩ => ⟨_, he, Lib.hid ⟨A, c, rfl, hc, hr⟩, hb⟩
    have HD1 := Lib.hid H1
    have HD2 := Lib.hid H2
    clear H1 H2
    have hF := Five.new w 74 u0 u1 v0 v1 false
    have hW := (Below.refl w.heap.size w).alloc (Nat.le_refl _) (.cells #[.int .u64 (u0 : Int), .int .u64 (u1 : Int), .int .u64 (v0 : Int), .int .u64 (v1 : Int), .bool false] 74)
    generalize w.alloc (.cells #[.int .u64 (u0 : Int), .int .u64 (u1 : Int), .int .u64 (v0 : Int), .int .u64 (v1 : Int), .bool false] 74) = W0 at hF hW ⊢
    go_region_held3 (fun w' => w'.cell? ⟨w.heap.size, 0, none⟩ = some (.int .u64 u0) ∧ w'.cell? ⟨w.heap.size, 1, none⟩ = some (.int .u64 u1) ∧ w'.cell? ⟨w.heap.size, 2, none⟩ = some (.int .u64 v0) ∧ w'.cell? ⟨w.heap.size, 3, none⟩ = some (.int .u64 v1) ∧ w'.cell? ⟨w.heap.size, 4, none⟩ = some (.bool false)) (first | exact hF.cells | exact hF.drew.cells)
      (first
        | (go_at_call_of 72 (Value.slice A' m c'); refine (HD2.out _ hW2).mono ?_; rintro e w3 ⟨x2, rfl, hr2, hb2⟩; have hF := hF.next hb2 rfl; have hW3 := below_next hW2 hb2 (Nat.le_refl _))
        | (go_at_call_of 72 (Value.slice A n c); refine (HD1.out _ hW.drew).mono ?_; rintro e w2 ⟨x1, rfl, hr1, hb1⟩; have hF := hF.drew.next hb1 rfl; have hW2 := below_next hW.drew hb1 (Nat.le_refl _)))
    all_goals
      go_wp2_with fail
      go_ret2
      obtain ⟨A1, c1, rfl, hc1, hr1⟩ := hr1.out
      obtain ⟨A2, c2, rfl, hc2, hr2⟩ := hr2.out
      exact ⟨r1, r2, ⟨A1, c1, A2, c2, rfl, hc1, hc2, (hr1.next hb2 (Nat.le_refl _)).more hb2.size, hr2, hW3⟩, HG.out.1, HG.out.2.1, HG.out.2.2.1, HG.out.2.2.2⟩
  · simp only [if_true] at heq
    have HE := Lib.hid heq
    clear heq
    go_enter Tryd.func59, Tryd.ntmps59
    go_wp2_with fail
    have H1 : ∀ W, Below w.heap.size w W → Calls Tryd.prog 72 #[.slice A' m c', .int .u64 v0, .slice A n c, .int .u64 u0] W (OutV W r1) := fun W hW =>
      (difference_any _ _ (digs M) (digs N) _ _ n _ _ _ _ v0 u0 r1 W (h'.below (hW.mono hB')) (h.below (hW.mono hB)) (Nat.le_trans hB' hW.size) (Nat.le_trans hB hW.size) HN.out.2 HN.out.1 (by omega) (by omega) (by omega) (by omega) HM.out.2 (by rw [val_digs, val_digs]; exact HE.out.1) HR.out.1).mono fun e w' ⟨A, c, he, hc, hr, hb⟩ => ⟨_, he, Lib.hid ⟨A, c, rfl, hc, hr⟩, hb⟩
    have H2 : ∀ W, Below w.heap.size w W → Calls Tryd.prog 72 #[.slice A n c, .int .u64 u1, .slice A' m c', .int .u64 v1] W (OutV W r2) := fun W hW =>
      (difference_any _ _ (digs N) (digs M) _ _ n _ _ _ _ u1 v1 r2 W (h.below (hW.mono hB)) (h'.below (hW.mono hB')) (Nat.le_trans hB hW.size) (Nat.le_trans hB' hW.size) HN.out.1 HN.out.2 (by omega) (by omega) (by omega) (by omega) HM.out.1 (by rw [val_digs, val_digs]; exact HE.out.2) HR.out.2).mono fun e w' ⟨A, c, he, hc, hr, hb⟩ => ⟨_, he, Lib.hid ⟨A, c, rfl, hc, hr⟩, hb⟩
    have HD1 := Lib.hid H1
    have HD2 := Lib.hid H2
    clear H1 H2
    have hF := Five.new w 74 u0 u1 v0 v1 true
    have hW := (Below.refl w.heap.size w).alloc (Nat.le_refl _) (.cells #[.int .u64 (u0 : Int), .int .u64 (u1 : Int), .int .u64 (v0 : Int), .int .u64 (v1 : Int), .bool true] 74)
    generalize w.alloc (.cells #[.int .u64 (u0 : Int), .int .u64 (u1 : Int), .int .u64 (v0 : Int), .int .u64 (v1 : Int), .bool true] 74) = W0 at hF hW ⊢
    go_region_held3 (fun w' => w'.cell? ⟨w.heap.size, 0, none⟩ = some (.int .u64 u0) ∧ w'.cell? ⟨w.heap.size, 1, none⟩ = some (.int .u64 u1) ∧ w'.cell? ⟨w.heap.size, 2, none⟩ = some (.int .u64 v0) ∧ w'.cell? ⟨w.heap.size, 3, none⟩ = some (.int .u64 v1) ∧ w'.cell? ⟨w.heap.size, 4, none⟩ = some (.bool true)) (first | exact hF.cells | exact hF.drew.cells)
      (first
        | (go_at_call_of 72 (Value.slice A n c); refine (HD2.out _ hW2).mono ?_; rintro e w3 ⟨x2, rfl, hr2, hb2⟩; have hF := hF.next hb2 rfl; have hW3 := below_next hW2 hb2 (Nat.le_refl _))
        | (go_at_call_of 72 (Value.slice A' m c'); refine (HD1.out _ hW.drew).mono ?_; rintro e w2 ⟨x1, rfl, hr1, hb1⟩; have hF := hF.drew.next hb1 rfl; have hW2 := below_next hW.drew hb1 (Nat.le_refl _)))
    all_goals
      go_wp2_with fail
      go_ret2
      obtain ⟨A1, c1, rfl, hc1, hr1⟩ := hr1.out
      obtain ⟨A2, c2, rfl, hc2, hr2⟩ := hr2.out
      exact ⟨r1, r2, ⟨A1, c1, A2, c2, rfl, hc1, hc2, (hr1.next hb2 (Nat.le_refl _)).more hb2.size, hr2, hW3⟩, HG.out.1, HG.out.2.1, HG.out.2.2.1, HG.out.2.2.2⟩
end Go.Proofs.YtobffffcihlkbaaDoor
/-! The number that a slice of words reads as, as a measure of loops; where Newton's method begins for long numbers. -/
namespace Lw
open Go Go.RowKit
def wordAt (w : World) (b k : Nat) : Nat := match w.cell? ⟨b, k, none⟩ with | some (.int _ z) => z.toNat | _ => 0
def rdv (w : World) : Value → Nat
  | .slice (some a) n _ => val ((List.range n).map fun j => wordAt w a.block (a.off + j))
  | _ => 0
theorem rdv_rd {w : World} {B : Nat} {A : Option Addr} {ns : List Nat} {n c : Nat} (h : Rd w B A ns) (hn : ns.length = n) : rdv w (.slice A n c) = val ns := by
  rcases Nat.eq_zero_or_pos n with h0 | h0
  · subst h0
    obtain rfl : ns = [] := List.eq_nil_of_length_eq_zero hn
    cases A <;> rfl
  · obtain ⟨b, off, rfl, hb, hc⟩ := h.2 (by omega)
    show val ((List.range n).map fun j => wordAt w b (off + j)) = val ns
    congr 1
    apply List.ext_getElem
    · simp [hn]
    · intro j h1 h2
      rw [List.getElem_map, List.getElem_range]
      unfold wordAt
      rw [hc j h2]
      show (dg ns j : Int).toNat = ns[j]
      rw [Int.toNat_natCast, dg_get h2]
theorem newton_start {N s : Nat} : rt N < (rt (N / 2 ^ (2 * s)) + 1) * 2 ^ s := by
  apply rt_lt_of_sq
  have h1 := rt_lt (N / 2 ^ (2 * s))
  have hp : 0 < 2 ^ (2 * s) := Nat.pow_pos (by omega)
  have h2 : N < (N / 2 ^ (2 * s) + 1) * 2 ^ (2 * s) := by
    have := Nat.div_add_mod N (2 ^ (2 * s))
    have := Nat.mod_lt N hp
    rw [Nat.add_mul, Nat.one_mul, Nat.mul_comm]
    omega
  have h3 : (N / 2 ^ (2 * s) + 1) * 2 ^ (2 * s) ≤ (rt (N / 2 ^ (2 * s)) + 1) * (rt (N / 2 ^ (2 * s)) + 1) * 2 ^ (2 * s) := Nat.mul_le_mul_right _ h1
  have h4 : (rt (N / 2 ^ (2 * s)) + 1) * 2 ^ s * ((rt (N / 2 ^ (2 * s)) + 1) * 2 ^ s) = (rt (N / 2 ^ (2 * s)) + 1) * (rt (N / 2 ^ (2 * s)) + 1) * 2 ^ (2 * s) := by
    rw [show 2 ^ (2 * s) = 2 ^ s * 2 ^ s by rw [← Nat.pow_add]; congr 1; omega]
    ac_rfl
  rw [h4]; omega
end Lw
