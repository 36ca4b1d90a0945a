/- Walk of the reference: times. -/
import Derived.Test.YtobffffcihlkbaaDoorRefp
import Derived.BigQuiet
namespace Lw
open Go Go.RowKit
theorem grown_drewN {a w : World} {g : Option Nat} (h : a.grownBy w g) (k : Nat) : a.grownBy (w.drewN k) g := ⟨h.os, h.tape, h.output, h.size, h.block⟩
end Lw
namespace Go.Proofs.YtobffffcihlkbaaDoor
open Go Go.RowKit Lw
set_option maxRecDepth 100000 in
set_option maxHeartbeats 6400000 in
theorem reftimes_any (A A' : Option Addr) (ns ms : List Nat) (n m c c' B B' : Nat) (w : World) (h : Rd w B A ns) (h' : Rd w B' A' ms) (hB : B ≤ w.heap.size) (hB' : B' ≤ w.heap.size) (hn : ns.length = n) (hm : ms.length = m) (hl : n ≤ 16777216) (hl' : m ≤ 16777216) :
    Calls Tryd.prog 35 #[.slice A n c, .slice A' m c'] w (TrimOut w (val ns * val ms)) := by
  have Hn := Lib.hid hn
  have Hm := Lib.hid hm
  clear hn hm
  go_enter Tryd.func35, Tryd.ntmps35
  go_wp2_with (at_make; refine wpList_make32 _ rfl _ _ _ rfl 46 Tryd.underlying22 info32 _ _ _ _ (n + m) rfl rfl (by omega) (by omega) (by omega) ?_; intro w1 hblk hbel hsz)
  go_loopw [18] (fun i wr => ∃ (k : Nat) (cs : List Nat), k ≤ n ∧ i = .int .i64 k ∧ Blk wr w.heap.size 46 cs ∧ Hid (cs.length = n + m) ∧ Wds cs ∧
      Hid (lo cs (k + m) = lo ns k * val ms) ∧ Hid (∀ j, k + m ≤ j → dg cs j = 0) ∧ Below w.heap.size w wr) (fun i _ => n - (intOf i).toNat)
  case atStart => exact ⟨0, _, Nat.zero_le _, rfl, hblk, Lib.hid (by simp), wds_replicate _, Lib.hid (by rw [lo_agree (b := []) _ (fun j _ => by rw [dg_replicate]; rfl), lo_all (by simp), lo_zero]; simp [val]), Lib.hid (fun j _ => dg_replicate _ _), hbel⟩
  case round =>
    obtain ⟨k, cs, hk, rfl, hb1, hcl, hcw, hv, hz, hbw⟩ := hrel
    clear hblk hbel hsz
    have hr := h.below (hbw.mono hB)
    have hr' := h'.below (hbw.mono hB')
    have hsz1 := hb1.lt
    by_cases hkn : k < n
    · obtain ⟨b, off, rfl, hb, hcell, hlt⟩ := hr.at_ (k := k) (by rw [Hn.out]; omega)
      have Hne : Hid (0 < m → ∀ a, A' = some a → a.block ≠ w.heap.size) := Lib.hid (fun hp a ha => by
        obtain ⟨b, off, hA, hb, _⟩ := h'.2 (by rw [Hm.out]; exact hp)
        rw [ha] at hA; injection hA with e; subst e; exact Nat.ne_of_lt (Nat.lt_of_lt_of_le hb hB'))
      obtain ⟨x, hx⟩ : ∃ x, x = dg ns k := ⟨_, rfl⟩
      rw [← hx] at hcell hlt
      have HX := Lib.hid hx
      clear hx
      go_wp2_with fail
      go_loopw [7, 23] (fun cv jv wi => ∃ (j carry : Nat) (ds : List Nat), j ≤ m ∧ carry < 4294967296 ∧ jv = .int .i64 j ∧ cv = .int .u64 carry ∧ Blk wi w.heap.size 46 ds ∧ Hid (ds.length = cs.length) ∧ Wds ds ∧
          Hid (∀ i, i < k ∨ k + j ≤ i → dg ds i = dg cs i) ∧ Hid (lo ds (k + j) + pw (k + j) * carry = lo cs (k + j) + pw k * (lo ms j * x)) ∧ Hid (wr.grownBy wi (some w.heap.size) ∧ wi.heap.size = wr.heap.size)) (fun _ i _ => m - (intOf i).toNat)
      case atStart => exact ⟨0, 0, cs, Nat.zero_le _, by omega, rfl, rfl, hb1, Lib.hid rfl, hcw, Lib.hid (fun _ _ => rfl), Lib.hid (by simp [lo_zero]), Lib.hid ⟨World.grownBy.refl wr _, rfl⟩⟩
      case round =>
        obtain ⟨j, carry, ds, hj, hcar, rfl, rfl, hb2, hdl, hdw, hsame, hval, hg⟩ := hrel
        clear hb1
        have hszi := hg.out.2
        have hbws := hbw.size
        by_cases hjm : j < m
        · have hr2 := hr'.grown hg.out.1 (by omega) (fun hp => Hne.out (by omega))
          obtain ⟨b', off', rfl, hbb, hcell', hlt'⟩ := hr2.at_ (k := j) (by rw [Hm.out]; omega)
          have hcn := (World.cell?_of_block (a := ⟨b, off + k, none⟩) (hg.out.1.block b (by omega) (by intro e; injection e; omega))).trans hcell
          have hcc := hb2.cell (i := k + j) (by rw [hdl.out, hcl.out]; omega)
          have hfr := hb2.frozen (k + j)
          have hdlt := dg_lt hdw (k + j)
          have Hd : Hid (dg ds (k + j) = dg cs (k + j)) := Lib.hid (hsame.out _ (.inr (Nat.le_refl _)))
          have Hst := fun (y d z z' : Nat) (e1 : y = dg ms j) (e2 : d = dg ds (k + j)) => addTimes_step (cs := ds) (o := k) (k := j) (c := carry) (lc := lo cs (k + j)) (lm := lo ms j) (x := x) (y := y) (d := d) (z := z) (z' := z') (by rw [hdl.out, hcl.out]; omega) hval.out
          have hset := fun v => hb2.set_ (i := k + j) v (by rw [hdl.out, hcl.out]; omega)
          obtain ⟨y, hy⟩ : ∃ y, y = dg ms j := ⟨_, rfl⟩
          obtain ⟨d, hd⟩ : ∃ d, d = dg ds (k + j) := ⟨_, rfl⟩
          have HY := Lib.hid hy
          have HD := Lib.hid hd
          have HST := Lib.hid (Hst y d (lo cs (k + j + 1)) (lo ms (j + 1)) hy hd (by rw [hd, Hd.out]; exact lo_succ _ _) (by rw [hy]; exact lo_succ _ _))
          have HSET := Lib.hid hset
          rw [← hy] at hcell' hlt'
          rw [← hd] at hcc hdlt Hd
          clear hy hd Hst hset
          obtain ⟨hxy1, hxy2⟩ := mul_word hlt hlt'
          obtain ⟨P, hP⟩ : ∃ P, P = x * y := ⟨_, rfl⟩
          have hPi : (x : Int) * (y : Int) = (P : Int) := by rw [hP]; simp
          rw [hPi] at hxy1 hxy2
          have hQ1 : IntKind.u64.wrap ((x : Int) * (y : Int)) = (P : Int) := by rw [hPi]; exact IntWalk.u64_in _ (by omega)
          obtain ⟨Q, hQ⟩ : ∃ Q, Q = P + d := ⟨_, rfl⟩
          have hQ2 : IntKind.u64.wrap ((P : Int) + (d : Int)) = (Q : Int) := by rw [show (P : Int) + (d : Int) = (Q : Int) by omega]; exact IntWalk.u64_in _ (by omega)
          obtain ⟨D, hD⟩ : ∃ D, D = Q + carry := ⟨_, rfl⟩
          have hQ3 : IntKind.u64.wrap ((Q : Int) + (carry : Int)) = (D : Int) := by rw [show (Q : Int) + (carry : Int) = (D : Int) by omega]; exact IntWalk.u64_in _ (by omega)
          have HDD : Hid (D = carry + (x * y + d)) := Lib.hid (by omega)
          have hDl : D ≤ 18446744073709551615 := by omega
          obtain ⟨R, hR⟩ : ∃ R, R = D % 4294967296 := ⟨_, rfl⟩
          have hRl : R < 4294967296 := by omega
          have hR1 : (D : Int) % 4294967296 = (R : Int) := by omega
          have HR := Lib.hid hR
          obtain ⟨C, hC⟩ : ∃ C, C = D / 4294967296 := ⟨_, rfl⟩
          have hCl : C < 4294967296 := by omega
          have hC1 : (D : Int) / 4294967296 = (C : Int) := by omega
          have HC := Lib.hid hC
          clear hP hQ hD hR hC hPi
          go_wp2_with fail
          go_quiet (fail)
          go_wp2_with fail
          go_roundw
          case rel =>
            refine ⟨j + 1, C, ds.set (k + j) R, by omega, hCl, by go_num, by go_num, HSET.out R, Lib.hid (by rw [List.length_set]; exact hdl.out), wds_set hdw _ hRl, Lib.hid ?_, Lib.hid ?_, Lib.hid ⟨grown_set (grown_drewN hg.out.1 _) _ _, by simp [World.drewN, hg.out.2]⟩⟩
            · intro i hi
              rw [dg_set _ (by rw [hdl.out, hcl.out]; omega), if_neg (by omega)]
              exact hsame.out i (by omega)
            · have := HST.out
              rw [← HDD.out, ← HR.out, ← HC.out] at this
              exact this
          case measure => simp [intOf]; omega
        · obtain rfl : j = m := by omega
          have hcc := hb2.cell (i := k + j) (by rw [hdl.out, hcl.out]; omega)
          have hfr := hb2.frozen (k + j)
          have hkl : Hid (k + j < ds.length) := Lib.hid (by rw [hdl.out, hcl.out]; omega)
          have hset := Lib.hid (hb2.set_ (i := k + j) carry hkl.out)
          go_wp2_with fail
          go_roundw
          case rel =>
            refine ⟨k + 1, ds.set (k + j) carry, by omega, by go_num, hset.out, Lib.hid (by rw [List.length_set, hdl.out]; exact hcl.out), wds_set hdw _ hcar, Lib.hid ?_, Lib.hid ?_, (below_of_grown hbw hg.out.1 (by omega) (Nat.le_refl _)).setCell (Nat.le_refl _) _⟩
            · rw [show k + 1 + j = k + j + 1 by omega]
              refine mult_step hkl.out hv.out ?_ (by rw [lo_succ, ← HX.out])
              rw [hval.out, lo_all (l := ms) (by rw [Hm.out]; exact Nat.le_refl _)]
            · intro i hi
              rw [dg_set _ hkl.out, if_neg (by omega), hsame.out i (by omega)]
              exact hz.out i (by omega)
          case measure => simp [intOf]; omega
    · obtain rfl : k = n := by omega
      have HV : Hid (val cs = val ns * val ms) := Lib.hid (by
        have e := hv.out
        rwa [lo_all (by rw [hcl.out]; exact Nat.le_refl _), lo_all (l := ns) (by rw [Hn.out]; exact Nat.le_refl _)] at e)
      go_wp2_with fail
      refine (reftrim_any _ cs _ _ _ _ (hb1.rd hcw) (Nat.le_refl _) hcl.out (by omega)).mono ?_
      rintro e w3 ⟨g, c6, rfl, hc6, hg6, hblk, hb6⟩
      rw [HV.out] at hc6 hblk
      rw [HV.out]
      have hb7 := below_next hbw hb6 (Nat.le_refl _)
      have hsz := hbw.size
      clear hr hr' hb1
      go_wp2_with fail
      go_ret
      exact ⟨g, c6, rfl, hc6, Nat.le_trans hsz hg6, hblk, hb7⟩
end Go.Proofs.YtobffffcihlkbaaDoor
