/- Walks of integer: addTimes, multiply. -/
import Derived.Test.YtgpckcikkppfjaaDoorAdd
namespace Lw
open Go Go.RowKit
theorem mul_word {x y : Nat} (hx : x < 4294967296) (hy : y < 4294967296) : (0 : Int) ≤ (x : Int) * (y : Int) ∧ (x : Int) * (y : Int) ≤ 18446744065119617025 := by
  have h : x * y ≤ 4294967295 * 4294967295 := Nat.mul_le_mul (by omega) (by omega)
  have e : ((x * y : Nat) : Int) = (x : Int) * (y : Int) := Int.natCast_mul x y
  omega
theorem addTimes_step {cs : List Nat} {o k c lc lm x y d z z' : Nat} (h : o + k < cs.length) (hv : lo cs (o + k) + pw (o + k) * c = lc + pw o * (lm * x))
    (hz : z = lc + pw (o + k) * d) (hz' : z' = lm + pw k * y) :
    lo (cs.set (o + k) ((c + (x * y + d)) % 4294967296)) (o + k + 1) + pw (o + k + 1) * ((c + (x * y + d)) / 4294967296) = z + pw o * (z' * x) := by
  rw [put_carry h hv rfl, hz, hz', pw_add]
  generalize pw o = a
  generalize pw k = b
  grind
theorem lo_agree {a b : List Nat} (k : Nat) (h : ∀ j, j < k → dg a j = dg b j) : lo a k = lo b k := by
  induction k with
  | zero => rw [lo_zero, lo_zero]
  | succ k ih => rw [lo_succ, lo_succ, ih (fun j hj => h j (by omega)), h k (by omega)]
theorem grown_set {a w : World} {g : Nat} (h : a.grownBy w (some g)) (i : Nat) (u : Value) : a.grownBy (w.setCell ⟨g, i, none⟩ u) (some g) :=
  ⟨h.os, h.tape, h.output, by simpa [World.setCell] using h.size, fun j hj hne => (Below.heap_setCell w ⟨g, i, none⟩ u j (by rintro rfl; exact hne rfl)).trans (h.block j hj hne)⟩
theorem Rd.grown {w w' : World} {B g : Nat} {A : Option Addr} {ns : List Nat} (h : Rd w B A ns) (hg : w.grownBy w' (some g)) (hB : B ≤ w.heap.size) (hne : 0 < ns.length → ∀ a, A = some a → a.block ≠ g) : Rd w' B A ns :=
  ⟨h.1, fun hn => by
    obtain ⟨b, off, hA, hb, hc⟩ := h.2 hn
    refine ⟨b, off, hA, hb, fun j hj => ?_⟩
    rw [← hc j hj]
    exact World.cell?_of_block (hg.block b (by omega) (fun e => hne hn _ hA (by injection e)))⟩
end Lw
namespace Go.Proofs.YtgpckcikkppfjaaDoor
open Go Go.RowKit Lw
set_option maxHeartbeats 800000 in
theorem addTimes_any (g o x : Nat) (A' : Option Addr) (cs ms : List Nat) (m c c' B' : Nat) (w : World) (hb : Blk w g 51 cs) (hcw : Wds cs) (h' : Rd w B' A' ms) (hB' : B' ≤ w.heap.size)
    (hne : 0 < m → ∀ a, A' = some a → a.block ≠ g) (hm : ms.length = m) (hl : m ≤ 16777216) (hl' : cs.length ≤ 1099511627776) (ho : o + m ≤ cs.length) (hx : x < 4294967296) :
    Calls Tryd.prog 76 #[.slice (some ⟨g, o, none⟩) m c, .slice A' m c', .int .u32 x] w fun e w' => ∃ (carry : Nat) (ds : List Nat), e = .returned (.int .u32 carry) ∧ carry < 4294967296 ∧ Blk w' g 51 ds ∧
      ds.length = cs.length ∧ Wds ds ∧ (∀ j, j < o ∨ o + m ≤ j → dg ds j = dg cs j) ∧ lo ds (o + m) + pw (o + m) * carry = lo cs (o + m) + pw o * (val ms * x) ∧ w.grownBy w' (some g) ∧ w'.heap.size = w.heap.size := by
  have Hm := Lib.hid hm
  clear hm
  go_enter Tryd.func76, Tryd.ntmps76
  go_wp2
  go_loopw [7, 12] (fun v i wr => ∃ (k carry : Nat) (ds : List Nat), k ≤ m ∧ carry < 4294967296 ∧ i = .int .i64 k ∧ v = .int .u64 carry ∧ Blk wr g 51 ds ∧ Hid (ds.length = cs.length) ∧ Wds ds ∧
      Hid (∀ j, j < o ∨ o + k ≤ j → dg ds j = dg cs j) ∧ Hid (lo ds (o + k) + pw (o + k) * carry = lo cs (o + k) + pw o * (lo ms k * x)) ∧ Hid (w.grownBy wr (some g) ∧ wr.heap.size = w.heap.size)) (fun _ i _ => m - (intOf i).toNat)
  case atStart => exact ⟨0, 0, cs, Nat.zero_le _, by omega, rfl, rfl, hb, Lib.hid rfl, hcw, Lib.hid (fun _ _ => rfl), Lib.hid (by simp [lo_zero]), Lib.hid ⟨World.grownBy.refl w _, rfl⟩⟩
  case round =>
    obtain ⟨k, carry, ds, hk, hcar, rfl, rfl, hb1, hdl, hdw, hsame, hv, hg⟩ := hrel
    clear hb
    by_cases hkm : k < m
    · have hr := h'.grown hg.out.1 hB' (fun hp => hne (by omega))
      obtain ⟨b, off, rfl, hbb, hcell, hlt⟩ := hr.at_ (k := k) (by rw [Hm.out]; omega)
      have hcc := hb1.cell (i := o + k) (by rw [hdl.out]; omega)
      have hdlt := dg_lt hdw (o + k)
      have hfr := hb1.frozen (o + k)
      have hxy := mul_word hx hlt
      obtain ⟨hxy1, hxy2⟩ := hxy
      clear hne
      go_wp2
      have hN : x * dg ms k ≤ 18446744065119617025 := by have := Int.natCast_mul x (dg ms k); omega
      have hd : dg ds (o + k) = dg cs (o + k) := hsame.out _ (.inr (Nat.le_refl _))
      go_roundw
      case rel =>
        refine ⟨k + 1, (carry + (x * dg ms k + dg ds (o + k))) / 4294967296, ds.set (o + k) ((carry + (x * dg ms k + dg ds (o + k))) % 4294967296), by omega, by omega, by go_num, ?_, hb1.setI (by rw [hdl.out]; omega) ?_, Lib.hid (by rw [List.length_set]; exact hdl.out), wds_set hdw _ (Nat.mod_lt _ (by omega)), Lib.hid ?_, Lib.hid ?_, Lib.hid ⟨grown_set hg.out.1 _ _, by simp [hg.out.2]⟩⟩
        · rw [show ((carry : Int) + ((x : Int) * (dg ms k : Int) + (dg ds (o + k) : Int))) = ((carry + (x * dg ms k + dg ds (o + k)) : Nat) : Int) by simp]; rfl
        · rw [show ((carry : Int) + ((x : Int) * (dg ms k : Int) + (dg ds (o + k) : Int))) = ((carry + (x * dg ms k + dg ds (o + k)) : Nat) : Int) by simp]; rfl
        · intro j hj
          rw [dg_set _ (by rw [hdl.out]; omega), if_neg (by omega)]
          exact hsame.out j (by omega)
        · rw [show o + (k + 1) = o + k + 1 from rfl]
          rw [addTimes_step (z := lo cs (o + k + 1)) (z' := lo ms (k + 1)) (by rw [hdl.out]; omega) hv.out (by rw [hd]; exact lo_succ _ _) (lo_succ _ _)]
      case measure => simp [intOf]; omega
    · obtain rfl : k = m := by omega
      go_wp2
      go_ret
      exact ⟨carry, ds, rfl, hcar, hb1, hdl.out, hdw, hsame.out, by rw [hv.out, lo_all (l := ms) (by rw [Hm.out]; exact Nat.le_refl _)], hg.out.1, hg.out.2⟩
end Go.Proofs.YtgpckcikkppfjaaDoor
/-! Walk of integer.multiply. -/
namespace Lw
open Go Go.RowKit
theorem mult_step {cs ds : List Nat} {k m v x l l' r : Nat} (hm : k + m < ds.length) (hv : lo cs (k + m) = l * v) (hd : lo ds (k + m) + pw (k + m) * r = lo cs (k + m) + pw k * (v * x)) (hl : l' = l + pw k * x) :
    lo (ds.set (k + m) r) (k + m + 1) = l' * v := by
  rw [lo_put _ hm, hd, hv, hl, Nat.add_mul, Nat.mul_assoc, Nat.mul_comm v x]
theorem below_of_grown {a w w' : World} {B g : Nat} (h : Below B a w) (hg : w.grownBy w' (some g)) (hB : B ≤ w.heap.size) (hgB : B ≤ g) : Below B a w' :=
  h.grown hg hB (fun k hk => by injection hk with e; omega)
end Lw
namespace Go.Proofs.YtgpckcikkppfjaaDoor
open Go Go.RowKit Lw
set_option maxHeartbeats 800000 in
theorem multiply_any (A A' : Option Addr) (ns ms : List Nat) (n m c c' B B' : Nat) (w : World) (h : Rd w B A ns) (h' : Rd w B' A' ms) (hB : B ≤ w.heap.size) (hB' : B' ≤ w.heap.size)
    (hn : ns.length = n) (hm : ms.length = m) (hl : n ≤ 16777216) (hl' : m ≤ 16777216) :
    Calls Tryd.prog 53 #[.slice A n c, .slice A' m c'] w (OutW w (val ns * val ms)) := by
  have Hn := Lib.hid hn
  have Hm := Lib.hid hm
  clear hn hm
  go_enter Tryd.func53, Tryd.ntmps53
  go_wp2_with (at_make; refine wpList_make32 _ rfl _ _ _ rfl 51 Tryd.underlying22 info32 _ _ _ _ (n + m) rfl rfl (by omega) (by omega) (by omega) ?_; intro w1 hblk hbel hsz)
  go_loopw [16] (fun i wr => ∃ (k : Nat) (cs : List Nat), k ≤ n ∧ i = .int .i64 k ∧ Blk wr w.heap.size 51 cs ∧ Hid (cs.length = n + m) ∧ Wds cs ∧
      Hid (lo cs (k + m) = lo ns k * val ms) ∧ Hid (∀ j, k + m ≤ j → dg cs j = 0) ∧ Below w.heap.size w wr) (fun i _ => n - (intOf i).toNat)
  case atStart => exact ⟨0, _, Nat.zero_le _, rfl, hblk, Lib.hid (by simp), wds_replicate _, Lib.hid (by rw [lo_agree (b := []) _ (fun j _ => by rw [dg_replicate]; rfl), lo_all (by simp), lo_zero]; simp [val]), Lib.hid (fun j _ => dg_replicate _ _), hbel⟩
  case round =>
    obtain ⟨k, cs, hk, rfl, hb1, hcl, hcw, hv, hz, hbw⟩ := hrel
    clear hblk hbel hsz
    have hr := h.below (hbw.mono hB)
    have hr' := h'.below (hbw.mono hB')
    have hsz1 := hb1.lt
    by_cases hkn : k < n
    · obtain ⟨b, off, rfl, hb, hcell, hlt⟩ := hr.at_ (k := k) (by rw [Hn.out]; omega)
      have Hne : Hid (0 < m → ∀ a, A' = some a → a.block ≠ w.heap.size) := Lib.hid (fun hp a ha => by
        obtain ⟨b, off, hA, hb, _⟩ := h'.2 (by rw [Hm.out]; exact hp)
        rw [ha] at hA; injection hA with e; subst e; exact Nat.ne_of_lt (Nat.lt_of_lt_of_le hb hB'))
      go_wp2_with fail
      refine (addTimes_any _ _ _ _ cs ms _ _ _ _ _ hb1 hcw hr' (by omega) Hne.out Hm.out (by omega) (by rw [hcl.out]; omega) (by rw [hcl.out]; omega) hlt).mono ?_
      rintro e w2 ⟨r, ds, rfl, hrl, hb2, hdl, hdw, hsame, hval, hg, hsz2⟩
      have hcc := hb2.cell (i := k + m) (by rw [hdl, hcl.out]; omega)
      have hfr := hb2.frozen (k + m)
      have Hdl := Lib.hid hdl
      have Hsame := Lib.hid hsame
      have Hval := Lib.hid hval
      have Hsz2 := Lib.hid hsz2
      clear hdl hsame hval hsz2
      go_wp2_with fail
      have hkl : k + m < ds.length := by rw [Hdl.out, hcl.out]; omega
      go_roundw
      case rel =>
        refine ⟨k + 1, ds.set (k + m) r, by omega, by go_num, hb2.set_ _ hkl, Lib.hid (by rw [List.length_set, Hdl.out]; exact hcl.out), wds_set hdw _ hrl, Lib.hid ?_, Lib.hid ?_, (below_of_grown hbw hg (by omega) (Nat.le_refl _)).setCell (Nat.le_refl _) _⟩
        · rw [show k + 1 + m = k + m + 1 by omega]
          exact mult_step hkl hv.out Hval.out (lo_succ _ _)
        · intro j hj
          rw [dg_set _ hkl, if_neg (by omega), Hsame.out j (by omega)]
          exact hz.out j (by omega)
      case measure => simp [intOf]; omega
    · obtain rfl : k = n := by omega
      have HV : Hid (val cs = val ns * val ms) := Lib.hid (by
        have e := hv.out
        rwa [lo_all (by rw [hcl.out]; exact Nat.le_refl _), lo_all (l := ns) (by rw [Hn.out]; exact Nat.le_refl _)] at e)
      go_wp2_with (go_at_call 58; refine (trim_any _ cs _ _ _ _ (hb1.rd hcw) hcl.out (Nat.le_refl _) (by omega)).mono ?_; rintro e w' ⟨rfl, rfl⟩)
      go_ret
      refine ⟨_, _, ret_slice (by rw [HV.out]), ?_, ?_, hbw⟩
      · have := digs_len_le hcw
        rw [HV.out, hcl.out] at this; exact this
      · have := (hb1.rd hcw).digs
        rw [HV.out] at this; exact this
end Go.Proofs.YtgpckcikkppfjaaDoor
