/- Walks of integer: addTimes, multiply. -/
import Derived.Test.YtobffffcihlkbaaDoorAdd
namespace Lw
open Go Go.RowKit
theorem mul_word {x y : Nat} (hx : x < 4294967296) (hy : y < 4294967296) : (0 : Int) ≤ (x : Int) * (y : Int) ∧ (x : Int) * (y : Int) ≤ 18446744065119617025 := by
  have h : x * y ≤ 4294967295 * 4294967295 := Nat.mul_le_mul (by omega) (by omega)
  have e : ((x * y : Nat) : Int) = (x : Int) * (y : Int) := Int.natCast_mul x y
  omega
theorem addTimes_step {cs : List Nat} {o k c lc lm x y d z z' : Nat} (h : o + k < cs.length) (hv : lo cs (o + k) + pw (o + k) * c = lc + pw o * (lm * x))
    (hz : z = lc + pw (o + k) * d) (hz' : z' = lm + pw k * y) :
    lo (cs.set (o + k) ((c + (x * y + d)) % 4294967296)) (o + k + 1) + pw (o + k + 1) * ((c + (x * y + d)) / 4294967296) = z + pw o * (z' * x) := by
  rw [put_carry h hv rfl, hz, hz', pw_add]
  generalize pw o = a
  generalize pw k = b
  grind
theorem lo_agree {a b : List Nat} (k : Nat) (h : ∀ j, j < k → dg a j = dg b j) : lo a k = lo b k := by
  induction k with
  | zero => rw [lo_zero, lo_zero]
  | succ k ih => rw [lo_succ, lo_succ, ih (fun j hj => h j (by omega)), h k (by omega)]
theorem grown_set {a w : World} {g : Nat} (h : a.grownBy w (some g)) (i : Nat) (u : Value) : a.grownBy (w.setCell ⟨g, i, none⟩ u) (some g) :=
  ⟨h.os, h.tape, h.output, by simpa [World.setCell] using h.size, fun j hj hne => (Below.heap_setCell w ⟨g, i, none⟩ u j (by rintro rfl; exact hne rfl)).trans (h.block j hj hne)⟩
theorem Rd.grown {w w' : World} {B g : Nat} {A : Option Addr} {ns : List Nat} (h : Rd w B A ns) (hg : w.grownBy w' (some g)) (hB : B ≤ w.heap.size) (hne : 0 < ns.length → ∀ a, A = some a → a.block ≠ g) : Rd w' B A ns :=
  ⟨h.1, fun hn => by
    obtain ⟨b, off, hA, hb, hc⟩ := h.2 hn
    refine ⟨b, off, hA, hb, fun j hj => ?_⟩
    rw [← hc j hj]
    exact World.cell?_of_block (hg.block b (by omega) (fun e => hne hn _ hA (by injection e)))⟩
end Lw
namespace Go.Proofs.YtobffffcihlkbaaDoor
open Go Go.RowKit Lw
set_option maxHeartbeats 800000 in
theorem addTimes_any (g o x : Nat) (A' : Option Addr) (cs ms : List Nat) (m c c' B' : Nat) (w : World) (hb : Blk w g 46 cs) (hcw : Wds cs) (h' : Rd w B' A' ms) (hB' : B' ≤ w.heap.size)
    (hne : 0 < m → ∀ a, A' = some a → a.block ≠ g) (hm : ms.length = m) (hl : m ≤ 16777216) (hl' : cs.length ≤ 1099511627776) (ho : o + m ≤ cs.length) (hx : x < 4294967296) :
    Calls Tryd.prog 74 #[.slice (some ⟨g, o, none⟩) m c, .slice A' m c', .int .u32 x] w fun e w' => ∃ (carry : Nat) (ds : List Nat), e = .returned (.int .u32 carry) ∧ carry < 4294967296 ∧ Blk w' g 46 ds ∧
      ds.length = cs.length ∧ Wds ds ∧ (∀ j, j < o ∨ o + m ≤ j → dg ds j = dg cs j) ∧ lo ds (o + m) + pw (o + m) * carry = lo cs (o + m) + pw o * (val ms * x) ∧ w.grownBy w' (some g) ∧ w'.heap.size = w.heap.size := by
  have Hm := Lib.hid hm
  clear hm
  go_enter Tryd.func74, Tryd.ntmps74
  go_wp2
  go_loopw [7, 12] (fun v i wr => ∃ (k carry : Nat) (ds : List Nat), k ≤ m ∧ carry < 4294967296 ∧ i = .int .i64 k ∧ v = .int .u64 carry ∧ Blk wr g 46 ds ∧ Hid (ds.length = cs.length) ∧ Wds ds ∧
      Hid (∀ j, j < o ∨ o + k ≤ j → dg ds j = dg cs j) ∧ Hid (lo ds (o + k) + pw (o + k) * carry = lo cs (o + k) + pw o * (lo ms k * x)) ∧ Hid (w.grownBy wr (some g) ∧ wr.heap.size = w.heap.size)) (fun _ i _ => m - (intOf i).toNat)
  case atStart => exact ⟨0, 0, cs, Nat.zero_le _, by omega, rfl, rfl, hb, Lib.hid rfl, hcw, Lib.hid (fun _ _ => rfl), Lib.hid (by simp [lo_zero]), Lib.hid ⟨World.grownBy.refl w _, rfl⟩⟩
  case round =>
    obtain ⟨k, carry, ds, hk, hcar, rfl, rfl, hb1, hdl, hdw, hsame, hv, hg⟩ := hrel
    clear hb
    by_cases hkm : k < m
    · have hr := h'.grown hg.out.1 hB' (fun hp => hne (by omega))
      obtain ⟨b, off, rfl, hbb, hcell, hlt⟩ := hr.at_ (k := k) (by rw [Hm.out]; omega)
      have hcc := hb1.cell (i := o + k) (by rw [hdl.out]; omega)
      have hdlt := dg_lt hdw (o + k)
      have hfr := hb1.frozen (o + k)
      have hxy := mul_word hx hlt
      obtain ⟨hxy1, hxy2⟩ := hxy
      clear hne
      go_wp2
      have hN : x * dg ms k ≤ 18446744065119617025 := by have := Int.natCast_mul x (dg ms k); omega
      have hd : dg ds (o + k) = dg cs (o + k) := hsame.out _ (.inr (Nat.le_refl _))
      go_roundw
      case rel =>
        refine ⟨k + 1, (carry + (x * dg ms k + dg ds (o + k))) / 4294967296, ds.set (o + k) ((carry + (x * dg ms k + dg ds (o + k))) % 4294967296), by omega, by omega, by go_num, ?_, hb1.setI (by rw [hdl.out]; omega) ?_, Lib.hid (by rw [List.length_set]; exact hdl.out), wds_set hdw _ (Nat.mod_lt _ (by omega)), Lib.hid ?_, Lib.hid ?_, Lib.hid ⟨grown_set hg.out.1 _ _, by simp [hg.out.2]⟩⟩
        · rw [show ((carry : Int) + ((x : Int) * (dg ms k : Int) + (dg ds (o + k) : Int))) = ((carry + (x * dg ms k + dg ds (o + k)) : Nat) : Int) by simp]; rfl
        · rw [show ((carry : Int) + ((x : Int) * (dg ms k : Int) + (dg ds (o + k) : Int))) = ((carry + (x * dg ms k + dg ds (o + k)) : Nat) : Int) by simp]; rfl
        · intro j hj
          rw [dg_set _ (by rw [hdl.out]; omega), if_neg (by omega)]
          exact hsame.out j (by omega)
        · rw [show o + (k + 1) = o + k + 1 from rfl]
          rw [addTimes_step (z := lo cs (o + k + 1)) (z' := lo ms (k + 1)) (by rw [hdl.out]; omega) hv.out (by rw [hd]; exact lo_succ _ _) (lo_succ _ _)]
      case measure => simp [intOf]; omega
    · obtain rfl : k = m := by omega
      go_wp2
      go_ret
      exact ⟨carry, ds, rfl, hcar, hb1, hdl.out, hdw, hsame.out, by rw [hv.out, lo_all (l := ms) (by rw [Hm.out]; exact Nat.le_refl _)], hg.out.1, hg.out.2⟩
end Go.Proofs.YtobffffcihlkbaaDoor
/-! Walk of integer.multiply. -/
namespace Lw
open Go Go.RowKit
theorem mult_step {cs ds : List Nat} {k m v x l l' r : Nat} (hm : k + m < ds.length) (hv : lo cs (k + m) = l * v) (hd : lo ds (k + m) + pw (k + m) * r = lo cs (k + m) + pw k * (v * x)) (hl : l' = l + pw k * x) :
    lo (ds.set (k + m) r) (k + m + 1) = l' * v := by
  rw [lo_put _ hm, hd, hv, hl, Nat.add_mul, Nat.mul_assoc, Nat.mul_comm v x]
theorem below_of_grown {a w w' : World} {B g : Nat} (h : Below B a w) (hg : w.grownBy w' (some g)) (hB : B ≤ w.heap.size) (hgB : B ≤ g) : Below B a w' :=
  h.grown hg hB (fun k hk => by injection hk with e; omega)
end Lw
namespace Go.Proofs.YtobffffcihlkbaaDoor
open Go Go.RowKit Lw
end Go.Proofs.YtobffffcihlkbaaDoor
