/- Walks of integer: appendGroup, appendDigits, Text. -/
import Derived.Test.YtobffffcihlkbaaDoorDivide
namespace Lw
open Go Go.RowKit
/-- The last k decimal digits of g. -/
def padK : Nat → Nat → List UInt8
  | 0, _ => []
  | k + 1, g => padK k (g / 10) ++ [UInt8.ofNat (48 + g % 10)]
theorem padK_length (k g : Nat) : (padK k g).length = k := by
  induction k generalizing g with
  | zero => rfl
  | succ k ih => rw [padK, List.length_append, ih]; rfl
theorem dec_pad (k q g : Nat) (hq : 0 < q) (hg : g < 10 ^ k) : Lib.decDigits (q * 10 ^ k + g) = Lib.decDigits q ++ padK k g := by
  induction k generalizing g with
  | zero =>
    have : g = 0 := by simpa using hg
    subst this
    simp [padK]
  | succ k ih =>
    have hp : q * 10 ^ (k + 1) = q * 10 ^ k * 10 := by rw [Nat.pow_succ, Nat.mul_assoc]
    have h1 : 1 ≤ q * 10 ^ k := Nat.mul_pos hq (Nat.pow_pos (by omega))
    rw [Lib.decDigits, dif_neg (by rw [hp]; omega), show (q * 10 ^ (k + 1) + g) / 10 = q * 10 ^ k + g / 10 by rw [hp]; omega, show (q * 10 ^ (k + 1) + g) % 10 = g % 10 by rw [hp]; omega,
      ih (g / 10) (by rw [Nat.pow_succ] at hg; omega), padK, List.append_assoc]
def tl (gs : List Nat) : List UInt8 := (gs.reverse.map (padK 9)).flatten
theorem tl_nil : tl [] = [] := rfl
theorem tl_snoc (gs : List Nat) (g : Nat) : tl (gs ++ [g]) = padK 9 g ++ tl gs := by simp [tl]
theorem tl_cons (gs : List Nat) (g : Nat) : tl (g :: gs) = tl gs ++ padK 9 g := by simp [tl]
theorem byteCells_snoc (l : List UInt8) (b : UInt8) : Lib.byteCells (l ++ [b]) = Lib.byteCells l ++ [.int .u8 (b.toNat : Int)] := by simp [Lib.byteCells]
theorem digit_cell {d : Nat} (h : d < 10) : ((UInt8.ofNat (48 + d)).toNat : Int) = 48 + (d : Int) := by
  have : (UInt8.ofNat (48 + d)).toNat = 48 + d := by
    rw [UInt8.toNat_ofNat']; omega
  omega
/-- The unit of place i of nine. -/
def unitAt (i u : Nat) : Prop := (i ≤ 8 ∧ u = 10 ^ (8 - i)) ∨ (i = 9 ∧ u = 0)
theorem unit_start : unitAt 0 100000000 := .inl ⟨by omega, by rfl⟩
theorem unit_end {i : Nat} (h : unitAt i 0) : i = 9 := by
  rcases h with ⟨h, h1⟩ | ⟨h, _⟩
  · have : 0 < 10 ^ (8 - i) := Nat.pow_pos (by omega)
    omega
  · exact h
theorem unit_step {i u : Nat} (h : unitAt i u) (hu : u ≠ 0) : unitAt (i + 1) (u / 10) ∧ i ≤ 8 := by
  rcases h with ⟨h, h1⟩ | ⟨h, h1⟩
  · refine ⟨?_, h⟩
    rcases Nat.lt_or_ge i 8 with h2 | h2
    · left
      refine ⟨by omega, ?_⟩
      rw [h1, show 8 - i = (8 - (i + 1)) + 1 by omega, Nat.pow_succ, Nat.mul_div_cancel _ (by omega)]
    · obtain rfl : i = 8 := by omega
      right
      exact ⟨rfl, by rw [h1]⟩
  · exact absurd h1 hu
theorem pad_step {i u g : Nat} (h : unitAt i u) (hu : u ≠ 0) : padK (i + 1) (g / 10 ^ (9 - (i + 1))) = padK i (g / 10 ^ (9 - i)) ++ [UInt8.ofNat (48 + g / u % 10)] := by
  rcases h with ⟨h, h1⟩ | ⟨h, h1⟩
  · rw [padK, show 9 - (i + 1) = 8 - i by omega, ← h1, Nat.div_div_eq_div_mul, h1, show 9 - i = (8 - i) + 1 by omega, Nat.pow_succ]
  · exact absurd h1 hu
theorem pad_all {g : Nat} : padK 9 (g / 10 ^ (9 - 9)) = padK 9 g := by simp
theorem pad_none {g : Nat} : padK 0 (g / 10 ^ (9 - 0)) = [] := rfl
end Lw
namespace Go.Proofs.YtobffffcihlkbaaDoor
open Go Go.RowKit Lw
theorem info8 : (Tryd.prog.info? 5).map (fun i => (i.zero, i.size, i.bytes)) = some (some (.int .u8 0), 1, 1) := by kernel_rfl
set_option maxRecDepth 100000 in
set_option maxHeartbeats 1600000 in
theorem appendGroup_any (Bt g : Nat) (l : List UInt8) (v : Value) (n : Nat) (w : World) (hown : w.ownsRow Bt 5 1 v n (Lib.byteCells l)) (hB : Bt ≤ w.heap.size) (hn : n ≤ 1099511627776) (hg : g ≤ 4294967295) :
    Calls Tryd.prog 65 #[v, .int .u32 g] w fun e w' => ∃ v', e = .returned v' ∧ w'.ownsRow Bt 5 1 v' (n + 9) (Lib.byteCells (l ++ padK 9 g)) ∧ Below Bt w w' ∧ Lib.OthersKept 5 none w w' := by
  obtain ⟨i0, hi0, hz0, hz1, hz2⟩ := info_parts info8
  go_enter Tryd.func65, Tryd.ntmps65
  go_wp2_with fail
  go_loopw [0, 5] (fun tv uv wr => ∃ (i u : Nat), i ≤ 9 ∧ u ≤ 100000000 ∧ uv = .int .u32 u ∧ Hid (unitAt i u) ∧ wr.ownsRow Bt 5 1 tv (n + i) (Lib.byteCells (l ++ padK i (g / 10 ^ (9 - i)))) ∧ Below Bt w wr ∧ Lib.OthersKept 5 none w wr) (fun _ uv _ => (intOf uv).toNat)
  case atStart => exact ⟨0, 100000000, by omega, by omega, rfl, Lib.hid unit_start, by rw [pad_none, List.append_nil]; exact hown, Below.refl _ _, Lib.OthersKept.refl _ _ _⟩
  case round =>
    obtain ⟨i, u, hi, hu, rfl, hun, hown1, hb1, hk1⟩ := hrel
    clear hown
    by_cases h0 : u = 0
    · subst h0
      have h9 := unit_end hun.out
      subst h9
      rw [pad_all] at hown1
      go_wp2_with fail
      go_ret
      exact ⟨_, rfl, hown1, hb1, hk1⟩
    · have hst := unit_step hun.out h0
      have HS := Lib.hid hst.1
      have HP := Lib.hid (pad_step (g := g) hun.out h0)
      have hi8 := hst.2
      have hu1 : 1 ≤ u := by omega
      have hq : IntKind.u32.wrap ((g : Int) / (u : Int)) = ((g / u : Nat) : Int) := by
        rw [← Int.natCast_ediv]
        exact IntWalk.u32_in _ (by have := Nat.div_le_self g u; generalize g / u = Q at *; omega)
      have hql : g / u ≤ 4294967295 := Nat.le_trans (Nat.div_le_self g u) hg
      clear hst h0 hun
      obtain ⟨Q, hQ⟩ : ∃ Q, Q = g / u := ⟨_, rfl⟩
      rw [← hQ] at hq hql HP
      clear hQ
      have hsz1 := hb1.size
      go_wp2_with (at_builtin; refine wpList_append_own _ rfl _ _ 62 rfl Bt 5 i0 _ 1 1 Tryd.underlying62 hi0 hz0 hz1 hz2 rfl (by decide) _ (n + i) _ rfl (hown1.alloc _) ⟨wr.heap.size, 0, none⟩ 1 1 [.int .u8 (48 + (Q : Int) % 10)] rfl rfl (World.news_of_block (cs := #[.int .u8 (48 + (Q : Int) % 10)]) (t := 5) (fr := (0, 0)) (heap_alloc_new wr _)) (by simp [Value.oneCell']) (by unfold maxLen; omega) (by omega) (by simp; omega) ?_; intro v' w1 hown2 hgrow2 hnil)
      have hgrow : (wr.alloc (.cells #[.int .u8 (48 + (Q : Int) % 10)] 5)).grownBy w1 u0.ownBlock := hgrow2
      have hd := digit_cell (d := Q % 10) (Nat.mod_lt _ (by omega))
      have HD : Hid ([Value.int .u8 (48 + (Q : Int) % 10)] = [Value.int .u8 ((UInt8.ofNat (48 + Q % 10)).toNat : Int)]) := Lib.hid (by rw [hd]; simp)
      clear hgrow2 hnil hd
      go_roundw
      case rel =>
        refine ⟨i + 1, u / 10, by omega, by omega, by go_num, HS, ?_, (hb1.alloc (by omega) _).grown hgrow (by simp; omega) (fun k hk => (hown1.lt k hk).1), (hk1.alloc _).grown hgrow (Lib.ownsRow_kind (hown1.alloc _))⟩
        rw [HP.out, ← List.append_assoc, byteCells_snoc, ← HD.out]
        exact hown2
      case measure => simp [intOf]; omega
end Go.Proofs.YtobffffcihlkbaaDoor
