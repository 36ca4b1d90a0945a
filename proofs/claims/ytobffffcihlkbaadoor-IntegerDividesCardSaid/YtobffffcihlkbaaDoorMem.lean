/- Slices of words in memory: a slice that reads as a list of words; a block that is known whole. -/
import Derived.Test.YtobffffcihlkbaaDoorNum
import Derived.WalkKit
import Derived.WalkSpells
import Derived.WalkLawsBesides
import Derived.Lib.Hide
import Derived.Deep.Draws
import Derived.Deep.QuietTactic
import Derived.BigQuiet
import Derived.Laws.Rows
import Derived.Laws.MakeOwn
import Derived.Handy
namespace Lw
open Go Go.RowKit

/-- The slice with address A reads as the words ns; it lies below block B. -/
def Rd (w : World) (B : Nat) (A : Option Addr) (ns : List Nat) : Prop :=
  Wds ns ∧ (0 < ns.length → ∃ b off, A = some ⟨b, off, none⟩ ∧ b < B ∧ ∀ j, j < ns.length → w.cell? ⟨b, off + j, none⟩ = some (.int .u32 (dg ns j : Int)))

section
variable {w w' : World} {B B' : Nat} {A : Option Addr} {ns : List Nat}
theorem Rd.wds (h : Rd w B A ns) : Wds ns := h.1
theorem Rd.at_ (h : Rd w B A ns) {k : Nat} (hk : k < ns.length) :
    ∃ b off, A = some ⟨b, off, none⟩ ∧ b < B ∧ w.cell? ⟨b, off + k, none⟩ = some (.int .u32 (dg ns k : Int)) ∧ dg ns k < 4294967296 := by
  obtain ⟨b, off, hA, hb, hc⟩ := h.2 (by omega)
  exact ⟨b, off, hA, hb, hc k hk, dg_lt h.1 k⟩
theorem Rd.nil_ (w : World) (B : Nat) (A : Option Addr) : Rd w B A [] := ⟨wds_nil, fun h => absurd h (by simp)⟩
theorem Rd.keep (h : Rd w B A ns) (hk : ∀ p : Addr, p.block < B → w'.cell? p = w.cell? p) : Rd w' B A ns :=
  ⟨h.1, fun hn => by
    obtain ⟨b, off, hA, hb, hc⟩ := h.2 hn
    exact ⟨b, off, hA, hb, fun j hj => (hk _ (by exact hb)).trans (hc j hj)⟩⟩
theorem Rd.more (h : Rd w B A ns) (hB : B ≤ B') : Rd w B' A ns :=
  ⟨h.1, fun hn => by
    obtain ⟨b, off, hA, hb, hc⟩ := h.2 hn
    exact ⟨b, off, hA, by omega, hc⟩⟩
theorem Rd.below (h : Rd w B A ns) (hb : Below B w w') : Rd w' B A ns := h.keep fun _ hp => hb.cell hp
theorem Rd.drew (h : Rd w B A ns) : Rd w.drew B A ns := h
theorem Rd.drewN (h : Rd w B A ns) (k : Nat) : Rd (w.drewN k) B A ns := h
theorem Rd.alloc (h : Rd w B A ns) (hB : B ≤ w.heap.size) (o : Obj) : Rd (w.alloc o) B A ns := h.keep fun p hp => World.cell?_alloc_lt w o p (by omega)
theorem Rd.setCell (h : Rd w B A ns) {p : Addr} (hB : B ≤ p.block) (u : Value) : Rd (w.setCell p u) B A ns :=
  h.keep fun q hq => World.cell?_setCell_other w p q u (fun e => by subst e; omega)
theorem Rd.take (h : Rd w B A ns) (k : Nat) : Rd w B A (ns.take k) :=
  ⟨wds_take h.1 k, fun hn => by
    rw [List.length_take] at hn
    obtain ⟨b, off, hA, hb, hc⟩ := h.2 (by omega)
    refine ⟨b, off, hA, hb, fun j hj => ?_⟩
    rw [List.length_take] at hj
    rw [dg_take (by omega)]
    exact hc j (by omega)⟩
theorem Rd.drop (h : Rd w B A ns) {k : Nat} {b off : Nat} (hA : A = some ⟨b, off, none⟩) : Rd w B (some ⟨b, off + k, none⟩) (ns.drop k) :=
  ⟨wds_drop h.1 k, fun hn => by
    rw [List.length_drop] at hn
    obtain ⟨b', off', hA', hb, hc⟩ := h.2 (by omega)
    rw [hA] at hA'
    injection hA' with e
    injection e with e1 e2
    subst e1 e2
    refine ⟨b, off + k, rfl, hb, fun j hj => ?_⟩
    rw [List.length_drop] at hj
    rw [dg_drop, Nat.add_assoc]
    exact hc (k + j) (by omega)⟩
/-- The trimmed list is a piece from the head. -/
theorem digs_prefix {l : List Nat} (h : Wds l) : digs (val l) = l.take (digs (val l)).length := by
  have hlen : (digs (val l)).length ≤ l.length := digs_length_le (val_lt h)
  generalize hm : (digs (val l)).length = m at *
  have h1 := val_split l m
  rw [Nat.min_eq_left hlen] at h1
  have hlt : val l < pw m := by
    have := val_lt (wds_digs (val l))
    rw [val_digs, hm] at this
    exact this
  have h0 : val (l.drop m) = 0 := by
    rcases Nat.eq_zero_or_pos (val (l.drop m)) with h0 | h0
    · exact h0
    · have := Nat.mul_le_mul_left (pw m) h0
      omega
  rw [h0, Nat.mul_zero, Nat.add_zero] at h1
  have ht : Trm (l.take m) := by
    intro x hx hx0
    subst hx0
    have hm0 : 0 < m := by
      rcases Nat.eq_zero_or_pos m with e | e
      · subst e; simp at hx
      · exact e
    have e1 : (l.take m).length = m := by rw [List.length_take]; omega
    have e2 : dg (l.take m) (m - 1) = 0 := by
      rw [List.getLast?_eq_getElem?, e1] at hx
      unfold dg
      rw [List.getD_eq_getElem?_getD, hx]; rfl
    have e3 := val_of_zero_last (l := l.take m) (by omega) (by rw [e1]; exact e2)
    rw [e1, List.take_take, Nat.min_eq_left (by omega)] at e3
    have e4 := val_lt (wds_take h (m - 1))
    have e5 : (l.take (m - 1)).length = m - 1 := by rw [List.length_take]; omega
    rw [e5, e3] at e4
    have e6 := digs_length_le (n := val l) (k := m - 1) (by rw [h1]; exact e4)
    omega
  rw [h1]
  exact digs_val (wds_take h m) ht
theorem Rd.digs (h : Rd w B A ns) : Rd w B A (digs (val ns)) := by
  rw [digs_prefix h.1]; exact h.take _

/-! ### A block that begins with known words. -/
def arr (ns : List Nat) : List Value := ns.map fun n : Nat => Value.int .u32 (n : Int)
theorem length_arr (ns : List Nat) : (arr ns).length = ns.length := by simp [arr]
theorem arr_get? (ns : List Nat) (j : Nat) (h : j < ns.length) : (arr ns)[j]? = some (.int .u32 (dg ns j : Int)) := by
  simp [arr, dg_get? h]
theorem arr_set (ns : List Nat) (j v : Nat) : (arr ns).set j (.int .u32 (v : Int)) = arr (ns.set j v) := by
  simp [arr, List.map_set]
/-- Block g begins with the words ns (what lies behind them is left open); its element type is t, none of its cells is frozen. -/
def Blk (w : World) (g : Nat) (t : TypeId) (ns : List Nat) : Prop := ∃ rest : List Value, w.heap[g]? = some (.cells (arr ns ++ rest).toArray t (0, 0))
variable {g : Nat} {t : TypeId}
theorem Blk.lt (h : Blk w g t ns) : g < w.heap.size := by
  rcases Nat.lt_or_ge g w.heap.size with hlt | hge
  · exact hlt
  · obtain ⟨rest, h⟩ := h; rw [Array.getElem?_eq_none hge] at h; cases h
theorem Blk.cell (h : Blk w g t ns) {i : Nat} (hi : i < ns.length) : w.cell? ⟨g, i, none⟩ = some (.int .u32 (dg ns i : Int)) := by
  obtain ⟨rest, h⟩ := h
  rw [cell_of_row w g i _ t (0, 0) h]
  simp only [List.getElem?_toArray]
  rw [List.getElem?_append_left (by rw [length_arr]; exact hi), arr_get? ns i hi]
theorem Blk.frozen (h : Blk w g t ns) (i : Nat) : w.frozen? ⟨g, i, none⟩ = false := by
  obtain ⟨rest, h⟩ := h
  simp [World.frozen?, h]
theorem Blk.drew (h : Blk w g t ns) : Blk w.drew g t ns := h
theorem Blk.drewN (h : Blk w g t ns) (n : Nat) : Blk (w.drewN n) g t ns := h
theorem Blk.of_same (h : Blk w g t ns) (e : w'.heap[g]? = w.heap[g]?) : Blk w' g t ns := by obtain ⟨rest, h⟩ := h; exact ⟨rest, e.trans h⟩
theorem Blk.alloc (h : Blk w g t ns) (o : Obj) : Blk (w.alloc o) g t ns := h.of_same (Below.heap_alloc w o g h.lt)
theorem Blk.set_ (h : Blk w g t ns) {i : Nat} (v : Nat) (hi : i < ns.length) : Blk (w.setCell ⟨g, i, none⟩ (.int .u32 (v : Int))) g t (ns.set i v) := by
  obtain ⟨rest, h⟩ := h
  refine ⟨rest, ?_⟩
  rw [← arr_set, ← List.set_append_left _ _ (by rw [length_arr]; exact hi)]
  simp [World.setCell, Array.getElem?_modify, h]
theorem Blk.far (h : Blk w g t ns) {p : Addr} (hp : g ≠ p.block) (u : Value) : Blk (w.setCell p u) g t ns := h.of_same (Below.heap_setCell w p u g hp)
theorem Blk.below {B : Nat} (h : Blk w g t ns) (hb : Below B w w') (hg : g < B) : Blk w' g t ns := h.of_same (hb.block g hg)
theorem Blk.rd (h : Blk w g t ns) (hw : Wds ns) : Rd w w.heap.size (some ⟨g, 0, none⟩) ns :=
  ⟨hw, fun _ => ⟨g, 0, rfl, h.lt, fun j hj => by rw [Nat.zero_add]; exact h.cell hj⟩⟩
theorem Blk.rdAt (h : Blk w g t ns) (hw : Wds ns) (k m : Nat) (hm : k + m ≤ ns.length) : Rd w w.heap.size (some ⟨g, k, none⟩) ((ns.drop k).take m) :=
  ⟨wds_take (wds_drop hw k) m, fun _ => ⟨g, k, rfl, h.lt, fun j hj => by
    rw [List.length_take, List.length_drop] at hj
    rw [dg_take (by omega), dg_drop]; exact h.cell (by omega)⟩⟩
end
end Lw
