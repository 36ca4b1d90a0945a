/- make([]uint32, n), met as a block that is known whole. -/
import Derived.Test.YtajlehaminddiaaDoorWord
import Derived.OwnWalk
namespace Lw
open Go Go.RowKit
theorem madeCells_words (n : Nat) : madeCells #[Value.int .u32 0] n = (arr (List.replicate n 0)).toArray := by
  apply Array.toList_inj.1
  rw [toList_madeCells_one]
  simp [arr]
theorem Blk.new (w : World) (t : TypeId) (ns : List Nat) : Blk (w.alloc (.cells (arr ns).toArray t)) w.heap.size t ns := ⟨[], by rw [List.append_nil]; exact heap_alloc_new w _⟩
theorem Blk.setI {w : World} {g : Nat} {t : TypeId} {ns : List Nat} (h : Blk w g t ns) {i : Nat} (hi : i < ns.length) {z : Int} {v : Nat} (hz : z = (v : Int)) :
    Blk (w.setCell ⟨g, i, none⟩ (.int .u32 z)) g t (ns.set i v) := by subst hz; exact h.set_ v hi
theorem step_sum {p s : Nat} : p * (s % 4294967296) + 4294967296 * p * (s / 4294967296) = p * s := by
  have h := Nat.mod_add_div s 4294967296
  generalize s % 4294967296 = r at *
  generalize s / 4294967296 = q at *
  subst h
  rw [Nat.mul_add, Nat.mul_comm 4294967296 p, Nat.mul_assoc]
theorem lo_put {cs : List Nat} {k : Nat} (v : Nat) (h : k < cs.length) : lo (cs.set k v) (k + 1) = lo cs k + pw k * v := by
  rw [lo_succ, lo_set _ _ (Nat.le_refl _), dg_set v h, if_pos rfl]
theorem put_carry {cs : List Nat} {k s c z t : Nat} (h : k < cs.length) (hv : lo cs k + pw k * c = z) (hs : s = c + t) :
    lo (cs.set k (s % 4294967296)) (k + 1) + pw (k + 1) * (s / 4294967296) = z + pw k * t := by
  rw [lo_put _ h, pw_succ, Nat.add_assoc, step_sum, hs, Nat.mul_add]
  omega
theorem wpList_make32 {P : Program} (w : World) {ops : Array Oper} {rest : List Oper} {o : Oper} {a : Act} {Q : Exit → Act → World → Prop}
    (hg : o.guard = none) (l c : Operand) (t : TypeId) (hop : o.op = Op.makeSlice t l c)
    (e : TypeId) (h1 : P.underlying t = some (.slice e)) (hinfo : (P.info? e).map (fun i => (i.zero, i.size, i.bytes)) = some (some (.int .u32 0), 1, 4))
    (kl kc : IntKind) (L C : Int) (n : Nat) (hl : a.eval l = .int kl L) (hc : a.eval c = .int kc C) (hL : L = (n : Int)) (hC : C = (n : Int)) (hn : n ≤ 1099511627776)
    (hK : ∀ w', Blk w' w.heap.size e (List.replicate n 0) → Below w.heap.size w w' → w'.heap.size = w.heap.size + 1 → wpList P ops Q rest (a.put o.dst (.slice (some ⟨w.heap.size, 0, none⟩) n n)) w') :
    wpList P ops Q (o :: rest) a w := by
  obtain ⟨i, h2, h3, h4, h5⟩ := info_parts hinfo
  refine wpList_plain hg fun K hK' => ?_
  have hrun := run_make (P := P) w t e i _ h1 h2 h3 kl kc n n (by omega) (Int.le_refl _) (by rw [h5]; omega) (by omega)
  simp only [Int.toNat_natCast, h4, Nat.mul_one] at hrun
  rw [show (Value.int IntKind.u32 0).cells = #[Value.int .u32 0] from rfl, madeCells_words] at hrun
  subst hL
  subst hC
  unfold Oper.wp
  simp [execOp, hop, hl, hc, hrun, Result.andThen]
  exact hK' _ _ (hK _ (Blk.new _ _ _) ((Below.refl _ _).alloc (Nat.le_refl _) _) (by simp))
end Lw
namespace Go.Proofs.YtajlehaminddiaaDoor
open Go Go.RowKit Lw
theorem info32 : (Tryd.prog.info? 56).map (fun i => (i.zero, i.size, i.bytes)) = some (some (.int .u32 0), 1, 4) := by kernel_rfl
end Go.Proofs.YtajlehaminddiaaDoor
