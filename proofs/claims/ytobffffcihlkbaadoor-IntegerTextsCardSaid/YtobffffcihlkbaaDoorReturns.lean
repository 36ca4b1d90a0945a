/- Walk of the law IntegerReturns. -/
import Derived.Test.YtobffffcihlkbaaDoorEnvs
import Derived.Test.YtobffffcihlkbaaDoorBoxes
import Derived.Test.YtobffffcihlkbaaDoorParse
import Derived.Deep.RegionHeld3
namespace Lw
open Go Go.RowKit
theorem short_dec {z : Int} (h : z.natAbs < pw 30) : (Lib.decDigits z.natAbs).length ≤ 60000 := by
  have key : ∀ m, m = 300 → z.natAbs < 10 ^ m → (Lib.decDigits z.natAbs).length ≤ 300 := by
    intro m hm hz
    obtain ⟨k, rfl⟩ : ∃ k, m = k + 1 := ⟨m - 1, by omega⟩
    have := dec_len k _ hz
    omega
  have h1 : pw 30 < (10 ^ 10) ^ 30 := by unfold pw; exact Nat.pow_lt_pow_left (by decide) (by omega)
  rw [← Nat.pow_mul] at h1
  exact Nat.le_trans (key _ (by omega) (Nat.lt_trans h h1)) (by omega)
theorem cmp_self (x : Int) : cmpI x x = 0 := by unfold cmpI; simp
end Lw
namespace Go.Proofs.YtobffffcihlkbaaDoor
open Go Go.RowKit Lw
theorem text_env {t : TypeId} {W0 w : World} {bs : List Bx} {L : List En} {v : Value} {x : Int} {k : Nat} {b : Bool} (HE : Env t W0 w bs L) (h : ⟨v, x, k, b⟩ ∈ L) (hk : k ≤ 100000) (ht : Tab W0) :
    Calls Tryd.prog 17 #[v] w fun e w' => e = .returned (.string ⟨(Lib.itoa x).toArray⟩) ∧ Env t W0 w' bs L := by
  obtain ⟨s, A, n, c, ns, B, e1, h2, h3, h4, h5, h6, e7, h8⟩ := HE.ops _ h
  dsimp only at e1 e7 h5
  subst e1 e7
  exact (text_any s A ns n c B w h2 h3 h4 (by omega) h6 (ht.next HE.below)).mono fun e w' hh => ⟨hh.1, HE.next hh.2⟩
end Go.Proofs.YtobffffcihlkbaaDoor
