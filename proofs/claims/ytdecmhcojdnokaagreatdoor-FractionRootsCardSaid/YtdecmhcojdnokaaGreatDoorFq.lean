/- A region that draws its order and whose calls hand back plain values, walked once in the order of the text, over any class of worlds. -/
import Derived.Test.YtdecmhcojdnokaaGreatDoorFawake
import Derived.Deep.QuietTactic
namespace Lw
open Go Go.RowKit
/-- The lexical walk, shut: a goal that is not laid open by the way (operations that do not come up would be run through at each look). -/
structure WQ (P : Program) (ops : Array Oper) (C : World → Prop) (Q : Act → Prop) (l : List Oper) (a : Act) : Prop where
  out : wpQuiet P ops C Q l a
theorem WQ.nil {P : Program} {ops : Array Oper} {C : World → Prop} {Q : Act → Prop} {a : Act} (h : Q a) : WQ P ops C Q [] a := ⟨wpQuiet_nil h⟩
theorem WQ.step {P : Program} {ops : Array Oper} {C : World → Prop} {Q : Act → Prop} {a : Act} {o : Oper} {rest : List Oper}
    (h : ∀ K : Act → Prop, (∀ a, WQ P ops C Q rest a → K a) → if Region.wanted o (yielded ops a.tmps) then o.quiet P a C K else K (a.put o.dst undef)) : WQ P ops C Q (o :: rest) a :=
  ⟨wpQuiet_step fun K hK => h K fun a hh => hK a hh.out⟩
theorem quiet_in {P : Program} {C : World → Prop} {id : Nat} {Q : Exit → Act → World → Prop} {a : Act} {w : World} {l : List Oper} (hm : P.follows .mixedOrders = true) (hB : Region.lexB .any l.toArray = true) (hC : C w.drew)
    (h : WQ P l.toArray C (fun a' => ∀ w', C w' → Q .normal a' w') l a) : (Code.region id l.toArray true).wp P Q a w :=
  wp_region_quiet (C := C) hm hB hC (by simpa using h.out)
end Lw
namespace Go.Proofs.YtdecmhcojdnokaaGreatDoor
open Go Go.RowKit Lw
theorem fsame_c {W0 w : World} {bs : List Bx} {L : List En} {ts : List Bt} {M : List Qn} {v v' : Value} {q r : Rat} {k k' : Nat} (HE : FEnv W0 w bs L ts M) (h : ⟨v, q, k, true⟩ ∈ M) (h' : ⟨v', r, k', true⟩ ∈ M) (hk : k + k' ≤ 100000) :
    Calls Tryz.prog 21 #[v, v'] w fun e w' => e = .returned (.bool (cmpQ q r == 0)) ∧ FEnv W0 w' bs L ts M :=
  (fsame_v HE h h' hk).mono fun _ _ hh => ⟨by rw [hh.1, cmpQ_eqb], hh.2⟩
theorem fsign_z {W0 w : World} {bs : List Bx} {L : List En} {ts : List Bt} {M : List Qn} {v : Value} {k : Nat} {b : Bool} (HE : FEnv W0 w bs L ts M) (h : ⟨v, 0, k, b⟩ ∈ M) (hk : k ≤ 100000) :
    Calls Tryz.prog 32 #[v] w fun e w' => e = .returned (.int .i64 0) ∧ FEnv W0 w' bs L ts M :=
  (fsign_v HE h hk).mono fun _ _ hh => ⟨by rw [hh.1, sgQ_zero], hh.2⟩
end Go.Proofs.YtdecmhcojdnokaaGreatDoor
