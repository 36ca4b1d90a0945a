/- Flow: what the laws on fractions call besides; powers, the grid and roots in program and reference at once. -/
import Derived.Test.YtbihljnjaondcaaGreatDoorFgridr
namespace Go.Proofs.YtbihljnjaondcaaGreatDoor
open Go Go.RowKit Lw Flow
section
variable {W0 w : World} {U : List Box} {Ps : List (World → Prop)}
theorem St.same (HS : St W0 U Ps w) {f : FuncId} {vs : List Value} {u : Value} (h : Calls Tryz.prog f vs.toArray w (fun e w' => e = .returned u ∧ w = w')) : CallsV Tryz.prog f vs w (AnP W0 U Ps u) :=
  h.mono fun e w' hh => by
    obtain ⟨rfl, rfl⟩ := hh
    exact ⟨_, rfl, rfl, HS⟩
theorem St.belo (HS : St W0 U Ps w) {f : FuncId} {vs : List Value} {u : Value} (h : Calls Tryz.prog f vs.toArray w (fun e w' => e = .returned u ∧ Below w.heap.size w w')) : CallsV Tryz.prog f vs w (AnP W0 U Ps u) :=
  h.mono fun e w' hh => by
    obtain ⟨rfl, hb⟩ := hh
    exact ⟨_, rfl, rfl, HS.next hb⟩
theorem fawake_c (HT : Tz W0) (HB : Tab W0) (HX : Mx W0) (HS : St W0 U Ps w) : CallsV Tryz.prog 13 [] w (AnP W0 U Ps (.bool true)) :=
  St.belo HS (fawake_any w (HT.next HS.below) (HB.next HS.below) (HX.next HS.below))
theorem fshort_c (HS : St W0 U Ps w) (i : Nat) {g : Nat} {t : TypeId} {k : Nat} (L : List Fh) (hi : U[i]? = some ⟨g, t, fhs L⟩) (hk : L.length = k) (hs : k ≤ 16) : CallsV Tryz.prog 12 [.slice (some ⟨g, 0, none⟩) k k] w (AnP W0 U Ps (.bool (ffew L))) :=
  St.belo HS (fshort_any L g k t w (HS.box _ (List.mem_of_getElem? hi)) hk hs)
theorem numnil_c (HS : St W0 U Ps w) : CallsV Tryz.prog 20 [.nilIface] w (AnP W0 U Ps (.int .i64 0)) := St.same HS (numnil_any w)
theorem numerr_c (HS : St W0 U Ps w) (z : Int) : CallsV Tryz.prog 20 [.iface 74 (.int .i64 z)] w (AnP W0 U Ps (.int .i64 z)) := St.same HS (numerr_any z w)
/-- A zero beside an error. -/
theorem zeroE {f : FuncId} {vs : List Value} {er : Value} {k : Nat} (h : CallsV Tryz.prog f vs w (AnP W0 U Ps (.tuple #[.agg #[.bool false, .slice none 0 0, .slice none 0 0], er]))) : CallsV Tryz.prog f vs w (AnQE W0 U Ps 0 k er) :=
  Calls.mono h fun e w' hh => by
    obtain ⟨u, rfl, rfl, hs⟩ := hh
    exact ⟨_, rfl, _, _, _, _, _, _, _, rfl, hs.add (FV.stable _ _ _ _) (FV.zero k w')⟩
theorem AnQE.more {f : FuncId} {vs : List Value} {q r : Rat} {er : Value} {k K : Nat} (h : CallsV Tryz.prog f vs w (AnQE W0 U Ps q k er)) (hq : q = r) (hk : k ≤ K) : CallsV Tryz.prog f vs w (AnQE W0 U Ps r K er) :=
  Calls.mono h fun e w' hh => by
    subst hq
    obtain ⟨u, rfl, s, A, n, c, B, m, d, rfl, hs⟩ := hh
    exact ⟨_, rfl, _, _, _, _, _, _, _, rfl, hs.out 0 1 0 rfl rfl rfl (fun _ h => h.weak hk)⟩
theorem AnQE.of {f : FuncId} {vs : List Value} {er : Value} {q : Rat} {k : Nat} (HS : St W0 U Ps w) {L : List En} {M : List Qn} (h : Calls Tryz.prog f vs.toArray w (fun e w' => ∃ (s : Bool) (A : Option Addr) (n c : Nat) (A' : Option Addr) (n' c' : Nat), e = .returned (.tuple #[.agg #[.bool s, .slice A n c, .slice A' n' c'], er]) ∧ FEnv w w' [] L [] (⟨.agg #[.bool s, .slice A n c, .slice A' n' c'], q, k, true⟩ :: M))) : CallsV Tryz.prog f vs w (AnQE W0 U Ps q k er) := gotQE HS h
end
/-- Program and reference answer with the same fraction and the same error. -/
def Both (P : Program) (f f' : FuncId) (q : Rat) (k : Nat) (b : Bool) (z : Int) (r : Rat) (K : Nat) (er er' : Value) : Prop :=
  ∀ (W0 w : World) (U : List Box) (Ps : List (World → Prop)) (s : Bool) (A : Option Addr) (n c : Nat) (B : Option Addr) (m d : Nat), Tz W0 → Tab W0 → St W0 U Ps w → FV (.agg #[.bool s, .slice A n c, .slice B m d]) q k b w →
    CallsV P f [.agg #[.bool s, .slice A n c, .slice B m d], .int .i64 z] w (AnQE W0 U Ps r K er) ∧ CallsV P f' [.agg #[.bool s, .slice A n c, .slice B m d], .int .i64 z] w (AnQE W0 U Ps r K er')
def NumOf (er : Value) (code : Int) : Prop := ∀ (W0 w : World) (U : List Box) (Ps : List (World → Prop)), St W0 U Ps w → CallsV Tryz.prog 20 [er] w (AnP W0 U Ps (.int .i64 code))
theorem NumOf.nil_ : NumOf .nilIface 0 := fun _ _ _ _ HS => numnil_c HS
theorem NumOf.err (z : Int) : NumOf (.iface 74 (.int .i64 z)) z := fun _ _ _ _ HS => numerr_c HS z
theorem power_all (q : Rat) (k : Nat) (b : Bool) (hk : k ≤ 2) (z : Int) : ∃ (r : Rat) (er : Value) (code : Int), NumOf er code ∧ Both Tryz.prog 14 17 q k b z r 1000 er (.int .i64 code) := by
  by_cases h1 : z < -64 ∨ 64 < z
  · refine ⟨0, _, 3, NumOf.err 3, fun W0 w U Ps s A n c B m d HT HB HS hf => ⟨zeroE (gotW HS (fpower_range (St.start HS HT HB) h1)), zeroE (gotW HS (rpower_range (St.start HS HT HB) h1))⟩⟩
  · by_cases h2 : 0 ≤ z
    · obtain ⟨t, rfl⟩ : ∃ t : Nat, z = (t : Int) := ⟨z.toNat, by omega⟩
      have ht : t ≤ 64 := by omega
      have hb : (k + 2) * t ≤ 4 * 64 := Nat.mul_le_mul (by omega) ht
      refine ⟨q ^ t, .nilIface, 0, NumOf.nil_, fun W0 w U Ps s A n c B m d HT HB HS hf => ⟨AnQE.more (gotQE HS (fpower_f ((St.start HS HT HB).cons hf) (.head _) (by omega) ht)) rfl (by omega), AnQE.more (gotQE HS (rpower_f ((St.start HS HT HB).cons hf) (.head _) hk ht)) rfl (by omega)⟩⟩
    · obtain ⟨t, rfl⟩ : ∃ t : Nat, z = -(t : Int) := ⟨(-z).toNat, by omega⟩
      have ht : t ≤ 64 := by omega
      have ht0 : 0 < t := by omega
      have hb : (k + 2) * t ≤ 4 * 64 := Nat.mul_le_mul (by omega) ht
      by_cases hq : q = 0
      · have hp : q ^ t = 0 := by
          subst hq
          obtain ⟨u, rfl⟩ : ∃ u, t = u + 1 := ⟨t - 1, by omega⟩
          rw [Rat.pow_succ, Rat.mul_zero]
        exact ⟨0, _, 8, NumOf.err 8, fun W0 w U Ps s A n c B m d HT HB HS hf => ⟨zeroE (gotW HS (fpower_zero ((St.start HS HT HB).cons hf) (.head _) (by omega) ht ht0 hq)), zeroE (gotW HS (rpownegz_f ((St.start HS HT HB).cons hf) (.head _) hk ht ht0 hp))⟩⟩
      · exact ⟨(q ^ t)⁻¹, .nilIface, 0, NumOf.nil_, fun W0 w U Ps s A n c B m d HT HB HS hf => ⟨AnQE.more (gotQE HS (fpowneg_f ((St.start HS HT HB).cons hf) (.head _) (by omega) ht ht0 hq)) (inv_pow_q hq t) (by omega), AnQE.more (gotQE HS (rpowneg_f ((St.start HS HT HB).cons hf) (.head _) hk ht ht0 (pow_ne hq t))) rfl (by omega)⟩⟩
theorem grid_all (q : Rat) (k : Nat) (b : Bool) (hk : k ≤ 100) (z : Int) : ∃ (r : Rat) (er : Value) (code : Int), NumOf er code ∧ Both Tryz.prog 15 18 q k b z r (k + k + 60) er (.int .i64 code) := by
  by_cases h1 : z < 0 ∨ 256 < z
  · exact ⟨0, _, 3, NumOf.err 3, fun W0 w U Ps s A n c B m d HT HB HS hf => ⟨zeroE (gotW HS (fgrid_range (St.start HS HT HB) h1)), zeroE (gotW HS (rfgrid_range (St.start HS HT HB) h1))⟩⟩
  · obtain ⟨t, rfl⟩ : ∃ t : Nat, z = (t : Int) := ⟨z.toNat, by omega⟩
    have ht : t ≤ 256 := by omega
    exact ⟨_, .nilIface, 0, NumOf.nil_, fun W0 w U Ps s A n c B m d HT HB HS hf => ⟨AnQE.more (fgrid_c HT HB HS hf (by omega) ht) rfl (by omega), AnQE.more (rfgrid_c HT HB HS hf (by omega) ht) rfl (by omega)⟩⟩
/-- The same of roots: no exponent, a Bool. -/
theorem froot_all (q : Rat) (k : Nat) (b : Bool) (hk : k ≤ 1000) : ∃ (r : Rat) (is : Bool), ∀ (W0 w : World) (U : List Box) (Ps : List (World → Prop)) (s : Bool) (A : Option Addr) (n c : Nat) (B : Option Addr) (m d : Nat), Tz W0 → Tab W0 → St W0 U Ps w → FV (.agg #[.bool s, .slice A n c, .slice B m d]) q k b w →
    CallsV Tryz.prog 16 [.agg #[.bool s, .slice A n c, .slice B m d]] w (AnQE W0 U Ps r (k + k + 6) (.bool is)) ∧ CallsV Tryz.prog 19 [.agg #[.bool s, .slice A n c, .slice B m d]] w (AnQE W0 U Ps r (k + k + 6) (.bool is)) := by
  by_cases hn : Sq q.num
  · by_cases hd : Sq (q.den : Int)
    · have e1 := hn.2
      have e2 := hd.2
      rw [Int.natAbs_natCast] at e2
      obtain ⟨r, hr1, hr2, -, -⟩ := root_form (q := q) (x := rt q.num.natAbs) (y := rt q.den) e1 (by exact_mod_cast e2)
      have h1 := hn.1
      have e3 : rtI q.num = r.num := by unfold rtI; rw [if_neg (by omega), hr1]
      have e4 : rtI (q.den : Int) = (r.den : Int) := by unfold rtI; rw [if_neg (by omega), hr2, Int.natAbs_natCast]
      have e5 : Rat.divInt (rtI q.num) (rtI (q.den : Int)) = r := by rw [e3, e4]; exact Rat.num_divInt_den r
      exact ⟨r, true, fun W0 w U Ps s A n c B m d HT HB HS hf => ⟨AnQE.more (gotQE HS (froot_yes ((St.start HS HT HB).cons hf) (.head _) (by omega) hn hd hr1 (by rw [hr2, Int.natAbs_natCast]))) rfl (by omega), AnQE.more (gotQE HS (rfroot_f ((St.start HS HT HB).cons hf) (.head _) (by omega) hn hd)) e5 (by omega)⟩⟩
    · exact ⟨0, false, fun W0 w U Ps s A n c B m d HT HB HS hf => ⟨zeroE (gotW HS (froot_no1 ((St.start HS HT HB).cons hf) (.head _) (by omega) hn hd)), zeroE (gotW HS (rfrootno_f ((St.start HS HT HB).cons hf) (.head _) (by omega) (fun h => hd h.2)))⟩⟩
  · exact ⟨0, false, fun W0 w U Ps s A n c B m d HT HB HS hf => ⟨zeroE (gotW HS (froot_no0 ((St.start HS HT HB).cons hf) (.head _) (by omega) hn)), zeroE (gotW HS (rfrootno_f ((St.start HS HT HB).cons hf) (.head _) (by omega) (fun h => hn h.1)))⟩⟩
end Go.Proofs.YtbihljnjaondcaaGreatDoor
