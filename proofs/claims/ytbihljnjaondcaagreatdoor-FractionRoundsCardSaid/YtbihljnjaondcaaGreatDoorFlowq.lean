/- Flow: integers, fractions and their package's functions. Written by flow/adapt.py. -/
import Derived.Test.YtbihljnjaondcaaGreatDoorFlow
import Derived.Test.YtbihljnjaondcaaGreatDoorFrefv
import Derived.Test.YtbihljnjaondcaaGreatDoorFrefr
namespace Lw
open Go Go.RowKit Flow
theorem Rd.keeps {w w' : World} {gs : List Nat} {A : Option Addr} {ns : List Nat} (h : Rd w w.heap.size A ns) (ha : Keeps gs w w') : Rd w' w'.heap.size A ns := by
  refine ⟨h.1, fun hn => ?_⟩
  obtain ⟨b, off, rfl, hb, hc⟩ := h.2 hn
  have hsame : w'.heap[b]? = w.heap[b]? := by
    refine ha.same b hb (fun hm => ?_)
    obtain ⟨c, t, f, h1, h2⟩ := (ha.soft b hm hb).1
    have h0 := hc 0 hn
    unfold World.cell? at h0
    simp only [h1] at h0
    have h3 := h2 (off + 0) _ (by simpa using h0)
    cases h3
  refine ⟨b, off, rfl, Nat.lt_of_lt_of_le hb ha.size, fun j hj => ?_⟩
  rw [← hc j hj]
  exact World.cell?_of_block (w := w) hsame
theorem Fop.stable (e : Qn) : Stable (fun w => Fop w e) := fun gs w w' ha h => by
  obtain ⟨s, A, n, c, A', n', c', ns, ms, h1, h2, h3, h4⟩ := h
  exact ⟨s, A, n, c, A', n', c', ns, ms, h1, h2.keeps ha, h3.keeps ha, h4⟩
theorem Opd.stable (e : En) : Stable (fun w => Opd w e) := fun gs w w' ha h => by
  obtain ⟨s, A, n, c, ns, B, h1, h2, h3, h4⟩ := h
  exact ⟨s, A, n, c, ns, w'.heap.size, h1, (h2.more h3).keeps ha, Nat.le_refl _, h4⟩
/-- A fraction at hand, its words at most k; b: it is valid. -/
def FV (v : Value) (q : Rat) (k : Nat) (b : Bool) (w : World) : Prop := Fop w ⟨v, q, k, b⟩
/-- An integer at hand. -/
def FI (v : Value) (z : Int) (k : Nat) (w : World) : Prop := Opd w ⟨v, z, k, true⟩
theorem FV.stable (v : Value) (q : Rat) (k : Nat) (b : Bool) : Stable (FV v q k b) := Fop.stable _
theorem FI.stable (v : Value) (z : Int) (k : Nat) : Stable (FI v z k) := Opd.stable _
theorem FV.shape {v : Value} {q : Rat} {k : Nat} {b : Bool} {w : World} (h : FV v q k b w) : ∃ (s : Bool) (A : Option Addr) (n c : Nat) (A' : Option Addr) (n' c' : Nat), v = .agg #[.bool s, .slice A n c, .slice A' n' c'] := by
  obtain ⟨s, A, n, c, A', n', c', _, _, h1, _⟩ := h
  exact ⟨s, A, n, c, A', n', c', h1⟩
theorem FV.weak {v : Value} {q : Rat} {k K : Nat} {w : World} (h : FV v q k true w) (hk : k ≤ K) : FV v q K true w := Fop.weak h hk
theorem FI.weak {v : Value} {z : Int} {k K : Nat} {w : World} (h : FI v z k w) (hk : k ≤ K) : FI v z K w := Opd.weak h hk
/-- The value said in other words, more words allowed. -/
theorem FV.as {v : Value} {q r : Rat} {k K : Nat} {w : World} (h : FV v q k true w) (hq : q = r) (hk : k ≤ K) : FV v r K true w := hq ▸ h.weak hk
theorem FI.as {v : Value} {z y : Int} {k K : Nat} {w : World} (h : FI v z k w) (hq : z = y) (hk : k ≤ K) : FI v y K w := hq ▸ h.weak hk
theorem FV.zero (k : Nat) (w : World) : FV (.agg #[.bool false, .slice none 0 0, .slice none 0 0]) 0 k true w :=
  ⟨false, none, 0, 0, none, 0, 0, [], [], rfl, Rd.nil_ _ _ _, Rd.nil_ _ _ _, rfl, rfl, Nat.zero_le _, Nat.zero_le _, Nat.le_refl _, Nat.le_refl _, rfl, rfl⟩
theorem FI.zero (w : World) : FI (.agg #[.bool false, .slice none 0 0]) 0 0 w := ⟨false, none, 0, 0, [], 0, rfl, Rd.nil_ _ _ _, Nat.zero_le _, rfl, Nat.le_refl _, Nat.le_refl _, rfl, rfl⟩
/-! What calls hand back. -/
section
variable (W0 : World) (U : List Box) (Ps : List (World → Prop))
def AnP (v : Value) (u : Value) (w : World) : Prop := u = v ∧ St W0 U Ps w
def AnI (z : Int) (k : Nat) (u : Value) (w : World) : Prop := ∃ (s : Bool) (A : Option Addr) (n c : Nat), u = .agg #[.bool s, .slice A n c] ∧ St W0 U (FI (.agg #[.bool s, .slice A n c]) z k :: Ps) w
def AnQE (q : Rat) (k : Nat) (er : Value) (u : Value) (w : World) : Prop := ∃ (s : Bool) (A : Option Addr) (n c : Nat) (B : Option Addr) (m d : Nat), u = .tuple #[.agg #[.bool s, .slice A n c, .slice B m d], er] ∧ St W0 U (FV (.agg #[.bool s, .slice A n c, .slice B m d]) q k true :: Ps) w
def AnII (x y : Int) (k : Nat) (u : Value) (w : World) : Prop := ∃ (s : Bool) (A : Option Addr) (n c : Nat) (s' : Bool) (A' : Option Addr) (n' c' : Nat), u = .tuple #[.agg #[.bool s, .slice A n c], .agg #[.bool s', .slice A' n' c']] ∧ St W0 U (FI (.agg #[.bool s, .slice A n c]) x k :: FI (.agg #[.bool s', .slice A' n' c']) y k :: Ps) w
def AnIIE (x y : Int) (k k' : Nat) (er : Value) (u : Value) (w : World) : Prop := ∃ (s : Bool) (A : Option Addr) (n c : Nat) (s' : Bool) (A' : Option Addr) (n' c' : Nat), u = .tuple #[.agg #[.bool s, .slice A n c], .agg #[.bool s', .slice A' n' c'], er] ∧ St W0 U (FI (.agg #[.bool s, .slice A n c]) x k :: FI (.agg #[.bool s', .slice A' n' c']) y k' :: Ps) w
end
theorem St.init (W : World) : St W [] [] W := ⟨Below.refl _ _, (fun _ h => by cases h), (fun _ h => by cases h), .nil, (fun _ h => by cases h), (fun _ h => by cases h)⟩
/-- A law that is true, as its row asks it. -/
theorem law_true {P : Program} {f : FuncId} {vs : List Value} {W : World} (h : CallsV P f vs W (AnP W [] [] (.bool true))) : Calls P f vs.toArray W fun e w' => e = .returned (.bool true) ∧ Below W.heap.size W w' :=
  Calls.mono h fun e w' hh => by
    obtain ⟨v, rfl, rfl, hs⟩ := hh
    exact ⟨rfl, hs.below⟩
end Lw
namespace Go.Proofs.YtbihljnjaondcaaGreatDoor
open Go Go.RowKit Lw Flow
section
variable {W0 w w' : World} {U : List Box} {Ps : List (World → Prop)} {v v' : Value} {q r : Rat} {x y : Int} {k k' : Nat} {b b' : Bool} {f : FuncId} {vs : List Value} {L : List En} {M : List Qn}
theorem St.start (HS : St W0 U Ps w) (ht : Tz W0) (hb : Tab W0) : FEnv w w [] [] [] [] := FEnv.start (ht.next HS.below) (hb.next HS.below)
theorem gotI (HS : St W0 U Ps w) (h : Calls Tryz.prog f vs.toArray w (GotI w [] L [] M x k)) : CallsV Tryz.prog f vs w (AnI W0 U Ps x k) :=
  h.mono fun e w' hh => by
    obtain ⟨s, A, n, c, rfl, he⟩ := hh
    exact ⟨_, rfl, s, A, n, c, rfl, (HS.next he.below).add (FI.stable _ x k) (he.env.ops _ (.head _))⟩
theorem gotW (HS : St W0 U Ps w) {u : Value} (h : Calls Tryz.prog f vs.toArray w (fun e w' => e = .returned u ∧ FEnv w w' [] L [] M)) : CallsV Tryz.prog f vs w (AnP W0 U Ps u) :=
  h.mono fun e w' hh => by
    obtain ⟨rfl, he⟩ := hh
    exact ⟨_, rfl, rfl, HS.next he.below⟩
theorem gotQE (HS : St W0 U Ps w) {er : Value} (h : Calls Tryz.prog f vs.toArray w (fun e w' => ∃ (s : Bool) (A : Option Addr) (n c : Nat) (A' : Option Addr) (n' c' : Nat), e = .returned (.tuple #[.agg #[.bool s, .slice A n c, .slice A' n' c'], er]) ∧ FEnv w w' [] L [] (⟨.agg #[.bool s, .slice A n c, .slice A' n' c'], q, k, true⟩ :: M))) : CallsV Tryz.prog f vs w (AnQE W0 U Ps q k er) :=
  h.mono fun e w' hh => by
    obtain ⟨s, A, n, c, A', n', c', rfl, he⟩ := hh
    exact ⟨_, rfl, s, A, n, c, A', n', c', rfl, (HS.next he.below).add (FV.stable _ q k true) (he.fr _ (.head _))⟩
theorem gotII (HS : St W0 U Ps w) (h : Calls Tryz.prog f vs.toArray w (GotP w [] L [] M x y k)) : CallsV Tryz.prog f vs w (AnII W0 U Ps x y k) :=
  h.mono fun e w' hh => by
    obtain ⟨s, A, n, c, s', A', n', c', rfl, he⟩ := hh
    exact ⟨_, rfl, s, A, n, c, s', A', n', c', rfl, ((HS.next he.below).add (FI.stable _ y k) (he.env.ops _ (.tail _ (.head _)))).add (FI.stable _ x k) (he.env.ops _ (.head _))⟩
theorem gotIIE (HS : St W0 U Ps w) {er : Value} (h : Calls Tryz.prog f vs.toArray w (fun e w' => ∃ (s s' : Bool) (D D' : Option Addr) (m d m' d' : Nat), e = .returned (.tuple #[.agg #[.bool s, .slice D m d], .agg #[.bool s', .slice D' m' d'], er]) ∧ FEnv w w' [] (⟨.agg #[.bool s, .slice D m d], x, k, true⟩ :: ⟨.agg #[.bool s', .slice D' m' d'], y, k', true⟩ :: L) [] M)) : CallsV Tryz.prog f vs w (AnIIE W0 U Ps x y k k' er) :=
  h.mono fun e w' hh => by
    obtain ⟨s, s', D, D', m, d, m', d', rfl, he⟩ := hh
    exact ⟨_, rfl, s, D, m, d, s', D', m', d', rfl, ((HS.next he.below).add (FI.stable _ y k') (he.env.ops _ (.tail _ (.head _)))).add (FI.stable _ x k) (he.env.ops _ (.head _))⟩
theorem fbits_c (HT : Tz W0) (HB : Tab W0) (HS : St W0 U Ps w) {s1 : Bool} {A1 : Option Addr} {n1 c1 : Nat} {B1 : Option Addr} {m1 d1 : Nat} {q1 : Rat} {k1 : Nat} {b1 : Bool} (f1 : FV (.agg #[.bool s1, .slice A1 n1 c1, .slice B1 m1 d1]) q1 k1 b1 w) (hk : k1 ≤ 2000) : CallsV Tryz.prog 25 [.agg #[.bool s1, .slice A1 n1 c1, .slice B1 m1 d1]] w (AnP W0 U Ps (.int .i64 (bitsQ q1))) :=
  gotW HS (fbits_f ((St.start HS HT HB).cons f1) (.head _) hk)
theorem ffloor_c (HT : Tz W0) (HB : Tab W0) (HS : St W0 U Ps w) {s1 : Bool} {A1 : Option Addr} {n1 c1 : Nat} {B1 : Option Addr} {m1 d1 : Nat} {q1 : Rat} {k1 : Nat} {b1 : Bool} (f1 : FV (.agg #[.bool s1, .slice A1 n1 c1, .slice B1 m1 d1]) q1 k1 b1 w) (hk : k1 ≤ 40000) : CallsV Tryz.prog 23 [.agg #[.bool s1, .slice A1 n1 c1, .slice B1 m1 d1]] w (AnI W0 U Ps (q1.floor) (k1 + 2 + 1)) :=
  gotI HS (ffloor_f ((St.start HS HT HB).cons f1) (.head _) hk)
theorem fgrid_c (HT : Tz W0) (HB : Tab W0) (HS : St W0 U Ps w) {s1 : Bool} {A1 : Option Addr} {n1 c1 : Nat} {B1 : Option Addr} {m1 d1 : Nat} {q1 : Rat} {k1 : Nat} {b1 : Bool} {m2 : Nat} (f1 : FV (.agg #[.bool s1, .slice A1 n1 c1, .slice B1 m1 d1]) q1 k1 b1 w) (hk : k1 ≤ 8000) (hm : m2 ≤ 256) : CallsV Tryz.prog 15 [.agg #[.bool s1, .slice A1 n1 c1, .slice B1 m1 d1], .int .i64 (m2 : Int)] w (AnQE W0 U Ps (Rat.divInt (q1.num * ((2 ^ m2 : Nat) : Int) / (q1.den : Int)) ((2 ^ m2 : Nat) : Int)) (2 * k1 + 60) (.nilIface)) :=
  gotQE HS (fgrid_f ((St.start HS HT HB).cons f1) (.head _) hk hm)
theorem rfbits_c (HT : Tz W0) (HB : Tab W0) (HS : St W0 U Ps w) {s1 : Bool} {A1 : Option Addr} {n1 c1 : Nat} {B1 : Option Addr} {m1 d1 : Nat} {q1 : Rat} {k1 : Nat} {b1 : Bool} (f1 : FV (.agg #[.bool s1, .slice A1 n1 c1, .slice B1 m1 d1]) q1 k1 b1 w) (hk : k1 ≤ 2000) : CallsV Tryz.prog 26 [.agg #[.bool s1, .slice A1 n1 c1, .slice B1 m1 d1]] w (AnP W0 U Ps (.int .i64 (bitsQ q1))) :=
  gotW HS (rfbits_f ((St.start HS HT HB).cons f1) (.head _) hk)
theorem rffloor_c (HT : Tz W0) (HB : Tab W0) (HS : St W0 U Ps w) {s1 : Bool} {A1 : Option Addr} {n1 c1 : Nat} {B1 : Option Addr} {m1 d1 : Nat} {q1 : Rat} {k1 : Nat} {b1 : Bool} (f1 : FV (.agg #[.bool s1, .slice A1 n1 c1, .slice B1 m1 d1]) q1 k1 b1 w) (hk : k1 ≤ 2000) : CallsV Tryz.prog 24 [.agg #[.bool s1, .slice A1 n1 c1, .slice B1 m1 d1]] w (AnI W0 U Ps (q1.floor) (k1 + 3)) :=
  gotI HS (rffloor_f ((St.start HS HT HB).cons f1) (.head _) hk)
theorem rfparts_c (HT : Tz W0) (HB : Tab W0) (HS : St W0 U Ps w) {s1 : Bool} {A1 : Option Addr} {n1 c1 : Nat} {B1 : Option Addr} {m1 d1 : Nat} {q1 : Rat} {k1 : Nat} {b1 : Bool} (f1 : FV (.agg #[.bool s1, .slice A1 n1 c1, .slice B1 m1 d1]) q1 k1 b1 w) (hk : k1 ≤ 3000) : CallsV Tryz.prog 98 [.agg #[.bool s1, .slice A1 n1 c1, .slice B1 m1 d1]] w (AnII W0 U Ps (q1.num) ((q1.den : Int)) (k1 + 2)) :=
  gotII HS (rparts_f ((St.start HS HT HB).cons f1) (.head _) hk)
theorem rfsame_t (HT : Tz W0) (HB : Tab W0) (HS : St W0 U Ps w) {s1 : Bool} {A1 : Option Addr} {n1 c1 : Nat} {B1 : Option Addr} {m1 d1 : Nat} {q1 : Rat} {k1 : Nat} {s2 : Bool} {A2 : Option Addr} {n2 c2 : Nat} {B2 : Option Addr} {m2 d2 : Nat} {q2 : Rat} {k2 : Nat} (f1 : FV (.agg #[.bool s1, .slice A1 n1 c1, .slice B1 m1 d1]) q1 k1 true w) (f2 : FV (.agg #[.bool s2, .slice A2 n2 c2, .slice B2 m2 d2]) q2 k2 true w) (hk : k1 + k2 ≤ 100000) (he : q1 = q2) : CallsV Tryz.prog 21 [.agg #[.bool s1, .slice A1 n1 c1, .slice B1 m1 d1], .agg #[.bool s2, .slice A2 n2 c2, .slice B2 m2 d2]] w (AnP W0 U Ps (.bool true)) :=
  gotW HS (fsame_t (((St.start HS HT HB).cons f2).cons f1) (.head _) (.tail _ (.head _)) hk he)
theorem rfone_c (HT : Tz W0) (HB : Tab W0) (HS : St W0 U Ps w)    : CallsV Tryz.prog 96 [] w (AnI W0 U Ps (1) (2)) :=
  gotI HS (one_f (St.start HS HT HB)  )
theorem rffrom_c (HT : Tz W0) (HB : Tab W0) (HS : St W0 U Ps w) {s1 : Bool} {A1 : Option Addr} {n1 c1 : Nat} {x1 : Int} {k1 : Nat} {s2 : Bool} {A2 : Option Addr} {n2 c2 : Nat} {x2 : Int} {k2 : Nat} (f1 : FI (.agg #[.bool s1, .slice A1 n1 c1]) x1 k1 w) (f2 : FI (.agg #[.bool s2, .slice A2 n2 c2]) x2 k2 w) (hk : k1 + k2 ≤ 4000) (hy : x2 ≠ 0) : CallsV Tryz.prog 101 [.agg #[.bool s1, .slice A1 n1 c1], .agg #[.bool s2, .slice A2 n2 c2]] w (AnQE W0 U Ps (Rat.divInt x1 x2) (k1 + 1 + (k2 + 1)) (.int .i64 0)) :=
  gotQE HS (rffrom_f (((St.start HS HT HB).push f2).push f1) (.head _) (.tail _ (.head _)) hk hy)
theorem radd_c (HT : Tz W0) (HB : Tab W0) (HS : St W0 U Ps w) {s1 : Bool} {A1 : Option Addr} {n1 c1 : Nat} {x1 : Int} {k1 : Nat} {s2 : Bool} {A2 : Option Addr} {n2 c2 : Nat} {x2 : Int} {k2 : Nat} (f1 : FI (.agg #[.bool s1, .slice A1 n1 c1]) x1 k1 w) (f2 : FI (.agg #[.bool s2, .slice A2 n2 c2]) x2 k2 w) (hk : k1 ≤ 10000 ∧ k2 ≤ 10000) : CallsV Tryz.prog 97 [.agg #[.bool s1, .slice A1 n1 c1], .agg #[.bool s2, .slice A2 n2 c2]] w (AnI W0 U Ps (x1 + x2) (k1 + k2 + 1)) :=
  gotI HS (radd_f (((St.start HS HT HB).push f2).push f1) (.head _) (.tail _ (.head _)) hk)
theorem rmul_c (HT : Tz W0) (HB : Tab W0) (HS : St W0 U Ps w) {s1 : Bool} {A1 : Option Addr} {n1 c1 : Nat} {x1 : Int} {k1 : Nat} {s2 : Bool} {A2 : Option Addr} {n2 c2 : Nat} {x2 : Int} {k2 : Nat} (f1 : FI (.agg #[.bool s1, .slice A1 n1 c1]) x1 k1 w) (f2 : FI (.agg #[.bool s2, .slice A2 n2 c2]) x2 k2 w) (hk : k1 ≤ 10000 ∧ k2 ≤ 10000) : CallsV Tryz.prog 100 [.agg #[.bool s1, .slice A1 n1 c1], .agg #[.bool s2, .slice A2 n2 c2]] w (AnI W0 U Ps (x1 * x2) (k1 + k2 + 1)) :=
  gotI HS (rmul_f (((St.start HS HT HB).push f2).push f1) (.head _) (.tail _ (.head _)) hk)
theorem rdiv_c (HT : Tz W0) (HB : Tab W0) (HS : St W0 U Ps w) {s1 : Bool} {A1 : Option Addr} {n1 c1 : Nat} {x1 : Int} {k1 : Nat} {s2 : Bool} {A2 : Option Addr} {n2 c2 : Nat} {x2 : Int} {k2 : Nat} (f1 : FI (.agg #[.bool s1, .slice A1 n1 c1]) x1 k1 w) (f2 : FI (.agg #[.bool s2, .slice A2 n2 c2]) x2 k2 w) (hk : k1 + k2 ≤ 10000) (hy : x2 ≠ 0) : CallsV Tryz.prog 99 [.agg #[.bool s1, .slice A1 n1 c1], .agg #[.bool s2, .slice A2 n2 c2]] w (AnIIE W0 U Ps (x1 / x2) (x1 % x2) (k1 + 1) (k2) (.int .i64 0)) :=
  gotIIE HS (rdiv_f (((St.start HS HT HB).push f2).push f1) (.head _) (.tail _ (.head _)) hk hy)
theorem rsame_c (HT : Tz W0) (HB : Tab W0) (HS : St W0 U Ps w) {s1 : Bool} {A1 : Option Addr} {n1 c1 : Nat} {x1 : Int} {k1 : Nat} {s2 : Bool} {A2 : Option Addr} {n2 c2 : Nat} {x2 : Int} {k2 : Nat} (f1 : FI (.agg #[.bool s1, .slice A1 n1 c1]) x1 k1 w) (f2 : FI (.agg #[.bool s2, .slice A2 n2 c2]) x2 k2 w) (hk : k1 + k2 ≤ 100000) (he : x1 = x2) : CallsV Tryz.prog 22 [.agg #[.bool s1, .slice A1 n1 c1], .agg #[.bool s2, .slice A2 n2 c2]] w (AnP W0 U Ps (.bool true)) :=
  gotW HS (rsame_f (((St.start HS HT HB).push f2).push f1) (.head _) (.tail _ (.head _)) hk he)
end
end Go.Proofs.YtbihljnjaondcaaGreatDoor
