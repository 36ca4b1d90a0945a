/- Walk of the law's awake. -/
import Derived.Test.YtdecmhcojdnokaaGreatDoorText
import Derived.Test.YtdecmhcojdnokaaGreatDoorGcdsmall
import Derived.Test.YtdecmhcojdnokaaGreatDoorDivz
import Derived.Test.YtdecmhcojdnokaaGreatDoorRef
import Derived.Test.YtdecmhcojdnokaaGreatDoorNeg
import Derived.Test.YtdecmhcojdnokaaGreatDoorSign
import Derived.Test.YtdecmhcojdnokaaGreatDoorTrim
namespace Lw
open Go Go.RowKit
theorem trm_last {l : List Nat} (h : Trm l) (hl : 0 < l.length) : dg l (l.length - 1) ≠ 0 :=
  h _ (by rw [List.getLast?_eq_getElem?, dg_get? (by omega)])
theorem vB_own (z : Int) : vB (sg z) (mg z) = true := by
  unfold vB
  by_cases h : (mg z).length = 0
  · rw [if_pos h]
    have := mg_nil_iff.1 h
    subst this; rfl
  · rw [if_neg h]
    have := trm_last (mg_trm z) (by omega)
    simpa using this
theorem zv_own (z : Int) : zv (sg z) (mg z) = z := by
  unfold zv; rw [if_pos (vB_own z)]; exact (sg_mg z).symm
theorem say4 : Lib.itoa (-4) = [45, 52] := by rw [itoa_neg (by decide), show (-4 : Int).natAbs = 4 from rfl, Lib.decDigits_one (by omega)]; rfl
theorem say1 : Lib.itoa 1 = [49] := by rw [itoa_pos (by decide), show (1 : Int).natAbs = 1 from rfl, Lib.decDigits_one (by omega)]; rfl
theorem say9 : Lib.itoa 9 = [57] := by rw [itoa_pos (by decide), show (9 : Int).natAbs = 9 from rfl, Lib.decDigits_one (by omega)]; rfl
theorem say6 : Lib.itoa 6 = [54] := by rw [itoa_pos (by decide), show (6 : Int).natAbs = 6 from rfl, Lib.decDigits_one (by omega)]; rfl
theorem dec_step (u : Nat) (h : ¬ u < 10) : Lib.decDigits u = Lib.decDigits (u / 10) ++ [UInt8.ofNat (48 + u % 10)] := by rw [Lib.decDigits, dif_neg h]
theorem say32 : Lib.itoa 4294967296 = [52, 50, 57, 52, 57, 54, 55, 50, 57, 54] := by
  rw [itoa_pos (by decide), show (4294967296 : Int).natAbs = 4294967296 from rfl, dec_step 4294967296 (by omega), dec_step (4294967296 / 10) (by omega), dec_step (4294967296 / 10 / 10) (by omega), dec_step (4294967296 / 10 / 10 / 10) (by omega),
    dec_step (4294967296 / 10 / 10 / 10 / 10) (by omega), dec_step (4294967296 / 10 / 10 / 10 / 10 / 10) (by omega), dec_step (4294967296 / 10 / 10 / 10 / 10 / 10 / 10) (by omega), dec_step (4294967296 / 10 / 10 / 10 / 10 / 10 / 10 / 10) (by omega),
    dec_step (4294967296 / 10 / 10 / 10 / 10 / 10 / 10 / 10 / 10) (by omega), Lib.decDigits_one (by omega)]
  rfl
theorem zv32 : zv false [0, 1] = 4294967296 := by decide
theorem len_z {z : Int} {k : Nat} (h : z.natAbs < pw k) : (mg z).length ≤ k := digs_length_le h
end Lw
namespace Go.Proofs.YtdecmhcojdnokaaGreatDoor
open Go Go.RowKit Lw
theorem text_own (z : Int) (k : Nat) (A : Option Addr) (c B : Nat) (w : World) (h : Rd w B A (mg z)) (hB : B ≤ w.heap.size) (hz : z.natAbs < pw k) (hk : k ≤ 8388608) (hc : (mg z).length ≤ c) (ht : Tab w) :
    Calls Tryz.prog 63 #[.agg #[.bool (sg z), .slice A (mg z).length c]] w fun e w' => e = .returned (.string ⟨(Lib.itoa z).toArray⟩) ∧ Below w.heap.size w w' := by
  have := text_any (sg z) A (mg z) _ c B w h hB rfl (Nat.le_trans (len_z hz) hk) hc ht
  rwa [zv_own] at this

end Go.Proofs.YtdecmhcojdnokaaGreatDoor
/-! Walk of the law's short. -/
namespace Lw
open Go Go.RowKit
/-- A struct argument: the sign, and the slice's three parts. -/
structure Wh where
  s : Bool
  A : Option Addr
  n : Nat
  c : Nat
def Wh.cells (a : Wh) : List Value := [.bool a.s, .slice a.A a.n a.c]
def whs (l : List Wh) : List Value := (l.map Wh.cells).flatten
theorem whs_get (l : List Wh) (i : Nat) (h : i < l.length) : (whs l)[i * 2]? = some (.bool l[i].s) ∧ (whs l)[i * 2 + 1]? = some (.slice l[i].A l[i].n l[i].c) := by
  induction l generalizing i with
  | nil => simp at h
  | cons a l ih =>
    have e : whs (a :: l) = .bool a.s :: .slice a.A a.n a.c :: whs l := rfl
    rw [e]
    cases i with
    | zero => exact ⟨rfl, rfl⟩
    | succ i =>
      have := ih i (by simpa using h)
      rw [show (i + 1) * 2 = i * 2 + 1 + 1 by omega, show i * 2 + 1 + 1 + 1 = (i * 2 + 1) + 1 + 1 by omega]
      simpa using this
/-- All have few words. -/
def few (l : List Wh) : Bool := l.all fun a => decide (a.n ≤ 30)
theorem few_yes {l : List Wh} (h : ∀ j, (hj : j < l.length) → l[j].n ≤ 30) : few l = true := by
  unfold few
  rw [List.all_eq_true]
  intro a ha
  obtain ⟨j, hj, rfl⟩ := List.getElem_of_mem ha
  exact decide_eq_true (h j hj)
theorem few_no {l : List Wh} {j : Nat} (hj : j < l.length) (h : ¬ l[j].n ≤ 30) : few l = false := by
  unfold few
  rw [Bool.eq_false_iff]
  intro ha
  rw [List.all_eq_true] at ha
  exact h (of_decide_eq_true (ha _ (List.getElem_mem hj)))
end Lw
namespace Go.Proofs.YtdecmhcojdnokaaGreatDoor
open Go Go.RowKit Lw
end Go.Proofs.YtdecmhcojdnokaaGreatDoor
/-! What the laws' walks keep: the integers at hand, the boxes of the parameters, and the world at the start. -/
namespace Lw
open Go Go.RowKit
/-- An integer at hand: its value in memory, what it stands for, a bound of its words, whether it is valid. -/
structure En where
  v : Value
  z : Int
  k : Nat
  b : Bool
def Opd (w : World) (e : En) : Prop := ∃ (s : Bool) (A : Option Addr) (n c : Nat) (ns : List Nat) (B : Nat), e.v = .agg #[.bool s, .slice A n c] ∧ Rd w B A ns ∧ B ≤ w.heap.size ∧ ns.length = n ∧ n ≤ e.k ∧ n ≤ c ∧ zv s ns = e.z ∧ vB s ns = e.b
theorem Opd.next {w w' : World} {e : En} (h : Opd w e) (hb : Below w.heap.size w w') : Opd w' e := by
  obtain ⟨s, A, n, c, ns, B, h1, h2, h3, h4⟩ := h
  exact ⟨s, A, n, c, ns, B, h1, h2.next hb h3, Nat.le_trans h3 hb.size, h4⟩
theorem Opd.lt {w : World} {e : En} (h : Opd w e) : e.z.natAbs < pw e.k := by
  obtain ⟨s, A, n, c, ns, B, h1, h2, h3, h4, h5, h6, h7, h8⟩ := h
  rw [← h7]
  exact Nat.lt_of_le_of_lt (zv_natAbs_le s ns) (Nat.lt_of_lt_of_le (val_lt h2.wds) (pw_le (by omega)))
theorem lt_sum {x y : Int} {k k' : Nat} (h : x.natAbs < pw k) (h' : y.natAbs < pw k') : (x + y).natAbs < pw (k + k' + 1) := by
  have h1 : pw k ≤ pw (k + k') := pw_le (by omega)
  have h2 : pw k' ≤ pw (k + k') := pw_le (by omega)
  have h3 : pw (k + k' + 1) = pw (k + k') * 4294967296 := by unfold pw; rw [Nat.pow_succ]
  omega
theorem lt_sub {x y : Int} {k k' : Nat} (h : x.natAbs < pw k) (h' : y.natAbs < pw k') : (x - y).natAbs < pw (k + k' + 1) := by
  have := lt_sum h (y := -y) (by simpa using h')
  rwa [← Int.sub_eq_add_neg] at this
theorem lt_mul {x y : Int} {k k' : Nat} (h : x.natAbs < pw k) (h' : y.natAbs < pw k') : (x * y).natAbs < pw (k + k' + 1) := by
  rw [Int.natAbs_mul]
  have h1 : x.natAbs * y.natAbs < pw k * pw k' := Nat.mul_lt_mul_of_le_of_lt (Nat.le_of_lt h) h' (by omega)
  have h2 : pw k * pw k' = pw (k + k') := by unfold pw; rw [Nat.pow_add]
  have h3 : pw (k + k') ≤ pw (k + k' + 1) := pw_le (by omega)
  omega
theorem lt_more {x : Int} {k k' : Nat} (h : x.natAbs < pw k) (hk : k ≤ k') : x.natAbs < pw k' := Nat.lt_of_lt_of_le h (pw_le hk)
/-- A parameter's box. -/
structure Bx where
  g : Nat
  x : Value
  y : Value
structure Env (t : TypeId) (W0 w : World) (bs : List Bx) (L : List En) : Prop where
  ops : ∀ e ∈ L, Opd w e
  box : ∀ b ∈ bs, Two w b.g t b.x b.y
  below : Below W0.heap.size W0 w
variable {t : TypeId} {W0 w w' : World} {bs : List Bx} {L : List En}
theorem Env.next (h : Env t W0 w bs L) (hb : Below w.heap.size w w') : Env t W0 w' bs L :=
  ⟨fun e he => (h.ops e he).next hb, fun b hb' => (h.box b hb').next hb, below_next h.below hb (Nat.le_refl _)⟩
theorem Env.drew (h : Env t W0 w bs L) : Env t W0 w.drew bs L := h.next (Below.refl _ w).drew
theorem Env.cons (h : Env t W0 w bs L) {e : En} (he : Opd w e) : Env t W0 w bs (e :: L) :=
  ⟨fun e' h' => by
    rcases List.mem_cons.1 h' with rfl | h'
    · exact he
    · exact h.ops e' h', h.box, h.below⟩
theorem Env.tail {e : En} (h : Env t W0 w bs (e :: L)) : Env t W0 w bs L := ⟨fun e' h' => h.ops e' (.tail _ h'), h.box, h.below⟩
theorem Env.nil_ (h : Env t W0 w bs L) : Env t W0 w bs (⟨.agg #[.bool false, .slice none 0 0], 0, 0, true⟩ :: L) :=
  h.cons ⟨false, none, 0, 0, [], 0, rfl, Rd.nil_ _ _ _, Nat.zero_le _, rfl, Nat.le_refl _, Nat.le_refl _, rfl, rfl⟩
theorem Env.cells3 {g1 g2 g3 : Nat} {x1 y1 x2 y2 x3 y3 : Value} (h : Env t W0 w [⟨g1, x1, y1⟩, ⟨g2, x2, y2⟩, ⟨g3, x3, y3⟩] L) :
    w.cell? ⟨g1, 0, none⟩ = some x1 ∧ w.cell? ⟨g1, 1, none⟩ = some y1 ∧ w.cell? ⟨g2, 0, none⟩ = some x2 ∧ w.cell? ⟨g2, 1, none⟩ = some y2 ∧ w.cell? ⟨g3, 0, none⟩ = some x3 ∧ w.cell? ⟨g3, 1, none⟩ = some y3 := by
  obtain ⟨a1, a2, _, _⟩ := (h.box _ (.head _)).facts
  obtain ⟨b1, b2, _, _⟩ := (h.box _ (.tail _ (.head _))).facts
  obtain ⟨c1, c2, _, _⟩ := (h.box _ (.tail _ (.tail _ (.head _)))).facts
  exact ⟨a1, a2, b1, b2, c1, c2⟩
theorem Env.cells2 {g1 g2 : Nat} {x1 y1 x2 y2 : Value} (h : Env t W0 w [⟨g1, x1, y1⟩, ⟨g2, x2, y2⟩] L) :
    w.cell? ⟨g1, 0, none⟩ = some x1 ∧ w.cell? ⟨g1, 1, none⟩ = some y1 ∧ w.cell? ⟨g2, 0, none⟩ = some x2 ∧ w.cell? ⟨g2, 1, none⟩ = some y2 := by
  obtain ⟨a1, a2, _, _⟩ := (h.box _ (.head _)).facts
  obtain ⟨b1, b2, _, _⟩ := (h.box _ (.tail _ (.head _))).facts
  exact ⟨a1, a2, b1, b2⟩
theorem Env.cells1 {g1 : Nat} {x1 y1 : Value} (h : Env t W0 w [⟨g1, x1, y1⟩] L) : w.cell? ⟨g1, 0, none⟩ = some x1 ∧ w.cell? ⟨g1, 1, none⟩ = some y1 := by
  obtain ⟨a1, a2, _, _⟩ := (h.box _ (.head _)).facts
  exact ⟨a1, a2⟩
theorem Opd.new {w W : World} {s : Bool} {A : Option Addr} {n c : Nat} {l : List Nat} (r : Rd w w.heap.size A l) (hb : Below w.heap.size w W) (h : l.length = n) (hn : n ≤ 30) (hc : n ≤ c) : Opd W ⟨.agg #[.bool s, .slice A n c], zv s l, 30, vB s l⟩ :=
  ⟨s, A, n, c, l, _, rfl, r.below hb, hb.size, h, hn, hc, rfl, rfl⟩
theorem few3 {s1 s2 s3 : Bool} {A1 A2 A3 : Option Addr} {n1 n2 n3 c1 c2 c3 : Nat} (h : few [⟨s1, A1, n1, c1⟩, ⟨s2, A2, n2, c2⟩, ⟨s3, A3, n3, c3⟩] = true) : n1 ≤ 30 ∧ n2 ≤ 30 ∧ n3 ≤ 30 := by
  simpa [few] using h
theorem few2 {s1 s2 : Bool} {A1 A2 : Option Addr} {n1 n2 c1 c2 : Nat} (h : few [⟨s1, A1, n1, c1⟩, ⟨s2, A2, n2, c2⟩] = true) : n1 ≤ 30 ∧ n2 ≤ 30 := by
  simpa [few] using h
theorem few1 {s1 : Bool} {A1 : Option Addr} {n1 c1 : Nat} (h : few [⟨s1, A1, n1, c1⟩] = true) : n1 ≤ 30 := by
  simpa [few] using h
theorem start3 {w : World} {s1 s2 s3 : Bool} {A1 A2 A3 : Option Addr} {n1 n2 n3 c1 c2 c3 : Nat} (l1 l2 l3 : List Nat) (t : TypeId) (o : Obj) :
    (Below w.heap.size w ((((w.alloc (.cells #[.bool s1, .slice A1 n1 c1] t)).alloc (.cells #[.bool s2, .slice A2 n2 c2] t)).alloc (.cells #[.bool s3, .slice A3 n3 c3] t)).alloc o)) ∧
    (Rd w w.heap.size A1 l1 → Rd w w.heap.size A2 l2 → Rd w w.heap.size A3 l3 → l1.length = n1 → l2.length = n2 → l3.length = n3 → n1 ≤ c1 → n2 ≤ c2 → n3 ≤ c3 → n1 ≤ 30 → n2 ≤ 30 → n3 ≤ 30 →
    Env t w ((((w.alloc (.cells #[.bool s1, .slice A1 n1 c1] t)).alloc (.cells #[.bool s2, .slice A2 n2 c2] t)).alloc (.cells #[.bool s3, .slice A3 n3 c3] t)).alloc o)
      [⟨w.heap.size, .bool s1, .slice A1 n1 c1⟩, ⟨w.heap.size + 1, .bool s2, .slice A2 n2 c2⟩, ⟨w.heap.size + 1 + 1, .bool s3, .slice A3 n3 c3⟩]
      [⟨.agg #[.bool s1, .slice A1 n1 c1], zv s1 l1, 30, vB s1 l1⟩, ⟨.agg #[.bool s2, .slice A2 n2 c2], zv s2 l2, 30, vB s2 l2⟩, ⟨.agg #[.bool s3, .slice A3 n3 c3], zv s3 l3, 30, vB s3 l3⟩, ⟨.agg #[.bool false, .slice none 0 0], 0, 0, true⟩]) := by
  have hb := (((((Below.refl w.heap.size w).alloc (Nat.le_refl _) (.cells #[.bool s1, .slice A1 n1 c1] t)).alloc (by simp) (.cells #[.bool s2, .slice A2 n2 c2] t)).alloc (by simp; omega) (.cells #[.bool s3, .slice A3 n3 c3] t)).alloc (by simp; omega) o)
  refine ⟨hb, fun r1 r2 r3 e1 e2 e3 k1 k2 k3 h1 h2 h3 => ⟨fun e he => ?_, fun b hb' => ?_, hb⟩⟩
  · simp only [List.mem_cons, List.not_mem_nil, or_false] at he
    rcases he with rfl | rfl | rfl | rfl
    · exact Opd.new r1 hb e1 h1 k1
    · exact Opd.new r2 hb e2 h2 k2
    · exact Opd.new r3 hb e3 h3 k3
    · exact ⟨false, none, 0, 0, [], 0, rfl, Rd.nil_ _ _ _, Nat.zero_le _, rfl, Nat.le_refl _, Nat.le_refl _, rfl, rfl⟩
  · simp only [List.mem_cons, List.not_mem_nil, or_false] at hb'
    rcases hb' with rfl | rfl | rfl
    · exact (((Two.new w t _ _).alloc _).alloc _).alloc _
    · have := ((Two.new (w.alloc (.cells #[.bool s1, .slice A1 n1 c1] t)) t (.bool s2) (.slice A2 n2 c2)).alloc (.cells #[.bool s3, .slice A3 n3 c3] t)).alloc o
      rwa [World.size_alloc] at this
    · have := (Two.new ((w.alloc (.cells #[.bool s1, .slice A1 n1 c1] t)).alloc (.cells #[.bool s2, .slice A2 n2 c2] t)) t (.bool s3) (.slice A3 n3 c3)).alloc o
      rwa [World.size_alloc, World.size_alloc] at this
end Lw
namespace Go.Proofs.YtdecmhcojdnokaaGreatDoor
open Go Go.RowKit Lw
section
variable {t : TypeId} {W0 w : World} {bs : List Bx} {L : List En} {v v' : Value} {x y : Int} {k k' : Nat} {b b' : Bool}
theorem zout_env {z : Int} {K : Nat} {e : Ending} {w' : World} (HE : Env t W0 w bs L) (h : ZOut w z e w') (hz : z.natAbs < pw K) : ∃ u, e = .returned u ∧ Env t W0 w' bs (⟨u, z, K, true⟩ :: L) := by
  obtain ⟨A, c, rfl, hc, hr, hb⟩ := h
  exact ⟨_, rfl, (HE.next hb).cons ⟨sg z, A, _, c, mg z, _, rfl, hr, Nat.le_refl _, rfl, len_z hz, hc, zv_own z, vB_own z⟩⟩
theorem add_env (HE : Env t W0 w bs L) (h : ⟨v, x, k, b⟩ ∈ L) (h' : ⟨v', y, k', b'⟩ ∈ L) (hk : k + k' ≤ 100000) :
    Calls Tryz.prog 128 #[v, v'] w fun e w' => ∃ u, e = .returned u ∧ Env t W0 w' bs (⟨u, x + y, k + k' + 1, true⟩ :: L) := by
  have H1 := HE.ops _ h
  have H2 := HE.ops _ h'
  have hz := lt_sum H1.lt H2.lt
  obtain ⟨s, A, n, c, ns, B, e1, h2, h3, h4, h5, h6, e7, h8⟩ := H1
  obtain ⟨s', A', n', c', ns', B', e1', h2', h3', h4', h5', h6', e7', h8'⟩ := H2
  dsimp only at e1 e7 e1' e7' h5 h5' hz
  subst e1 e1' e7 e7'
  exact (adds_any s s' A A' ns ns' n n' c c' B B' w h2 h2' h3 h3' h4 h4' (by omega) (by omega) h6 h6').mono fun e w' hh => zout_env HE hh hz
theorem mul_env (HE : Env t W0 w bs L) (h : ⟨v, x, k, b⟩ ∈ L) (h' : ⟨v', y, k', b'⟩ ∈ L) (hk : k + k' ≤ 100000) :
    Calls Tryz.prog 93 #[v, v'] w fun e w' => ∃ u, e = .returned u ∧ Env t W0 w' bs (⟨u, x * y, k + k' + 1, true⟩ :: L) := by
  have H1 := HE.ops _ h
  have H2 := HE.ops _ h'
  have hz := lt_mul H1.lt H2.lt
  obtain ⟨s, A, n, c, ns, B, e1, h2, h3, h4, h5, h6, e7, h8⟩ := H1
  obtain ⟨s', A', n', c', ns', B', e1', h2', h3', h4', h5', h6', e7', h8'⟩ := H2
  dsimp only at e1 e7 e1' e7' h5 h5' hz
  subst e1 e1' e7 e7'
  exact (muls_any s s' A A' ns ns' n n' c c' B B' w h2 h2' h3 h3' h4 h4' (by omega) (by omega) h6 h6').mono fun e w' hh => zout_env HE hh hz
theorem cmp_env (HE : Env t W0 w bs L) (h : ⟨v, x, k, b⟩ ∈ L) (h' : ⟨v', y, k', b'⟩ ∈ L) (hk : k + k' ≤ 100000) :
    Calls Tryz.prog 61 #[v, v'] w fun e w' => e = .returned (.int .i64 (cmpI x y)) ∧ Env t W0 w' bs L := by
  obtain ⟨s, A, n, c, ns, B, e1, h2, h3, h4, h5, h6, e7, h8⟩ := HE.ops _ h
  obtain ⟨s', A', n', c', ns', B', e1', h2', h3', h4', h5', h6', e7', h8'⟩ := HE.ops _ h'
  dsimp only at e1 e7 e1' e7' h5 h5'
  subst e1 e1' e7 e7'
  exact (cmps_any s s' A A' ns ns' n n' c c' B B' w h2 h2' h3 h3' h4 h4' (by omega) (by omega) h6 h6').mono fun e w' hh => ⟨hh.1, HE.next hh.2⟩
theorem neg_env (HE : Env t W0 w bs L) (h : ⟨v, x, k, b⟩ ∈ L) (hk : k ≤ 100000) :
    Calls Tryz.prog 66 #[v] w fun e w' => ∃ u, e = .returned u ∧ Env t W0 w' bs (⟨u, -x, k, true⟩ :: L) := by
  have H1 := HE.ops _ h
  have hz : (-x).natAbs < pw k := by have := H1.lt; simpa using this
  obtain ⟨s, A, n, c, ns, B, e1, h2, h3, h4, h5, h6, e7, h8⟩ := H1
  dsimp only at e1 e7 h5
  subst e1 e7
  exact (neg_any s A ns n c B w h2 h3 h4 (by omega) h6).mono fun e w' hh => zout_env HE hh hz
theorem sign_env (HE : Env t W0 w bs L) (h : ⟨v, x, k, b⟩ ∈ L) (hk : k ≤ 100000) :
    Calls Tryz.prog 65 #[v] w fun e w' => e = .returned (.int .i64 (signI x)) ∧ Env t W0 w' bs L := by
  obtain ⟨s, A, n, c, ns, B, e1, h2, h3, h4, h5, h6, e7, h8⟩ := HE.ops _ h
  dsimp only at e1 e7 h5
  subst e1 e7
  exact (sign_any s A ns n c B w h2 h3 h4 (by omega) h6).mono fun e w' hh => ⟨hh.1, HE.next hh.2⟩
theorem valid_env (HE : Env t W0 w bs L) (h : ⟨v, x, k, b⟩ ∈ L) (hk : k ≤ 100000) :
    Calls Tryz.prog 75 #[v] w fun e w' => e = .returned (.bool b) ∧ Env t W0 w' bs L := by
  obtain ⟨s, A, n, c, ns, B, e1, h2, h3, h4, h5, h6, e7, h8⟩ := HE.ops _ h
  dsimp only at e1 e7 h5 h8
  subst e1 e7 h8
  exact (valid_any s A ns n c B w h2 h3 h4 (by omega)).mono fun e w' hh => ⟨hh.1, HE.next hh.2⟩
theorem same_env (HE : Env t W0 w bs L) (h : ⟨v, x, k, true⟩ ∈ L) (h' : ⟨v', y, k', true⟩ ∈ L) (hk : k + k' ≤ 100000) (hxy : x = y) :
    Calls Tryz.prog 25 #[v, v'] w fun e w' => e = .returned (.bool true) ∧ Env t W0 w' bs L := by
  subst hxy
  obtain ⟨s, A, n, c, ns, B, e1, h2, h3, h4, h5, h6, e7, h8⟩ := HE.ops _ h
  obtain ⟨s', A', n', c', ns', B', e1', h2', h3', h4', h5', h6', e7', h8'⟩ := HE.ops _ h'
  dsimp only at e1 e7 e1' e7' h5 h5' h8 h8'
  obtain ⟨a1, a2, _⟩ := valid_form (z := x) h8 (by rw [← e7]; unfold zv; rw [if_pos h8]) h2.wds
  obtain ⟨b1, b2, _⟩ := valid_form (z := x) h8' (by rw [← e7']; unfold zv; rw [if_pos h8']) h2'.wds
  subst e1 e1'
  rw [← a1, ← b1]
  rw [← a2] at h2 h4
  rw [← b2] at h2' h4'
  have : n = n' := by rw [← h4, ← h4']
  subst this
  exact (same_any (sg x) A A' (mg x) n c c' B B' w h2 h2' h3 h3' h4 (by omega)).mono fun e w' hh => ⟨hh.1, HE.next hh.2⟩
end
end Go.Proofs.YtdecmhcojdnokaaGreatDoor
/-! More of what the laws' walks keep: one parameter, two parameters; Int, Of, Bits and the reference's answers. -/
namespace Lw
open Go Go.RowKit
theorem start1 {w : World} {s1 : Bool} {A1 : Option Addr} {n1 c1 : Nat} (l1 : List Nat) (t : TypeId) (o : Obj) :
    (Below w.heap.size w ((w.alloc (.cells #[.bool s1, .slice A1 n1 c1] t)).alloc o)) ∧
    (Rd w w.heap.size A1 l1 → l1.length = n1 → n1 ≤ c1 → n1 ≤ 30 →
    Env t w ((w.alloc (.cells #[.bool s1, .slice A1 n1 c1] t)).alloc o) [⟨w.heap.size, .bool s1, .slice A1 n1 c1⟩]
      [⟨.agg #[.bool s1, .slice A1 n1 c1], zv s1 l1, 30, vB s1 l1⟩, ⟨.agg #[.bool false, .slice none 0 0], 0, 0, true⟩]) := by
  have hb := (((Below.refl w.heap.size w).alloc (Nat.le_refl _) (.cells #[.bool s1, .slice A1 n1 c1] t)).alloc (by simp) o)
  refine ⟨hb, fun r1 e1 k1 h1 => ⟨fun e he => ?_, fun b hb' => ?_, hb⟩⟩
  · simp only [List.mem_cons, List.not_mem_nil, or_false] at he
    rcases he with rfl | rfl
    · exact Opd.new r1 hb e1 h1 k1
    · exact ⟨false, none, 0, 0, [], 0, rfl, Rd.nil_ _ _ _, Nat.zero_le _, rfl, Nat.le_refl _, Nat.le_refl _, rfl, rfl⟩
  · simp only [List.mem_cons, List.not_mem_nil, or_false] at hb'
    rcases hb' with rfl
    exact (Two.new w t _ _).alloc _
theorem start2 {w : World} {s1 s2 : Bool} {A1 A2 : Option Addr} {n1 n2 c1 c2 : Nat} (l1 l2 : List Nat) (t : TypeId) (o : Obj) :
    (Below w.heap.size w (((w.alloc (.cells #[.bool s1, .slice A1 n1 c1] t)).alloc (.cells #[.bool s2, .slice A2 n2 c2] t)).alloc o)) ∧
    (Rd w w.heap.size A1 l1 → Rd w w.heap.size A2 l2 → l1.length = n1 → l2.length = n2 → n1 ≤ c1 → n2 ≤ c2 → n1 ≤ 30 → n2 ≤ 30 →
    Env t w (((w.alloc (.cells #[.bool s1, .slice A1 n1 c1] t)).alloc (.cells #[.bool s2, .slice A2 n2 c2] t)).alloc o)
      [⟨w.heap.size, .bool s1, .slice A1 n1 c1⟩, ⟨w.heap.size + 1, .bool s2, .slice A2 n2 c2⟩]
      [⟨.agg #[.bool s1, .slice A1 n1 c1], zv s1 l1, 30, vB s1 l1⟩, ⟨.agg #[.bool s2, .slice A2 n2 c2], zv s2 l2, 30, vB s2 l2⟩, ⟨.agg #[.bool false, .slice none 0 0], 0, 0, true⟩]) := by
  have hb := ((((Below.refl w.heap.size w).alloc (Nat.le_refl _) (.cells #[.bool s1, .slice A1 n1 c1] t)).alloc (by simp) (.cells #[.bool s2, .slice A2 n2 c2] t)).alloc (by simp; omega) o)
  refine ⟨hb, fun r1 r2 e1 e2 k1 k2 h1 h2 => ⟨fun e he => ?_, fun b hb' => ?_, hb⟩⟩
  · simp only [List.mem_cons, List.not_mem_nil, or_false] at he
    rcases he with rfl | rfl | rfl
    · exact Opd.new r1 hb e1 h1 k1
    · exact Opd.new r2 hb e2 h2 k2
    · exact ⟨false, none, 0, 0, [], 0, rfl, Rd.nil_ _ _ _, Nat.zero_le _, rfl, Nat.le_refl _, Nat.le_refl _, rfl, rfl⟩
  · simp only [List.mem_cons, List.not_mem_nil, or_false] at hb'
    rcases hb' with rfl | rfl
    · exact ((Two.new w t _ _).alloc _).alloc _
    · have := (Two.new (w.alloc (.cells #[.bool s1, .slice A1 n1 c1] t)) t (.bool s2) (.slice A2 n2 c2)).alloc o
      rwa [World.size_alloc] at this
theorem lt_int {z : Int} (h1 : -9223372036854775808 ≤ z) (h2 : z ≤ 9223372036854775807) : z.natAbs < pw 2 := by
  have : pw 2 = 18446744073709551616 := rfl
  omega
end Lw
namespace Go.Proofs.YtdecmhcojdnokaaGreatDoor
open Go Go.RowKit Lw
section
variable {t : TypeId} {W0 w : World} {bs : List Bx} {L : List En} {v v' : Value} {x y : Int} {k k' : Nat} {b b' : Bool}
theorem refsign_env (HE : Env t W0 w bs L) (h : ⟨v, x, k, b⟩ ∈ L) (hk : k ≤ 100000) :
    Calls Tryz.prog 72 #[v] w fun e w' => e = .returned (.int .i64 (signI x)) ∧ Env t W0 w' bs L := by
  obtain ⟨s, A, n, c, ns, B, e1, h2, h3, h4, h5, h6, e7, h8⟩ := HE.ops _ h
  dsimp only at e1 e7 h5
  subst e1 e7
  exact (refsign_any s A ns n c B w h2 h3 h4 (by omega) h6).mono fun e w' hh => ⟨hh.1, HE.next hh.2⟩
theorem bits_env (HE : Env t W0 w bs L) (h : ⟨v, x, k, b⟩ ∈ L) (hk : k ≤ 100000) :
    Calls Tryz.prog 97 #[v] w fun e w' => e = .returned (.int .i64 (nbits (mg x))) ∧ Env t W0 w' bs L := by
  obtain ⟨s, A, n, c, ns, B, e1, h2, h3, h4, h5, h6, e7, h8⟩ := HE.ops _ h
  dsimp only at e1 e7 h5
  subst e1 e7
  exact (bits_any s A ns n c B w h2 h3 h4 (by omega) h6).mono fun e w' hh => ⟨hh.1, HE.next hh.2⟩
theorem refbits_env (HE : Env t W0 w bs L) (h : ⟨v, x, k, b⟩ ∈ L) (hk : k ≤ 100000) :
    Calls Tryz.prog 98 #[v] w fun e w' => e = .returned (.int .i64 (nbits (mg x))) ∧ Env t W0 w' bs L := by
  obtain ⟨s, A, n, c, ns, B, e1, h2, h3, h4, h5, h6, e7, h8⟩ := HE.ops _ h
  dsimp only at e1 e7 h5
  subst e1 e7
  exact (refBits_any s A ns n c B w h2 h3 h4 (by omega) h6).mono fun e w' hh => ⟨hh.1, HE.next hh.2⟩
theorem refvalid_env (HE : Env t W0 w bs L) (h : ⟨v, x, k, b⟩ ∈ L) (hk : k ≤ 100000) :
    Calls Tryz.prog 156 #[v] w fun e w' => e = .returned (.bool b) ∧ Env t W0 w' bs L := by
  obtain ⟨s, A, n, c, ns, B, e1, h2, h3, h4, h5, h6, e7, h8⟩ := HE.ops _ h
  dsimp only at e1 e7 h5 h8
  subst e1 e7 h8
  exact (refValid_any s A ns n c B w h2 h3 h4 (by omega)).mono fun e w' hh => ⟨hh.1, HE.next hh.2⟩
theorem of_env {z : Int} (HE : Env t W0 w bs L) (h1 : -9223372036854775808 ≤ z) (h2 : z ≤ 9223372036854775807) :
    Calls Tryz.prog 62 #[.int .i64 z] w fun e w' => ∃ u, e = .returned u ∧ Env t W0 w' bs (⟨u, z, 2, true⟩ :: L) :=
  (of_any z w h1 h2).mono fun _ _ hh => zout_env HE hh (lt_int h1 h2)
theorem refof_env {z : Int} (HE : Env t W0 w bs L) (h1 : -9223372036854775808 ≤ z) (h2 : z ≤ 9223372036854775807) :
    Calls Tryz.prog 71 #[.int .i64 z] w fun e w' => ∃ u, e = .returned u ∧ Env t W0 w' bs (⟨u, z, 2, true⟩ :: L) :=
  (refof_any z w h1 h2).mono fun _ _ hh => zout_env HE hh (lt_int h1 h2)
end
end Go.Proofs.YtdecmhcojdnokaaGreatDoor
/-! A new box beside the integers at hand. -/
namespace Lw
open Go Go.RowKit
theorem Env.addbox {t : TypeId} {W0 w : World} {bs : List Bx} {L : List En} (h : Env t W0 w bs L) (x y : Value) : Env t W0 (w.alloc (.cells #[x, y] t)) (⟨w.heap.size, x, y⟩ :: bs) L :=
  have h2 := h.next ((Below.refl _ w).alloc (Nat.le_refl _) (.cells #[x, y] t))
  ⟨h2.ops, fun b hb => by
    rcases List.mem_cons.1 hb with rfl | hb
    · exact Two.new w t x y
    · exact h2.box b hb, h2.below⟩
theorem Env.addboxd {t : TypeId} {W0 w : World} {bs : List Bx} {L : List En} (h : Env t W0 w bs L) (x y : Value) : Env t W0 (w.drew.alloc (.cells #[x, y] t)) (⟨w.heap.size, x, y⟩ :: bs) L := h.drew.addbox x y
theorem Env.sub3 {t : TypeId} {W0 w : World} {bs : List Bx} {L : List En} {b1 b2 b3 : Bx} {e1 e2 e3 : En} (h : Env t W0 w bs L) (h1 : b1 ∈ bs) (h2 : b2 ∈ bs) (h3 : b3 ∈ bs) (k1 : e1 ∈ L) (k2 : e2 ∈ L) (k3 : e3 ∈ L) : Env t W0 w [b1, b2, b3] [e1, e2, e3] :=
  ⟨fun e he => by
    simp only [List.mem_cons, List.not_mem_nil, or_false] at he
    rcases he with rfl | rfl | rfl
    · exact h.ops _ k1
    · exact h.ops _ k2
    · exact h.ops _ k3, fun b hb => by
    simp only [List.mem_cons, List.not_mem_nil, or_false] at hb
    rcases hb with rfl | rfl | rfl
    · exact h.box _ h1
    · exact h.box _ h2
    · exact h.box _ h3, h.below⟩
theorem Opd.put {t : TypeId} {w : World} {g n c : Nat} {s : Bool} {X : Option Addr} {e : En} (h : Opd w e) (h2 : Two w g t (.bool s) (.slice X n c)) (s' : Bool) (v : Value) :
    Opd ((w.setCell ⟨g, 0, none⟩ (.bool s')).setCell ⟨g, 1, none⟩ v) e := by
  obtain ⟨a, A, m, d, ns, B, e1, h3, h4, h5, h6, h7, e7, h8⟩ := h
  exact ⟨a, A, m, d, ns, B, e1, h3.putTwo h2 s' v, by simpa using h4, h5, h6, h7, e7, h8⟩
theorem Env.put {t : TypeId} {W0 w : World} {bs : List Bx} {L : List En} {g n c : Nat} {s : Bool} {X : Option Addr} (h : Env t W0 w (⟨g, .bool s, .slice X n c⟩ :: bs) L) (hg : W0.heap.size ≤ g) (hd : ∀ b ∈ bs, b.g ≠ g) (s' : Bool) (v : Value) :
    Env t W0 ((w.setCell ⟨g, 0, none⟩ (.bool s')).setCell ⟨g, 1, none⟩ v) (⟨g, .bool s', v⟩ :: bs) L :=
  ⟨fun e he => (h.ops e he).put (h.box _ (.head _)) s' v, fun b hb => by
    rcases List.mem_cons.1 hb with rfl | hb
    · exact (h.box _ (.head _)).put _ _
    · exact ((h.box b (.tail _ hb)).far (p := ⟨g, 0, none⟩) (hd b hb) _).far (p := ⟨g, 1, none⟩) (hd b hb) _,
    (h.below.setCell (p := ⟨g, 0, none⟩) hg _).setCell (p := ⟨g, 1, none⟩) hg _⟩
theorem Env.swap {t : TypeId} {W0 w : World} {b1 b2 : Bx} {bs : List Bx} {L : List En} (h : Env t W0 w (b1 :: b2 :: bs) L) : Env t W0 w (b2 :: b1 :: bs) L :=
  ⟨h.ops, fun b hb => h.box b (by
    rcases List.mem_cons.1 hb with rfl | hb
    · exact .tail _ (.head _)
    · rcases List.mem_cons.1 hb with rfl | hb
      · exact .head _
      · exact .tail _ (.tail _ hb)), h.below⟩
/-- A new box that holds a value. -/
theorem Env.add1 {t : TypeId} {W0 w : World} {bs : List Bx} {L : List En} (h : Env t W0 w bs L) (s' : Bool) (v : Value) :
    Env t W0 (((w.alloc (.cells #[.bool false, .slice none 0 0] t)).setCell ⟨w.heap.size, 0, none⟩ (.bool s')).setCell ⟨w.heap.size, 1, none⟩ v) (⟨w.heap.size, .bool s', v⟩ :: bs) L :=
  (h.addbox (.bool false) (.slice none 0 0)).put h.below.size (fun b hb => by have := (h.box b hb).lt; omega) s' v
/-- Two new boxes that hold values. -/
theorem Env.add2 {t : TypeId} {W0 w : World} {bs : List Bx} {L : List En} (h : Env t W0 w bs L) (s1 : Bool) (v1 : Value) (s2 : Bool) (v2 : Value) :
    Env t W0 ((((((w.alloc (.cells #[.bool false, .slice none 0 0] t)).alloc (.cells #[.bool false, .slice none 0 0] t)).setCell ⟨w.heap.size, 0, none⟩ (.bool s1)).setCell ⟨w.heap.size, 1, none⟩ v1).setCell ⟨w.heap.size + 1, 0, none⟩ (.bool s2)).setCell ⟨w.heap.size + 1, 1, none⟩ v2)
      (⟨w.heap.size + 1, .bool s2, v2⟩ :: ⟨w.heap.size, .bool s1, v1⟩ :: bs) L := by
  have h1 := (h.addbox (.bool false) (.slice none 0 0)).addbox (.bool false) (.slice none 0 0)
  rw [World.size_alloc] at h1
  have hs := h.below.size
  have h2 := h1.swap.put hs (fun b hb => by
    rcases List.mem_cons.1 hb with rfl | hb
    · simp
    · have := (h.box b hb).lt; omega) s1 v1
  exact h2.swap.put (by omega) (fun b hb => by
    rcases List.mem_cons.1 hb with rfl | hb
    · simp
    · have := (h.box b hb).lt; omega) s2 v2
theorem Env.unbox {t : TypeId} {W0 w : World} {b : Bx} {bs : List Bx} {L : List En} (h : Env t W0 w (b :: bs) L) : Env t W0 w bs L := ⟨h.ops, fun b' hb => h.box b' (.tail _ hb), h.below⟩
theorem Env.top {t : TypeId} {W0 w : World} {g : Nat} {x y : Value} {bs : List Bx} {L : List En} (h : Env t W0 w (⟨g, x, y⟩ :: bs) L) :
    w.cell? ⟨g, 0, none⟩ = some x ∧ w.cell? ⟨g, 1, none⟩ = some y ∧ w.frozen? ⟨g, 0, none⟩ = false ∧ w.frozen? ⟨g, 1, none⟩ = false := (h.box _ (.head _)).facts
theorem Env.cells5 {t : TypeId} {W0 w : World} {L : List En} {bs : List Bx} {g1 g2 g3 g4 g5 : Nat} {x1 y1 x2 y2 x3 y3 x4 y4 x5 y5 : Value} (h : Env t W0 w (⟨g1, x1, y1⟩ :: ⟨g2, x2, y2⟩ :: ⟨g3, x3, y3⟩ :: ⟨g4, x4, y4⟩ :: ⟨g5, x5, y5⟩ :: bs) L) :
    w.cell? ⟨g1, 0, none⟩ = some x1 ∧ w.cell? ⟨g1, 1, none⟩ = some y1 ∧ w.cell? ⟨g2, 0, none⟩ = some x2 ∧ w.cell? ⟨g2, 1, none⟩ = some y2 ∧ w.cell? ⟨g3, 0, none⟩ = some x3 ∧ w.cell? ⟨g3, 1, none⟩ = some y3 ∧ w.cell? ⟨g4, 0, none⟩ = some x4 ∧ w.cell? ⟨g4, 1, none⟩ = some y4 ∧ w.cell? ⟨g5, 0, none⟩ = some x5 ∧ w.cell? ⟨g5, 1, none⟩ = some y5 :=
  ⟨h.top.1, h.top.2.1, h.unbox.top.1, h.unbox.top.2.1, h.unbox.unbox.top.1, h.unbox.unbox.top.2.1, h.unbox.unbox.unbox.top.1, h.unbox.unbox.unbox.top.2.1, h.unbox.unbox.unbox.unbox.top.1, h.unbox.unbox.unbox.unbox.top.2.1⟩
theorem Env.pickA {t : TypeId} {W0 w : World} {L : List En} {bs : List Bx} {g0 g1 g2 g3 g4 g5 g6 g7 g8 g9 : Nat} {x0 y0 x1 y1 x2 y2 x3 y3 x4 y4 x5 y5 x6 y6 x7 y7 x8 y8 x9 y9 : Value} (h : Env t W0 w (⟨g0, x0, y0⟩ :: ⟨g1, x1, y1⟩ :: ⟨g2, x2, y2⟩ :: ⟨g3, x3, y3⟩ :: ⟨g4, x4, y4⟩ :: ⟨g5, x5, y5⟩ :: ⟨g6, x6, y6⟩ :: ⟨g7, x7, y7⟩ :: ⟨g8, x8, y8⟩ :: ⟨g9, x9, y9⟩ :: bs) L) :
    w.cell? ⟨g0, 0, none⟩ = some x0 ∧ w.cell? ⟨g0, 1, none⟩ = some y0 ∧ w.cell? ⟨g2, 0, none⟩ = some x2 ∧ w.cell? ⟨g2, 1, none⟩ = some y2 ∧ w.cell? ⟨g4, 0, none⟩ = some x4 ∧ w.cell? ⟨g4, 1, none⟩ = some y4 ∧ w.cell? ⟨g6, 0, none⟩ = some x6 ∧ w.cell? ⟨g6, 1, none⟩ = some y6 ∧ w.cell? ⟨g9, 0, none⟩ = some x9 ∧ w.cell? ⟨g9, 1, none⟩ = some y9 :=
  ⟨h.top.1, h.top.2.1, h.unbox.unbox.top.1, h.unbox.unbox.top.2.1, h.unbox.unbox.unbox.unbox.top.1, h.unbox.unbox.unbox.unbox.top.2.1, h.unbox.unbox.unbox.unbox.unbox.unbox.top.1, h.unbox.unbox.unbox.unbox.unbox.unbox.top.2.1, h.unbox.unbox.unbox.unbox.unbox.unbox.unbox.unbox.unbox.top.1, h.unbox.unbox.unbox.unbox.unbox.unbox.unbox.unbox.unbox.top.2.1⟩
theorem Env.pickB {t : TypeId} {W0 w : World} {L : List En} {bs : List Bx} {g0 g1 g2 g3 g4 g5 g6 g7 g8 g9 g10 g11 : Nat} {x0 y0 x1 y1 x2 y2 x3 y3 x4 y4 x5 y5 x6 y6 x7 y7 x8 y8 x9 y9 x10 y10 x11 y11 : Value} (h : Env t W0 w (⟨g0, x0, y0⟩ :: ⟨g1, x1, y1⟩ :: ⟨g2, x2, y2⟩ :: ⟨g3, x3, y3⟩ :: ⟨g4, x4, y4⟩ :: ⟨g5, x5, y5⟩ :: ⟨g6, x6, y6⟩ :: ⟨g7, x7, y7⟩ :: ⟨g8, x8, y8⟩ :: ⟨g9, x9, y9⟩ :: ⟨g10, x10, y10⟩ :: ⟨g11, x11, y11⟩ :: bs) L) :
    w.cell? ⟨g0, 0, none⟩ = some x0 ∧ w.cell? ⟨g0, 1, none⟩ = some y0 ∧ w.cell? ⟨g1, 0, none⟩ = some x1 ∧ w.cell? ⟨g1, 1, none⟩ = some y1 ∧ w.cell? ⟨g8, 0, none⟩ = some x8 ∧ w.cell? ⟨g8, 1, none⟩ = some y8 :=
  ⟨h.top.1, h.top.2.1, h.unbox.top.1, h.unbox.top.2.1, h.unbox.unbox.unbox.unbox.unbox.unbox.unbox.unbox.top.1, h.unbox.unbox.unbox.unbox.unbox.unbox.unbox.unbox.top.2.1⟩
end Lw
/-! Walks of linkworkbase: Num, Is. -/
namespace Go.Proofs.YtdecmhcojdnokaaGreatDoor
open Go Go.RowKit Lw
theorem assert_errno (z : Int) (w : World) : Sem.run Tryz.prog (Instr.typeAssert (.iface 64 (.int .i64 z)) 32 64 true) w = .ok (.tuple #[.int .i64 z, .bool true]) w := by kernel_rfl
set_option maxRecDepth 100000 in
set_option maxHeartbeats 800000 in
theorem numnil_any (w : World) : Calls Tryz.prog 24 #[.nilIface] w fun e w' => e = .returned (.int .i64 0) ∧ w = w' := by
  go_enter Tryz.func24, Tryz.ntmps24
  go_wp2
  go_ret
  exact ⟨rfl, rfl⟩
set_option maxRecDepth 100000 in
set_option maxHeartbeats 800000 in
theorem numerr_any (z : Int) (w : World) : Calls Tryz.prog 24 #[.iface 64 (.int .i64 z)] w fun e w' => e = .returned (.int .i64 z) ∧ w = w' := by
  go_enter Tryz.func24, Tryz.ntmps24
  have ha := assert_errno z w
  go_wp2
  go_ret
  exact ⟨rfl, rfl⟩
set_option maxRecDepth 100000 in
set_option maxHeartbeats 800000 in
theorem iserr_any (z z' : Int) (w : World) (h : z = z') : Calls Tryz.prog 60 #[.iface 64 (.int .i64 z), .int .i64 z'] w fun e w' => e = .returned (.bool true) ∧ w = w' := by
  subst h
  go_enter Tryz.func60, Tryz.ntmps60
  go_wp2_with fail
  refine (numerr_any z _).mono ?_
  rintro e w1 ⟨rfl, rfl⟩
  go_wp2_with fail
  go_ret
  exact ⟨rfl, rfl⟩
end Go.Proofs.YtdecmhcojdnokaaGreatDoor
