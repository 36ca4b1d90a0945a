/- Part of a proof, said shortly. -/
import Derived.LoopN
import Derived.Test.YtbihljnjaondcaaGreatDoorAlz
import Derived.Test.YtbihljnjaondcaaGreatDoorC15
import Derived.Test.YtbihljnjaondcaaGreatDoorC20
import Derived.Test.YtbihljnjaondcaaGreatDoorC16
import Derived.Test.YtbihljnjaondcaaGreatDoorC14
import Derived.Test.YtbihljnjaondcaaGreatDoorC13
import Derived.Test.YtbihljnjaondcaaGreatDoorC12
import Derived.Test.YtbihljnjaondcaaGreatDoorC11
import Derived.Test.YtbihljnjaondcaaGreatDoorC10
import Derived.Test.YtbihljnjaondcaaGreatDoorC6
import Derived.Test.YtbihljnjaondcaaGreatDoorC2
import Derived.Test.YtbihljnjaondcaaGreatDoorC1
import Derived.Test.YtbihljnjaondcaaGreatDoorC5
import Derived.Test.YtbihljnjaondcaaGreatDoorC4
import Derived.Test.YtbihljnjaondcaaGreatDoorC3
import Derived.Test.YtbihljnjaondcaaGreatDoorC9
import Derived.Test.YtbihljnjaondcaaGreatDoorC8
import Derived.Test.YtbihljnjaondcaaGreatDoorC7
import Derived.Test.YtbihljnjaondcaaGreatDoorC19
import Derived.Test.YtbihljnjaondcaaGreatDoorC18
import Derived.Test.YtbihljnjaondcaaGreatDoorC17
set_option maxRecDepth 100000
open Go.Proofs.YtbihljnjaondcaaGreatDoor (a0p a0q a0r a0s yw bU fO cO PS iy1 PT FX iy4 iy5 iy6 Yo iy8 iy9 aAJ)
set_option linter.unusedVariables false
set_option linter.unusedSimpArgs false
namespace bZ
open Go Go.RowKit
section
variable {P:Program} {ρ:Operand→Value} {w:World} {dst:Option Tmp} {ty:TypeId} {pos:String} {fB:Array Edge} {gd:Option (Nat×Bool)}
theorem Vq {t t':TypeId} {x y:Operand} {a b c:List UInt8} (hx:ρ x = .string ⟨a.toArray⟩) (hy:ρ y = .string ⟨b.toArray⟩) (hl:a.length+b.length≤9223372036854775807) (h:a++b=c) :
  (execOp ρ ⟨dst,.binOp .add t x y t',ty,pos,fB,gd⟩).run P w = .ok (.value (.string ⟨c.toArray⟩)) w:=by
 subst h
 have e:(⟨a.toArray⟩:ByteArray)++⟨b.toArray⟩=⟨(a++b).toArray⟩:=by
  apply ByteArray.ext
  simp [ByteArray.data_append]
 have h1:(⟨a.toArray⟩:ByteArray).size=a.length:=by simp [ByteArray.size]
 have h2:(⟨b.toArray⟩:ByteArray).size=b.length:=by simp [ByteArray.size]
 have h3:¬ (((a.length+b.length:Nat):Int) > IntKind.i64.max):=by
  show ¬ (((a.length+b.length:Nat):Int) > 9223372036854775807)
  omega
 simp only [execOp,hx,hy,eqGuard,binOp,Op.stringOp,h1,h2,if_neg h3,e]
 simp
theorem zC {t e:TypeId} {x y:Operand} {k:IntKind} {i:Int} {g off n c size j:Nat} {v:Value} (hx:ρ x = .slice (some ⟨g,off,none⟩) n c) (hy:ρ y = .int k i) (hu : ∀ w,(underlying t).run P w = .ok (.slice e) w) (hs : ∀ w,(Go.sizeOf e).run P w = .ok size w)
  (hi:i=(j:Int)) (hj:j < n) (hv:Value.pointer (some ⟨g,off+j*size,none⟩)=v):(execOp ρ ⟨dst,.indexAddr t x y,ty,pos,fB,gd⟩).run P w = .ok (.value v) w:=by
 subst hi hv
 have e:(⟨g,off,none⟩:Addr).add (j*size)=⟨g,off+j*size,none⟩:=by unfold Addr.add; split <;> simp_all
 simp [execOp,hx,hy,Instr.indexAt,asIntOf,hu,hs,e]
 intro h; omega
theorem aEY {t t':TypeId} {x y:Operand} {a b:ByteArray} {c:Bool} (hx:ρ x = .string a) (hy:ρ y = .string b) (h:(a.toList==b.toList)=c) :
  (execOp ρ ⟨dst,.binOp .eql t x y t',ty,pos,fB,gd⟩).run P w = .ok (.value (.bool c)) w:=by
 subst h
 simp [execOp,hx,hy,eqGuard,binOp,Op.stringOp]
theorem Zp {t t':TypeId} {x y:Operand} {a b:List UInt8} {c:Bool} (hx:ρ x = .string ⟨a.toArray⟩) (hy:ρ y = .string ⟨b.toArray⟩) (h:(a==b)=c) :
  (execOp ρ ⟨dst,.binOp .eql t x y t',ty,pos,fB,gd⟩).run P w = .ok (.value (.bool c)) w:=aEY hx hy (by rw [ByteArray.toList_eq,ByteArray.toList_eq]; simpa using h)
end
section
variable {P:Program} {ops:Array Oper} {Q:Exit→Act→World→Prop} {N:Nat} {T T':List (Nat×Value)} {w:World} {late:List Nat} {S:World→Prop} {fuel:Nat} {listed:Array Bool}
theorem ai.pass {o oj:Oper} {d i j t:Nat} {want b:Bool} {listed':Array Bool} {rs:List Nat} (hi:ops[i]? = some o) (hd:o.dst=some d) (hN:Nat.ble (d+1) N=true) (hg:o.guard=some (j,want)) (hj:ops[j]? = some oj) (hdj:oj.dst=some t) (uD:Nat.ble (t+1) N=true) (hv:iR T t=some (.bool b)) (hb:(b==want)=false)
  (hl':listed.setIfInBounds i true=listed') (h:(pX late listed'→S w)∧JR P ops Q late S fuel listed' N ((d,undef) :: T) w) (hrest:ai P ops Q late S fuel listed N T w rs):ai P ops Q late S fuel listed N T w (i :: rs):=by
 subst hl'
 intro k hk a ha
 rcases List.mem_cons.1 hk with rfl | hk
 ·unfold wpOp
  simp only [hi]
  have hy:=VO ha hj hdj uD hv
  rw [if_neg (show ¬ Region.wanted _ _=true by simp [Region.wanted,hg,hy]; cases b <;> cases want <;> simp_all)]
  rw [hd]
  exact ⟨h.1,h.2 _ (ha.put hN undef)⟩
 ·exact hrest k hk a ha
theorem JC.Qr (n:Nat) {c:Code} (h:JC P c (Exit.then (Code.rounds P c Q n) Q) N T w):JC P (.loop c) Q N T w:=fun a ha=>wp_loop_rounds (n+1) (h a ha)
theorem JL.again (n:Nat) {c:Code} (hT : ∀ t v,iR T' t=some v→iR T t=some v) (h:JC P c (Exit.then (Code.rounds P c Q n) Q) N T' w):JL P ops (Exit.then (Code.rounds P c Q (n+1)) Q) [] N T w:=fun a ha=>h a (ha.sub hT)
theorem JR.again (n:Nat) {c:Code} (hr:Region.ready .any ops listed=[]) (hT : ∀ t v,iR T' t=some v→iR T t=some v) (h:JC P c (Exit.then (Code.rounds P c Q n) Q) N T' w):JR P ops (Exit.then (Code.rounds P c Q (n+1)) Q) late S fuel listed N T w:=JR.done hr fun a ha=>h a (ha.sub hT)
end
section
variable {P:Program} {ops:Array Oper} {Q:Exit→Act→World→Prop} {late:List Nat} {S:World→Prop} {N d fuel i:Nat} {T:List (Nat×Value)} {W0 w:World} {U:List Box} {Ps:List (World→Prop)} {listed listed':Array Bool}
theorem ai.load {t et:TypeId} {x:Operand} {g off n:Nat} {vs:List Value} {ty:TypeId} {pos:String} {fB:Array Edge} {rs:List Nat} (v:Value) (HS:St W0 U Ps w) (k:Nat) (hi:ops[i]? = some ⟨some d,.load t x,ty,pos,fB,none⟩) (hN:Nat.ble (d+1) N=true) (hx:ev T x=some (.pointer (some ⟨g,off,none⟩))) (hk:U[k]? = some ⟨g,et,vs⟩)
  (hg : ∀ w,(isAgg t).run P w = .ok true w) (hs : ∀ w,(Go.sizeOf t).run P w = .ok n w) (hfit:Nat.ble (off+n) vs.length=true) (hv:Value.agg ((vs.drop off).take n).toArray=v) (hl':listed.setIfInBounds i true=listed')
  (h:(pX late listed'→S w)∧JR P ops Q late S fuel listed' N ((d,v) :: T) w) (hrest:ai P ops Q late S fuel listed N T w rs):ai P ops Q late S fuel listed N T w (i :: rs):=by
 subst hl' hv
 intro j hj a ha
 rcases List.mem_cons.1 hj with rfl | hj
 ·unfold wpOp
  simp only [hi]
  rw [if_pos (show Region.wanted _ _=true from rfl)]
  refine .inl ?_
  unfold Oper.wp
  rw [Vr (ha.ev hx) hg hs (HS.box _ (List.mem_of_getElem? hk)) (by simpa using hfit)]
  exact ⟨h.1,h.2 _ (ha.put hN _)⟩
 ·exact hrest j hj a ha
theorem ai.xw {t et:TypeId} {x:Operand} {g off:Nat} {vs:List Value} {ty:TypeId} {pos:String} {fB:Array Edge} {rs:List Nat} (v:Value) (HS:St W0 U Ps w) (k:Nat) (hi:ops[i]? = some ⟨some d,.load t x,ty,pos,fB,none⟩) (hN:Nat.ble (d+1) N=true) (hx:ev T x=some (.pointer (some ⟨g,off,none⟩))) (hk:U[k]? = some ⟨g,et,vs⟩)
  (hg : ∀ w,(isAgg t).run P w = .ok false w) (hv:vs[off]? = some v) (hl':listed.setIfInBounds i true=listed')
  (h:(pX late listed'→S w)∧JR P ops Q late S fuel listed' N ((d,v) :: T) w) (hrest:ai P ops Q late S fuel listed N T w rs):ai P ops Q late S fuel listed N T w (i :: rs):=by
 subst hl'
 intro j hj a ha
 rcases List.mem_cons.1 hj with rfl | hj
 ·unfold wpOp
  simp only [hi]
  rw [if_pos (show Region.wanted _ _=true from rfl)]
  refine .inl ?_
  unfold Oper.wp
  rw [Ef (ha.ev hx) hg (HS.box _ (List.mem_of_getElem? hk)) (by simpa using hv)]
  exact ⟨h.1,h.2 _ (ha.put hN _)⟩
 ·exact hrest j hj a ha
theorem ai.ac6 {t et:TypeId} {x:Operand} {g off n:Nat} {vs:List Value} {ty:TypeId} {pos:String} {fB:Array Edge} {rs:List Nat} {jg:Nat} {want:Bool} {oj:Oper} {tg:Nat} (v:Value) (HS:St W0 U Ps w) (k:Nat) (hi:ops[i]? = some ⟨some d,.load t x,ty,pos,fB,some (jg,want)⟩) (hjg:ops[jg]? = some oj) (hdj:oj.dst=some tg) (uD:Nat.ble (tg+1) N=true) (Yh:iR T tg=some (.bool want)) (hN:Nat.ble (d+1) N=true) (hx:ev T x=some (.pointer (some ⟨g,off,none⟩))) (hk:U[k]? = some ⟨g,et,vs⟩)
  (hg : ∀ w,(isAgg t).run P w = .ok true w) (hs : ∀ w,(Go.sizeOf t).run P w = .ok n w) (hfit:Nat.ble (off+n) vs.length=true) (hv:Value.agg ((vs.drop off).take n).toArray=v) (hl':listed.setIfInBounds i true=listed')
  (h:(pX late listed'→S w)∧JR P ops Q late S fuel listed' N ((d,v) :: T) w) (hrest:ai P ops Q late S fuel listed N T w rs):ai P ops Q late S fuel listed N T w (i :: rs):=by
 subst hl' hv
 intro j hj a ha
 rcases List.mem_cons.1 hj with rfl | hj
 ·unfold wpOp
  simp only [hi]
  rw [if_pos (show Region.wanted _ _=true by simp [Region.wanted,VO ha hjg hdj uD Yh])]
  refine .inl ?_
  unfold Oper.wp
  rw [Vr (ha.ev hx) hg hs (HS.box _ (List.mem_of_getElem? hk)) (by simpa using hfit)]
  exact ⟨h.1,h.2 _ (ha.put hN _)⟩
 ·exact hrest j hj a ha
theorem ai.buildSlice {t e:TypeId} {len size:Nat} {l:List (Nat×Operand)} {ps:List (Nat×Value)} {z:Value} {vs:List Value} {ty:TypeId} {pos:String} {fB:Array Edge} {rs:List Nat} (HS:St W0 U Ps w) (hi:ops[i]? = some ⟨some d,.buildSlice t len l.toArray,ty,pos,fB,none⟩) (hN:Nat.ble (d+1) N=true)
  (hl : ∀ a,Kn a N T→l.map (fun p=>(p.1,a.eval p.2))=ps) (hu : ∀ w,(underlying t).run P w = .ok (.slice e) w) (hs : ∀ w,(Go.sizeOf e).run P w = .ok size w) (hz : ∀ w,(zeroValue e).run P w = .ok z w) (hb:Nat.ble (len*size) (2 ^ 24)=true) (h0:(len*size==0)=false)
  (hf:Instr.fill (fun i=>some (i*size,size)) ((Array.range (len*size)).map (z.cells[· % z.cells.size]!)) ps=some vs.toArray) (N7:vs.all F8=true) (hl':listed.setIfInBounds i true=listed')
  (h : ∀ g w',St W0 (⟨g,e,vs⟩ :: U) Ps w'→(pX late listed'→S w')∧JR P ops Q late S fuel listed' N ((d,.slice (some ⟨g,0,none⟩) len len) :: T) w') (hrest:ai P ops Q late S fuel listed N T w rs):ai P ops Q late S fuel listed N T w (i :: rs):=by
 subst hl'
 have h2:=HS.alloc e vs N7
 intro j hj a ha
 rcases List.mem_cons.1 hj with rfl | hj
 ·unfold wpOp
  simp only [hi]
  rw [if_pos (show Region.wanted _ _=true from rfl)]
  refine .inl ?_
  unfold Oper.wp
  rw [run_buildSlice (hl a ha) hu hs hz hb h0 hf]
  have:=h _ _ h2
  exact ⟨this.1,this.2 _ (ha.put hN _)⟩
 ·exact hrest j hj a ha
end
section
variable {P:Program} {ops:Array Oper} {Q:Exit→Act→World→Prop} {N:Nat} {T T':List (Nat×Value)} {w:World}
theorem JL.sub {l:List Oper} (hT : ∀ t v,iR T' t=some v→iR T t=some v) (h:JL P ops Q l N T' w):JL P ops Q l N T w:=fun a ha=>h a (ha.sub hT)
end
def Kq (T:List (Nat×Value)):List (Nat×Value)→Prop
 | []=>True
 | (k,u) :: r=>iR T k=some u∧Kq T r
theorem Kq.out {T:List (Nat×Value)} : ∀ {T':List (Nat×Value)},Kq T T' → ∀ t v,iR T' t=some v→iR T t=some v
 | [],_=>Ei
 | (_,_) :: _,h=>bz h.1 (Kq.out h.2)
section
variable {P:Program} {ops:Array Oper} {Q:Exit→Act→World→Prop} {late:List Nat} {S:World→Prop} {N d fuel:Nat} {T:List (Nat×Value)} {w:World} {U:List Box} {listed:Array Bool} {o:Oper} {v:Value}
def Sz (ops:Array Oper) (late:List Nat) (listed:Array Bool) (i:Nat):Bool:=Region.noSelect ops&&(Region.free .any ops listed i&&((Region.ready .any ops listed).contains i&&U6 late i))
def Sv (ops:Array Oper) (late:List Nat) (listed:Array Bool) (i:Nat):Bool:=Region.noSelect ops&&(Region.free .any ops listed i&&((Region.ready .any ops listed).contains i&&(waits ops late i&&late.all fun s => !listed.getD s false)))
theorem ah' {i:Nat} (h:Sz ops late listed i=true):Region.noSelect ops=true∧Region.free .any ops listed i=true∧(Region.ready .any ops listed).contains i=true∧U6 late i=true:=by
 unfold Sz at h
 simpa only [Bool.and_eq_true] using h
theorem ah9 {i:Nat} (h:Sv ops late listed i=true):Region.noSelect ops=true∧Region.free .any ops listed i=true∧(Region.ready .any ops listed).contains i=true∧waits ops late i=true∧pX late listed:=by
 unfold Sv at h
 simp only [Bool.and_eq_true] at h
 refine ⟨h.1,h.2.1,h.2.2.1,h.2.2.2.1,fun s hs => ?_⟩
 have:=List.all_eq_true.1 h.2.2.2.2 s hs
 simpa using this
theorem J1 (i:Nat) (hr:Region.ready .any ops listed=[i]) (h:ai P ops Q late S fuel listed N T w [i]):JR P ops Q late S (fuel+1) listed N T w:=JR.any [i] hr rfl h
theorem eX {s:Nat} (hs:late.contains s=true) (h:listed.getD s false=true) {p:Prop} : pX late listed→p:=fun hn=>absurd (hn s (by simpa using hs)) (by rw [h]; decide)
theorem Jv {op:Op} {ty:TypeId} {pos:String} {fB:Array Edge} (v:Value) (i:Nat) (hc:Sz ops late listed i=true) (hi:ops[i]? = some ⟨some d,op,ty,pos,fB,none⟩) (hN:Nat.ble (d+1) N=true) (hq : ∀ c a w,Q (.panic c) (a.put (some d) v) w→Q (.panic c) a w) (hS:pX late listed→S w)
  (hrun : ∀ a,Kn a N T → ∀ w,(execOp a.eval ⟨some d,op,ty,pos,fB,none⟩).run P w = .ok (.value v) w) (h:JR P ops Q late S fuel (listed.setIfInBounds i true) N ((d,v) :: T) w):JR P ops Q late S (fuel+1) listed N T w :=
 have ⟨a,b,c,e⟩:=ah' hc
 JR.val i hi a b c e hq rfl hN rfl hS hrun rfl h
theorem Jvg {op:Op} {ty:TypeId} {pos:String} {fB:Array Edge} {j:Nat} {want:Bool} {oj:Oper} {t:Nat} (v:Value) (i:Nat) (hc:Sz ops late listed i=true) (hi:ops[i]? = some ⟨some d,op,ty,pos,fB,some (j,want)⟩) (hN:Nat.ble (d+1) N=true) (hq : ∀ c a w,Q (.panic c) (a.put (some d) v) w→Q (.panic c) a w)
  (hj:ops[j]? = some oj) (hdj:oj.dst=some t) (uD:Nat.ble (t+1) N=true) (hv:iR T t=some (.bool want)) (hS:pX late listed→S w)
  (hrun : ∀ a,Kn a N T → ∀ w,(execOp a.eval ⟨some d,op,ty,pos,fB,some (j,want)⟩).run P w = .ok (.value v) w) (h:JR P ops Q late S fuel (listed.setIfInBounds i true) N ((d,v) :: T) w):JR P ops Q late S (fuel+1) listed N T w :=
 have ⟨a,b,c,e⟩:=ah' hc
 JR.ZO i hi a b c e hq rfl hN rfl hj hdj uD hv hS hrun rfl h
theorem Jp {op:Op} {ty:TypeId} {pos:String} {fB:Array Edge} {j:Nat} {want b:Bool} {oj:Oper} {t:Nat} (i:Nat) (hc:Sz ops late listed i=true) (hi:ops[i]? = some ⟨some d,op,ty,pos,fB,some (j,want)⟩) (hN:Nat.ble (d+1) N=true) (hq : ∀ c a w,Q (.panic c) (a.put (some d) undef) w→Q (.panic c) a w)
  (hj:ops[j]? = some oj) (hdj:oj.dst=some t) (uD:Nat.ble (t+1) N=true) (hv:iR T t=some (.bool b)) (hb:(b==want)=false) (hS:pX late listed→S w) (h:JR P ops Q late S fuel (listed.setIfInBounds i true) N ((d,undef) :: T) w):JR P ops Q late S (fuel+1) listed N T w :=
 have ⟨a,b,c,e⟩:=ah' hc
 JR.pass i hi a b c e hq rfl hN rfl hj hdj uD hv hb hS rfl h
theorem Jl {t et:TypeId} {x:Operand} {g off n:Nat} {vs:List Value} {ty:TypeId} {pos:String} {fB:Array Edge} (v:Value) (i j:Nat) (hc:Sv ops late listed i=true) (hi:ops[i]? = some ⟨some d,.load t x,ty,pos,fB,none⟩) (hq : ∀ c a w,Q (.panic c) (a.put (some d) v) w→Q (.panic c) a w) (hN:Nat.ble (d+1) N=true)
  (hS:pX late listed→Boxed U w) (hx:ev T x=some (.pointer (some ⟨g,off,none⟩))) (hj:U[j]? = some ⟨g,et,vs⟩) (hg : ∀ w,(isAgg t).run P w = .ok true w) (hsz : ∀ w,(Go.sizeOf t).run P w = .ok n w) (hfit:Nat.ble (off+n) vs.length=true) (hv:Value.agg ((vs.drop off).take n).toArray=v)
  (h:JR P ops Q late (Boxed U) fuel (listed.setIfInBounds i true) N ((d,v) :: T) w):JR P ops Q late (Boxed U) (fuel+1) listed N T w :=
 have ⟨a,b,c,e,f⟩:=ah9 hc
 JR.load v i j hi a b c e hq hN hS f hx hj hg hsz hfit hv rfl h
theorem fM {t et:TypeId} {x:Operand} {g off n:Nat} {vs:List Value} {ty:TypeId} {pos:String} {fB:Array Edge} {jg:Nat} {want:Bool} {oj:Oper} {tg:Nat} (v:Value) (i j:Nat) (hc:Sv ops late listed i=true) (hi:ops[i]? = some ⟨some d,.load t x,ty,pos,fB,some (jg,want)⟩) (hq : ∀ c a w,Q (.panic c) (a.put (some d) v) w→Q (.panic c) a w) (hN:Nat.ble (d+1) N=true)
  (hjg:ops[jg]? = some oj) (hdj:oj.dst=some tg) (uD:Nat.ble (tg+1) N=true) (Yh:iR T tg=some (.bool want))
  (hS:pX late listed→Boxed U w) (hx:ev T x=some (.pointer (some ⟨g,off,none⟩))) (hj:U[j]? = some ⟨g,et,vs⟩) (hg : ∀ w,(isAgg t).run P w = .ok true w) (hsz : ∀ w,(Go.sizeOf t).run P w = .ok n w) (hfit:Nat.ble (off+n) vs.length=true) (hv:Value.agg ((vs.drop off).take n).toArray=v)
  (h:JR P ops Q late (Boxed U) fuel (listed.setIfInBounds i true) N ((d,v) :: T) w):JR P ops Q late (Boxed U) (fuel+1) listed N T w :=
 have ⟨a,b,c,e,f⟩:=ah9 hc
 JR.ac6 v i j hi a b c e hq hN hjg hdj uD Yh hS f hx hj hg hsz hfit hv rfl h
end
section
variable {P:Program} {ops:Array Oper} {Q:Exit→Act→World→Prop} {late:List Nat} {S:World→Prop} {N d fuel:Nat} {T:List (Nat×Value)} {W0 w w':World} {U:List Box} {Ps:List (World→Prop)} {listed:Array Bool} {o:Oper} {rest:List Oper}
theorem St.b0 (HS:St W0 U Ps w):pX late listed→Boxed U w:=fun _ b hb=>HS.box b hb
theorem St.b1 {x:Box} (HS:St W0 (x :: U) Ps w):pX late listed→Boxed U w:=fun _ b hb=>HS.box b (.tail _ hb)
theorem St.b2 {x y:Box} (HS:St W0 (x :: y :: U) Ps w):pX late listed→Boxed U w:=fun _ b hb=>HS.box b (.tail _ (.tail _ hb))
theorem St.b3 {x y z:Box} (HS:St W0 (x :: y :: z :: U) Ps w):pX late listed→Boxed U w:=fun _ b hb=>HS.box b (.tail _ (.tail _ (.tail _ hb)))
theorem Lv (v:Value) (hrun : ∀ a,Kn a N T→(execOp a.eval o).run P w = .ok (.value v) w') (h:JL P ops Q rest N ((d,v) :: T) w') (hg:o.guard=none:=by rfl) (hd:o.dst=some d:=by rfl) (hN:Nat.ble (d+1) N=true:=by rfl):JL P ops Q (o :: rest) N T w:=JL.val hg hd hN hrun h
theorem JR.mt {ι:Type} {T':ι→List (Nat×Value)} {G:ι→World→Prop} (i:ι) (hG:G i w) (hr:Region.ready .any ops listed=[]:=by kernel_rfl) (hT:Kq T (T' i):=by (repeat refine ⟨rfl,?_⟩); trivial):JR P ops (Exit.then (fun a w => ∃ i,Kn a N (T' i)∧G i w) Q) late S fuel listed N T w:=JR.meet hr i hT.out hG
theorem JL.mt {ι:Type} {T':ι→List (Nat×Value)} {G:ι→World→Prop} (i:ι) (hG:G i w) (hT:Kq T (T' i):=by (repeat refine ⟨rfl,?_⟩); trivial):JL P ops (Exit.then (fun a w => ∃ i,Kn a N (T' i)∧G i w) Q) [] N T w:=JL.meet i hT.out hG
theorem JC.mt {ι:Type} {T':ι→List (Nat×Value)} {G:ι→World→Prop} (i:ι) (hG:G i w) (hT:Kq T (T' i):=by (repeat refine ⟨rfl,?_⟩); trivial):JC P .skip (Exit.then (fun a w => ∃ i,Kn a N (T' i)∧G i w) Q) N T w:=JC.aA3 i hT.out hG
theorem Lg {j:Nat} {want:Bool} {oj:Oper} {t:Nat} (v:Value) (hrun : ∀ a,Kn a N T→(execOp a.eval o).run P w = .ok (.value v) w') (h:JL P ops Q rest N ((d,v) :: T) w') (hg:o.guard=some (j,want):=by rfl) (hd:o.dst=some d:=by rfl) (hN:Nat.ble (d+1) N=true:=by rfl) (hj:ops[j]? = some oj:=by rfl) (hdj:oj.dst=some t:=by rfl) (uD:Nat.ble (t+1) N=true:=by rfl) (hv:iR T t=some (.bool want):=by rfl):JL P ops Q (o :: rest) N T w:=JL.ZO hg hd hN hj hdj uD hv hrun h
theorem Lp {j:Nat} {want b:Bool} {oj:Oper} {t:Nat} (h:JL P ops Q rest N ((d,undef) :: T) w) (hg:o.guard=some (j,want):=by rfl) (hd:o.dst=some d:=by rfl) (hN:Nat.ble (d+1) N=true:=by rfl) (hj:ops[j]? = some oj:=by rfl) (hdj:oj.dst=some t:=by rfl) (uD:Nat.ble (t+1) N=true:=by rfl) (hv:iR T t=some (.bool b):=by rfl) (hb:(b==want)=false:=by rfl):JL P ops Q (o :: rest) N T w:=JL.pass hg hd hN hj hdj uD hv hb h
theorem Dv {op:Op} {ty:TypeId} {pos:String} {fB:Array Edge} (v:Value) (i:Nat) (hi:ops[i]? = some ⟨some d,op,ty,pos,fB,none⟩) (hS:pX late listed→S w)
  (hrun : ∀ a,Kn a N T → ∀ w,(execOp a.eval ⟨some d,op,ty,pos,fB,none⟩).run P w = .ok (.value v) w) (h:JR P ops Q late S fuel (listed.setIfInBounds i true) N ((d,v) :: T) w)
  (hc:Sz ops late listed i=true:=by kernel_rfl) (hN:Nat.ble (d+1) N=true:=by rfl) (hq : ∀ c a w,Q (.panic c) (a.put (some d) v) w→Q (.panic c) a w:=by exact fun _ _ _ h=>h):JR P ops Q late S (fuel+1) listed N T w:=Jv v i hc hi hN hq hS hrun h
theorem Dg {op:Op} {ty:TypeId} {pos:String} {fB:Array Edge} {j:Nat} {want:Bool} {oj:Oper} {t:Nat} (v:Value) (i:Nat) (hi:ops[i]? = some ⟨some d,op,ty,pos,fB,some (j,want)⟩) (hS:pX late listed→S w)
  (hrun : ∀ a,Kn a N T → ∀ w,(execOp a.eval ⟨some d,op,ty,pos,fB,some (j,want)⟩).run P w = .ok (.value v) w) (h:JR P ops Q late S fuel (listed.setIfInBounds i true) N ((d,v) :: T) w)
  (hc:Sz ops late listed i=true:=by kernel_rfl) (hN:Nat.ble (d+1) N=true:=by rfl) (hq : ∀ c a w,Q (.panic c) (a.put (some d) v) w→Q (.panic c) a w:=by exact fun _ _ _ h=>h)
  (hj:ops[j]? = some oj:=by rfl) (hdj:oj.dst=some t:=by rfl) (uD:Nat.ble (t+1) N=true:=by rfl) (hv:iR T t=some (.bool want):=by rfl):JR P ops Q late S (fuel+1) listed N T w:=Jvg v i hc hi hN hq hj hdj uD hv hS hrun h
theorem Da {t et:TypeId} {x:Operand} {g off n:Nat} {vs:List Value} {ty:TypeId} {pos:String} {fB:Array Edge} (v:Value) (i j:Nat) (hi:ops[i]? = some ⟨some d,.load t x,ty,pos,fB,none⟩) (hS:pX late listed→Boxed U w) (hx:ev T x=some (.pointer (some ⟨g,off,none⟩))) (hj:U[j]? = some ⟨g,et,vs⟩)
  (hg : ∀ w,(isAgg t).run P w = .ok true w) (hsz : ∀ w,(Go.sizeOf t).run P w = .ok n w) (h:JR P ops Q late (Boxed U) fuel (listed.setIfInBounds i true) N ((d,v) :: T) w) (hfit:Nat.ble (off+n) vs.length=true:=by rfl) (hv:Value.agg ((vs.drop off).take n).toArray=v:=by rfl)
  (hc:Sv ops late listed i=true:=by kernel_rfl) (hN:Nat.ble (d+1) N=true:=by rfl) (hq : ∀ c a w,Q (.panic c) (a.put (some d) v) w→Q (.panic c) a w:=by exact fun _ _ _ h=>h):JR P ops Q late (Boxed U) (fuel+1) listed N T w:=Jl v i j hc hi hq hN hS hx hj hg hsz hfit hv h
theorem bJ {i:Nat} {f:FuncId} {l:List Operand} {Ej:Array TypeId} {vs:List Value} {R:Value→World→Prop} {ty:TypeId} {pos:String} {fB:Array Edge} (_i:Nat) (_e:_i=i) (hi:ops[i]? = some ⟨some d,.call ⟨.value (.func f),l.toArray,Ej⟩,ty,pos,fB,none⟩) (hl:evs T l=some vs)
  (hc : ∀ args w,Sem.run P (callFunc f args) w = .ok (.enter f args) w) (hcall:bY P f vs w R) (h : ∀ v w',R v w'→(pX late (listed.setIfInBounds i true)→S w')∧JR P ops Q late S fuel (listed.setIfInBounds i true) N ((d,v) :: T) w')
  (hr:Region.ready .any ops listed=[i]:=by kernel_rfl) (hN:Nat.ble (d+1) N=true:=by rfl):JR P ops Q late S (fuel+1) listed N T w:=J1 i hr (ai.call hi hN hl hc hcall rfl h ai.nil)
theorem jy {t:TypeId} {z:Value} {vs:List Value} {ty:TypeId} {pos:String} {fB:Array Edge} (i:Nat) (HS:St W0 U Ps w) (hi:ops[i]? = some ⟨some d,.alloc t,ty,pos,fB,none⟩) (hz : ∀ w,(zeroValue t).run P w = .ok z w) (hvs:z.cells.toList=vs)
  (h : ∀ g w',St W0 (⟨g,t,vs⟩ :: U) Ps w'→(pX late (listed.setIfInBounds i true)→S w')∧JR P ops Q late S fuel (listed.setIfInBounds i true) N ((d,.pointer (some ⟨g,0,none⟩)) :: T) w')
  (hr:Region.ready .any ops listed=[i]:=by kernel_rfl) (hN:Nat.ble (d+1) N=true:=by rfl) (hs:vs.all F8=true:=by rfl):JR P ops Q late S (fuel+1) listed N T w:=J1 i hr (ai.alloc HS hi hN hz hvs hs rfl h ai.nil)
theorem bF {t et:TypeId} {x y:Operand} {g off n:Nat} {v:Value} {vs:List Value} {ty:TypeId} {pos:String} {fB:Array Edge} (i:Nat) (vs':List Value) (HS:St W0 U Ps w) (k:Nat) (hi:ops[i]? = some ⟨none,.store t x y,ty,pos,fB,none⟩) (hx:ev T x=some (.pointer (some ⟨g,off,none⟩))) (hy:ev T y=some v) (hk:U[k]? = some ⟨g,et,vs⟩)
  (hs : ∀ w,(Go.sizeOf t).run P w = .ok n w) (h : ∀ w',St W0 (U.set k ⟨g,et,vs'⟩) Ps w'→(pX late (listed.setIfInBounds i true)→S w')∧JR P ops Q late S fuel (listed.setIfInBounds i true) N T w')
  (hr:Region.ready .any ops listed=[i]:=by kernel_rfl) (hn:Nat.beq v.cells.size n=true:=by rfl) (hfit:Nat.ble (off+n) vs.length=true:=by rfl) (h1:v.cells.toList.all Value.oneCell'=true:=by rfl) (hw:wr vs off v.cells.toList=vs':=by rfl) (N7:vs'.all F8=true:=by rfl):JR P ops Q late S (fuel+1) listed N T w :=
 J1 i hr (ai.store HS hi hx hy k hk hs hn hfit h1 hw N7 rfl h ai.nil)
end
end bZ
namespace Lw
theorem SH (q r:Rat):gY q r=if r < q then r else q:=by
 unfold gY qF
 by_cases h:r < q
 ·rw [if_pos h,if_pos h]; simp
 ·rw [if_neg h,if_neg h]
  by_cases h2:q < r
  ·rw [if_pos h2]; simp
  ·rw [if_neg h2]; simp
theorem PW (q r:Rat):gX q r=if q < r then r else q:=by
 unfold gX qF
 by_cases h:r < q
 ·rw [if_pos h,if_neg (show ¬ q < r by grind)]; simp
 ·rw [if_neg h]
  by_cases h2:q < r
  ·rw [if_pos h2,if_pos h2]; simp
  ·rw [if_neg h2,if_neg h2]; simp
theorem Ol (q r:Rat):gY q r≤q∧gY q r≤r:=by rw [SH]; split <;> grind
theorem PU (q r:Rat):q≤gX q r∧r≤gX q r:=by rw [PW]; split <;> grind
theorem YN (q r:Rat):gY q r=q∨gY q r=r:=by rw [SH]; split <;> simp
theorem YM (q r:Rat):gX q r=q∨gX q r=r:=by rw [PW]; split <;> simp
def Be (x y z t:Rat):Rat:=gY (gY (gY x y) z) t
def hi4 (x y z t:Rat):Rat:=gX (gX (gX x y) z) t
theorem UT (x y z t:Rat):Be x y z t≤x∧Be x y z t≤y∧Be x y z t≤z∧Be x y z t≤t:=by
 unfold Be
 have h1:=Ol x y
 have h2:=Ol (gY x y) z
 have h3:=Ol (gY (gY x y) z) t
 grind
theorem UR (x y z t:Rat):x≤hi4 x y z t∧y≤hi4 x y z t∧z≤hi4 x y z t∧t≤hi4 x y z t:=by
 unfold hi4
 have h1:=PU x y
 have h2:=PU (gX x y) z
 have h3:=PU (gX (gX x y) z) t
 grind
theorem ac5 (x y z t:Rat):Be x y z t=x∨Be x y z t=y∨Be x y z t=z∨Be x y z t=t:=by
 unfold Be
 have h1:=YN x y
 have h2:=YN (gY x y) z
 have h3:=YN (gY (gY x y) z) t
 grind
theorem acN (x y z t:Rat):hi4 x y z t=x∨hi4 x y z t=y∨hi4 x y z t=z∨hi4 x y z t=t:=by
 unfold hi4
 have h1:=YM x y
 have h2:=YM (gX x y) z
 have h3:=YM (gX (gX x y) z) t
 grind
theorem ac4 {x y z t u:Rat} (h1:u≤x) (h2:u≤y) (h3:u≤z) (h4:u≤t) (h:u=x∨u=y∨u=z∨u=t):u=Be x y z t:=by
 have h5:=UT x y z t
 have h6:=ac5 x y z t
 grind
theorem acM {x y z t u:Rat} (h1:x≤u) (h2:y≤u) (h3:z≤u) (h4:t≤u) (h:u=x∨u=y∨u=z∨u=t):u=hi4 x y z t:=by
 have h5:=UR x y z t
 have h6:=acN x y z t
 grind
theorem yE {k x y:Rat} (hk:0≤k) (h:x≤y):k*x≤k*y:=Rat.mul_le_mul_of_nonneg_left h hk
theorem EU {k x y:Rat} (hk:k≤0) (h:x≤y):k*y≤k*x:=by
 have:=yE (k := -k) (by grind) h
 grind
def lC (a b c d:Rat):Rat:=Be (a*c) (a*d) (b*c) (b*d)
def jV (a b c d:Rat):Rat:=hi4 (a*c) (a*d) (b*c) (b*d)
theorem aAT (x y z t:Rat):Be x y z t=Be x z y t:=by
 refine ac4 ?_ ?_ ?_ ?_ ?_
 ·exact (UT x y z t).1
 ·exact (UT x y z t).2.2.1
 ·exact (UT x y z t).2.1
 ·exact (UT x y z t).2.2.2
 ·have:=ac5 x y z t
  grind
theorem azE (x y z t:Rat):hi4 x y z t=hi4 x z y t:=by
 refine acM ?_ ?_ ?_ ?_ ?_
 ·exact (UR x y z t).1
 ·exact (UR x y z t).2.2.1
 ·exact (UR x y z t).2.1
 ·exact (UR x y z t).2.2.2
 ·have:=acN x y z t
  grind
theorem aBb (a b c d:Rat):lC a b c d=lC c d a b:=by
 unfold lC
 rw [aAT,Rat.mul_comm a c,Rat.mul_comm b c,Rat.mul_comm a d,Rat.mul_comm b d]
theorem aBa (a b c d:Rat):jV a b c d=jV c d a b:=by
 unfold jV
 rw [azE,Rat.mul_comm a c,Rat.mul_comm b c,Rat.mul_comm a d,Rat.mul_comm b d]
theorem aFI {a b c d:Rat} (h0:0≤a) (hab:a≤b) (hcd:c≤d):lC a b c d=(if c < 0 then b*c else a*c)∧jV a b c d=(if d < 0 then a*d else b*d):=by
 have f1:a*c≤a*d:=yE h0 hcd
 have f2:b*c≤b*d:=yE (by grind) hcd
 have f3:(0≤c→c*a≤c*b)∧(c≤0→c*b≤c*a):=⟨fun h=>yE h hab,fun h=>EU h hab⟩
 have f4:(0≤d→d*a≤d*b)∧(d≤0→d*b≤d*a):=⟨fun h=>yE h hab,fun h=>EU h hab⟩
 rw [Rat.mul_comm c a,Rat.mul_comm c b] at f3
 rw [Rat.mul_comm d a,Rat.mul_comm d b] at f4
 constructor
 ·refine (ac4 ?_ ?_ ?_ ?_ ?_).symm <;> split <;> grind
 ·refine (acM ?_ ?_ ?_ ?_ ?_).symm <;> split <;> grind
theorem aFH {a b c d:Rat} (h0:b < 0) (hab:a≤b) (hcd:c≤d):lC a b c d=(if d < 0 then b*d else a*d)∧jV a b c d=(if c < 0 then a*c else b*c):=by
 have f1:a*d≤a*c:=EU (by grind) hcd
 have f2:b*d≤b*c:=EU (by grind) hcd
 have f3:(0≤c→c*a≤c*b)∧(c≤0→c*b≤c*a):=⟨fun h=>yE h hab,fun h=>EU h hab⟩
 have f4:(0≤d→d*a≤d*b)∧(d≤0→d*b≤d*a):=⟨fun h=>yE h hab,fun h=>EU h hab⟩
 rw [Rat.mul_comm c a,Rat.mul_comm c b] at f3
 rw [Rat.mul_comm d a,Rat.mul_comm d b] at f4
 constructor
 ·refine (ac4 ?_ ?_ ?_ ?_ ?_).symm <;> split <;> grind
 ·refine (acM ?_ ?_ ?_ ?_ ?_).symm <;> split <;> grind
theorem ao4 {a b c d:Rat} (h1:a < 0) (h2:0≤b) (h3:c < 0) (h4:0≤d):lC a b c d=gY (a*d) (b*c)∧jV a b c d=gX (a*c) (b*d):=by
 have f1:a*d≤a*0:=EU (by grind) h4
 have f2:a*0≤a*c:=EU (by grind) (by grind)
 have f3:b*c≤b*0:=yE h2 (by grind)
 have f4:b*0≤b*d:=yE h2 h4
 rw [Rat.mul_zero] at f1 f2 f3 f4
 have e1:=Ol (a*d) (b*c)
 have e2:=YN (a*d) (b*c)
 have e3:=PU (a*c) (b*d)
 have e4:=YM (a*c) (b*d)
 constructor
 ·refine (ac4 ?_ ?_ ?_ ?_ ?_).symm <;> grind
 ·refine (acM ?_ ?_ ?_ ?_ ?_).symm <;> grind
theorem aoi {c d:Rat} (h0:0 < c) (h:c≤d):d⁻¹≤c⁻¹:=by
 have hd:0 < d:=by grind
 have h1:c*c⁻¹=1:=Rat.mul_inv_cancel c (by grind)
 have h2:d*d⁻¹=1:=Rat.mul_inv_cancel d (by grind)
 have p1:0 < c⁻¹:=Rat.inv_pos.2 h0
 have p2:0 < d⁻¹:=Rat.inv_pos.2 hd
 have:=yE (k:=c⁻¹*d⁻¹) (Rat.mul_nonneg (by grind) (by grind)) h
 have e1:c⁻¹*d⁻¹*c=d⁻¹:=by
  have:c⁻¹*d⁻¹*c=(c*c⁻¹)*d⁻¹:=by grind
  rw [this,h1,Rat.one_mul]
 have e2:c⁻¹*d⁻¹*d=c⁻¹:=by
  have:c⁻¹*d⁻¹*d=(d*d⁻¹)*c⁻¹:=by grind
  rw [this,h2,Rat.one_mul]
 rw [e1,e2] at this
 exact this
theorem aoh (c:Rat):(-c)⁻¹ = -c⁻¹:=by
 by_cases h:c=0
 ·subst h; simp
 ·have h1:c*c⁻¹=1:=Rat.mul_inv_cancel c h
  have h2:(-c)*(-c)⁻¹=1:=Rat.mul_inv_cancel (-c) (by grind)
  have e:(-c)⁻¹=(-c)⁻¹*(c*c⁻¹):=by rw [h1,Rat.mul_one]
  have e2:(-c)⁻¹*(c*c⁻¹) = -(((-c)*(-c)⁻¹)*c⁻¹):=by grind
  rw [e,e2,h2,Rat.one_mul]
theorem aAp {c d:Rat} (h0:d < 0) (h:c≤d):d⁻¹≤c⁻¹:=by
 have:=aoi (c := -d) (d := -c) (by grind) (by grind)
 rw [aoh,aoh] at this
 grind
end Lw
namespace Lw
open Go Go.RowKit bZ
def FW (v:Value) (ns:List Nat) (w:World):Prop := ∃ (A:Option Addr) (n c:Nat),v = .slice A n c∧Rd w w.heap.size A ns∧ns.length=n∧n≤c
theorem FW.stable (v:Value) (ns:List Nat):Stable (FW v ns):=fun gs w w' ha h=>by
 obtain ⟨A,n,c,h1,h2,h3⟩:=h
 exact ⟨A,n,c,h1,h2.keeps ha,h3⟩
theorem FW.rd {A:Option Addr} {n c:Nat} {ns:List Nat} {w:World} (h:FW (.slice A n c) ns w):Rd w w.heap.size A ns∧ns.length=n∧n≤c:=by
 obtain ⟨A',n',c',h1,h2⟩:=h
 injection h1 with e1 e2 e3
 subst e1 e2 e3
 exact h2
section
variable {s:Bool} {A B:Option Addr} {n c m d k:Nat} {q:Rat} {w:World}
theorem FV.neg (h:FV (a0p s A n c B m d) q k true w):s=rs q:=(fJ.own h).1
theorem FV.nz (h:FV (a0p s A n c B m d) q k true w):n=0↔q=0:=Jm (fJ.own h).2.1
theorem FV.num (h:FV (a0p s A n c B m d) q k true w):FW (.slice A n c) (rn q) w:=by
 obtain ⟨_,h2,_,h4,_,_,_,h8,_⟩:=fJ.own h
 exact ⟨A,n,c,rfl,h4,h2.symm,h8⟩
theorem FV.den (h:FV (a0p s A n c B m d) q k true w):FW (.slice B m d) (rd q) w:=by
 obtain ⟨_,_,h3,_,h5,_,_,_,h9⟩:=fJ.own h
 exact ⟨B,m,d,rfl,h5,h3.symm,h9⟩
theorem FV.lens (h:FV (a0p s A n c B m d) q k true w):n≤k∧m≤k:=by
 obtain ⟨_,_,_,_,_,h6,h7,_⟩:=fJ.own h
 exact ⟨h6,h7⟩
theorem FV.mk (hs:s=rs q) (h1:FW (.slice A n c) (rn q) w) (h2:FW (.slice B m d) (rd q) w) (hn:n≤k) (hm:m≤k):FV (a0p s A n c B m d) q k true w:=by
 obtain ⟨a1,a2,a3⟩:=h1.rd
 obtain ⟨b1,b2,b3⟩:=h2.rd
 subst hs a2 b2
 exact Go.Proofs.YtbihljnjaondcaaGreatDoor.adW a1 b1 hn hm a3 b3
theorem FV.apw (h:FV (a0p s A n c B m d) q k true w):FI (.agg #[.bool s,.slice A n c]) q.num k w:=by
 obtain ⟨h1,h2,h3,h4,h5,h6,h7,h8,h9⟩:=fJ.own h
 exact ⟨s,A,n,c,rn q,w.heap.size,rfl,h4,Nat.le_refl _,h2.symm,h6,h8,by subst h1; exact (adU q).1,by subst h1; exact (adU q).2⟩
theorem FV.amw (h:FV (a0p s A n c B m d) q k true w) (hq:q≠0):FI (.agg #[.bool false,.slice B m d]) (q.den:Int) k w:=by
 obtain ⟨h1,h2,h3,h4,h5,h6,h7,h8,h9⟩:=fJ.own h
 exact ⟨false,B,m,d,rd q,w.heap.size,rfl,h5,Nat.le_refl _,h3.symm,h7,h9,(acf hq).1,(acf hq).2⟩
theorem E8 {q:Rat} : rs q=true↔q < 0:=by
 unfold rs
 rw [decide_eq_true_iff,Rat.lt_iff]
 simp
theorem apx {q:Rat} (h:q≠0):q⁻¹.num.natAbs=q.den∧(q⁻¹.num < 0↔q.num < 0)∧q⁻¹.den=q.num.natAbs∧q.num≠0∧q⁻¹.num≠0:=by
 have h0:q.num≠0:=fun e=>h (Rat.num_eq_zero.1 e)
 have hd:q.den≠0:=q.den_nz
 rw [Rat.num_inv,Rat.den_inv,if_neg h0]
 rcases Int.lt_trichotomy q.num 0 with hn | hn | hn
 ·rw [Int.sign_eq_neg_one_of_neg hn]
  refine ⟨by simp,?_,rfl,h0,?_⟩ <;> omega
 ·exact absurd hn h0
 ·rw [Int.sign_eq_one_of_pos hn]
  refine ⟨by simp,?_,rfl,h0,?_⟩ <;> omega
theorem aEE {q:Rat} (h:q≠0):rs q⁻¹=rs q∧rn q⁻¹=rd q∧rd q⁻¹=rn q:=by
 obtain ⟨h1,h2,h3,h4,h5⟩:=apx h
 unfold rs rn rd
 rw [h1,h3,if_neg h4,if_neg h5]
 exact ⟨decide_eq_decide.2 h2,rfl,rfl⟩
theorem FV.inv (h:FV (a0p s A n c B m d) q k true w) (hq:q≠0):FV (a0p s B m d A n c) q⁻¹ k true w:=by
 obtain ⟨e1,e2,e3⟩:=aEE hq
 have:=h.lens
 exact FV.mk (h.neg.trans e1.symm) (by rw [e2]; exact h.den) (by rw [e3]; exact h.num) this.2 this.1
end
theorem aBJ {q r:Rat} {s t:Bool} (h1:s=rs q) (h2:t=rs r) (h:(s != t)=true):decide (q≤r)=s:=by
 cases s <;> cases t <;> simp at h
 ·have a:=E8.1 h2.symm
  have b:¬ q < 0:=fun e=>by rw [E8.2 e] at h1; cases h1
  exact decide_eq_false (by grind)
 ·have a:=E8.1 h1.symm
  have b:¬ r < 0:=fun e=>by rw [E8.2 e] at h2; cases h2
  exact decide_eq_true (by grind)
theorem aq5:rs 0=false:=rfl
theorem aBK {q r:Rat} {s t:Bool} (h1:s=rs q) (h2:t=rs r) (h:(s != t)=false) (hq:q=0):decide (q≤r)=true:=by
 subst hq
 rw [aq5] at h1
 subst h1
 have e:t=false:=by cases t <;> simp_all
 subst e
 have b:¬ r < 0:=fun e=>by rw [E8.2 e] at h2; cases h2
 exact decide_eq_true (by grind)
theorem aBL {q r:Rat} {s t:Bool} (h1:s=rs q) (h2:t=rs r) (h:(s != t)=false) (hq:q≠0) (hr:r=0):decide (q≤r)=false:=by
 subst hr
 rw [aq5] at h2
 subst h2
 have e:s=false:=by cases s <;> simp_all
 subst e
 have b:¬ q < 0:=fun e=>by rw [E8.2 e] at h1; cases h1
 exact decide_eq_false (by grind)
theorem axF {x y:Int} : vP x y≤0↔x≤y:=by
 unfold vP
 split
 ·constructor <;> intro <;> omega
 ·split <;> constructor <;> intro <;> omega
theorem aBM {q r:Rat} : decide (q.num*(r.den:Int)≤r.num*(q.den:Int))=decide (q≤r):=by rw [decide_eq_decide,Rat.le_iff]
theorem Kr (q r:Rat):decide (qF q r > 0)=decide (r < q):=by
 rw [decide_eq_decide]; unfold qF
 split
 ·constructor <;> intro h <;> grind
 ·split <;> constructor <;> intro h <;> grind
theorem Ru (q r:Rat):decide (qF q r≤0)=decide (q≤r):=by
 have:=Kr q r
 rw [decide_eq_decide] at this ⊢
 constructor <;> intro h <;> grind
theorem axO (x y:Int):decide (vP x y≤0)=decide (x≤y):=by rw [decide_eq_decide]; exact axF
theorem ag' (x y:Int):(vP x y==0)=decide (x=y):=by
 rw [Bool.eq_iff_iff,beq_iff_eq,decide_eq_true_iff]; unfold vP
 split
 ·constructor <;> intro <;> omega
 ·split <;> constructor <;> intro <;> omega
theorem ar9 (x:Int):(sV x==0)=decide (x=0):=by
 rw [Bool.eq_iff_iff,beq_iff_eq,decide_eq_true_iff]; unfold sV
 split
 ·constructor <;> intro <;> omega
 ·split <;> constructor <;> intro <;> omega
def rG (q r:Rat):Int:=if r < 0 then -1 else if q≤0 then 0 else 1
theorem Vp {q:Rat} (h:false=rs q):0≤q:=by
 have:¬ q < 0:=fun e=>by rw [E8.2 e] at h; cases h
 grind
theorem Zl {q:Rat} (h:true=rs q):q < 0:=E8.1 h.symm
theorem aFv {q r:Rat} (h:true=rs r):rG q r = -1:=if_pos (Zl h)
theorem ar6 {q r:Rat} (h:false=rs r) (h2:true=rs q):rG q r=0:=by
 have:=Vp h
 have h3:=Zl h2
 unfold rG
 rw [if_neg (show ¬ r < 0 by grind),if_pos (show q≤0 by grind)]
theorem ar7 {q r:Rat} (h:false=rs r) (h2:q=0):rG q r=0:=by
 have:=Vp h
 subst h2
 unfold rG
 rw [if_neg (show ¬ r < 0 by grind),if_pos (show (0:Rat)≤0 by grind)]
theorem aFw {q r:Rat} (h:false=rs r) (h2:false=rs q) (h3:q≠0):rG q r=1:=by
 have:=Vp h
 have:=Vp h2
 unfold rG
 rw [if_neg (show ¬ r < 0 by grind),if_neg (show ¬ q≤0 by grind)]
theorem ar8 {q r:Rat} : (rG q r==0)=decide (q≤0∧0≤r):=by
 unfold rG
 rw [Bool.eq_iff_iff,beq_iff_eq,decide_eq_true_iff]
 split
 ·constructor <;> intro <;> grind
 ·split <;> constructor <;> intro <;> grind
def Oz (q r:Rat):Bool:=decide (0≤q∨r < 0)
theorem apA {q r:Rat} (h:Oz q r=true):0≤q∨r < 0:=of_decide_eq_true h
theorem P7 {q r:Rat} (h:Oz q r=false):q < 0∧0≤r:=by
 have:=of_decide_eq_false h
 grind
theorem aBH {q r:Rat} (h:false=rs q):Oz q r=true:=decide_eq_true (.inl (Vp h))
theorem apz {q r:Rat} {s:Bool} (h:true=rs q) (h2:s=rs r):Oz q r=s:=by
 have:=Zl h
 cases s
 ·have:=Vp h2
  exact decide_eq_false (by grind)
 ·exact decide_eq_true (.inr (Zl h2))
theorem aeK {a b c d:Rat} (hab:a≤b) (hcd:c≤d) (h:0≤a∨b < 0) :
  lC a b c d=(if rs b=true then (if rs d=true then b*d else a*d) else (if rs c=true then b*c else a*c))∧jV a b c d=(if rs b=true then (if rs c=true then a*c else b*c) else (if rs d=true then a*d else b*d)):=by
 by_cases hb:b < 0
 ·rw [if_pos (E8.2 hb),if_pos (E8.2 hb)]
  have:=aFH hb hab hcd
  simp only [E8]
  exact this
 ·have hb':¬ rs b=true:=fun e=>hb (E8.1 e)
  rw [if_neg hb',if_neg hb']
  have:=aFI (show 0≤a by grind) hab hcd
  simp only [E8]
  exact this
def EZ (a b:Rat):Rat:=if rs b=true then b else a
def EI (a b:Rat):Rat:=if rs b=true then a else b
def KL (a b c:Rat):Rat:=if rs c=true then EI a b else EZ a b
def NW (a b d:Rat):Rat:=if rs d=true then EZ a b else EI a b
section
variable {P:Program} {ops:Array Oper} {Q:Exit→Act→World→Prop} {N d:Nat} {T:List (Nat×Value)} {W0 w:World} {U:List Box} {Ps:List (World→Prop)} {rest:List Oper}
theorem JL.words {t e:TypeId} {len:Nat} {l:List (Nat×Operand)} {ps:List (Nat×Value)} {z:Value} {ns:List Nat} {ty:TypeId} {pos:String} {fB:Array Edge} (HS:St W0 U Ps w) (hN:Nat.ble (d+1) N=true) (hl : ∀ a,Kn a N T→l.map (fun p=>(p.1,a.eval p.2))=ps)
  (hu : ∀ w,(underlying t).run P w = .ok (.slice e) w) (hs : ∀ w,(Go.sizeOf e).run P w = .ok 1 w) (hz : ∀ w,(zeroValue e).run P w = .ok z w) (hb:Nat.ble (len*1) (2 ^ 24)=true) (h0:(len*1==0)=false)
  (hf:Instr.fill (fun i=>some (i*1,1)) ((Array.range (len*1)).map (z.cells[· % z.cells.size]!)) ps=some (arr ns).toArray) (hw:fQ ns) (hn:ns.length=len)
  (h : ∀ g w',St W0 U (FW (.slice (some ⟨g,0,none⟩) len len) ns :: Ps) w'→JL P ops Q rest N ((d,.slice (some ⟨g,0,none⟩) len len) :: T) w'):JL P ops Q (⟨some d,.buildSlice t len l.toArray,ty,pos,fB,none⟩ :: rest) N T w :=
 JL.val rfl rfl hN (fun a ha=>run_buildSlice (hl a ha) hu hs hz hb h0 hf) (h _ _ ((HS.next ((Below.refl _ w).alloc (Nat.le_refl _) _)).add (FW.stable _ _) ⟨_,_,_,rfl,(fH.new w e ns).rd hw,hn,Nat.le_refl _⟩))
end
theorem EP {c d:Rat} (h:c≤d) (h0:0 < c∨d < 0):c≠0∧d≠0:=by grind
theorem EO {c d:Rat} (h:c≤d) (h0:0 < c∨d < 0):d⁻¹≤c⁻¹:=by
 rcases h0 with h0 | h0
 ·exact aoi h0 h
 ·exact aAp h0 h
def NR (q:Rat) (m:Nat):Rat:=Rat.divInt (q.num*((2 ^ m:Nat):Int) / (q.den:Int)) ((2 ^ m:Nat):Int)
def uJ (q:Rat) (u:Int):Nat:=rt (q.num*(u*u) / (q.den:Int)).natAbs
def yS (q:Rat) (u:Int):Bool:=decide (q.num*(u*u) % (q.den:Int)=0)&&decide (((uJ q u:Nat):Int)*((uJ q u:Nat):Int)=q.num*(u*u) / (q.den:Int))
theorem ayu {q:Rat} {u:Int} (h:q.num*(u*u) % (q.den:Int)=0):yS q u=decide (((uJ q u:Nat):Int)*((uJ q u:Nat):Int)=q.num*(u*u) / (q.den:Int)):=by
 unfold yS; rw [decide_eq_true h]; rfl
theorem ayt {q:Rat} {u:Int} (h:q.num*(u*u) % (q.den:Int)≠0):yS q u=false:=by
 unfold yS; rw [decide_eq_false h]; rfl
theorem aeh {q:Rat} {u:Int} (h:0≤q):0≤q.num*(u*u) / (q.den:Int):=by
 refine Int.ediv_nonneg (Int.mul_nonneg (Rat.num_nonneg.2 h) (by rw [← Int.natAbs_mul_self]; exact Int.natCast_nonneg _)) (by omega)
def xe (q:Rat) (m:Nat):Rat:=Rat.divInt ((uJ q ((2 ^ m:Nat):Int):Nat):Int) ((2 ^ m:Nat):Int)
def vY (q:Rat) (m:Nat):Rat:=Rat.divInt (if yS q ((2 ^ m:Nat):Int)=true then ((uJ q ((2 ^ m:Nat):Int):Nat):Int) else ((uJ q ((2 ^ m:Nat):Int):Nat):Int)+1) ((2 ^ m:Nat):Int)
theorem aqZ {q:Rat} {m:Nat} (h:yS q ((2 ^ m:Nat):Int)=true):Rat.divInt ((uJ q ((2 ^ m:Nat):Int):Nat):Int) ((2 ^ m:Nat):Int)=vY q m:=by unfold vY; rw [if_pos h]
theorem aqY {q:Rat} {m:Nat} (h:yS q ((2 ^ m:Nat):Int)=false):Rat.divInt (((uJ q ((2 ^ m:Nat):Int):Nat):Int)+1) ((2 ^ m:Nat):Int)=vY q m:=by unfold vY; rw [if_neg (by rw [h]; decide)]
theorem FV.aFp {s:Bool} {A B:Option Addr} {n c m d k:Nat} {q:Rat} {w:World} (h:FV (a0p s A n c B m d) q k true w) (hq:0≤q):s=false:=by
 have:=h.neg
 cases s
 ·rfl
 ·exact absurd (Zl this) (by grind)
def ara (q r:Rat):List UInt8:=wJ q++[46,46]++wJ r
theorem P8 {v:Value} {q:Rat} {k:Nat} {w:World} (h:FV v q k true w):(wJ q).length≤20*k+20:=by
 have h0:=fJ.lt h
 have l1:=ac2 h0.1
 have l2:=ac2 (z:=(q.den:Int)) (k:=k+1) (by rw [Int.natAbs_natCast]; exact h0.2)
 unfold wJ
 split
 ·omega
 ·simp only [List.length_append,List.length_cons,List.length_nil]; omega
def okR (b b':Bool) (q q':Rat):Bool:=b&&b'&&decide (q≤q')
def bV (b b':Bool) (q q':Rat):Rat:=if okR b b' q q'=true then q else 0
def bW (b b':Bool) (q q':Rat):Rat:=if okR b b' q q'=true then q' else 0
theorem KN {b b':Bool} {q q':Rat} (h:okR b b' q q'=true):b=true∧b'=true∧q≤q':=by
 unfold okR at h
 simp only [Bool.and_eq_true,decide_eq_true_eq] at h
 exact ⟨h.1.1,h.1.2,h.2⟩
theorem aid {b b':Bool} {q q':Rat} (h:okR b b' q q'=true):bV b b' q q'=q:=if_pos h
theorem aie {b b':Bool} {q q':Rat} (h:okR b b' q q'=true):bW b b' q q'=q':=if_pos h
theorem aib {b b':Bool} {q q':Rat} (h:okR b b' q q'=false):bV b b' q q'=0:=if_neg (by rw [h]; decide)
theorem aic {b b':Bool} {q q':Rat} (h:okR b b' q q'=false):bW b b' q q'=0:=if_neg (by rw [h]; decide)
theorem oP (b b':Bool) (q q':Rat):bV b b' q q'≤bW b b' q q':=by
 unfold bV bW
 by_cases h:okR b b' q q'=true
 ·rw [if_pos h,if_pos h]
  unfold okR at h
  simp only [Bool.and_eq_true,decide_eq_true_eq] at h
  exact h.2
 ·rw [if_neg h,if_neg h]
  exact Rat.le_refl
end Lw
namespace Go.Proofs.YtbihljnjaondcaaGreatDoor
open Go Go.RowKit Lw bZ
section
variable {W0 w:World} {U:List Box} {Ps:List (World→Prop)}
theorem adX (w:World):Sem.run Tryz.prog (Array.mapM (fun (f:Go.Field)=>Prod.mk f.offset <$> Go.sizeOf f.type) #[{ name := "Neg",type:=4,offset:=0,embedded:=false,tag := "",pkgPath := "",byteOffset:=0 },{ name := "Mag",type:=22,offset:=1,embedded:=false,tag := "",pkgPath := "",byteOffset:=8 }]) w = .ok #[(0,1),(1,1)] w:=by kernel_rfl
theorem Dh (w:World):Sem.run Tryz.prog (Array.mapM (fun (f:Go.Field)=>Prod.mk f.offset <$> Go.sizeOf f.type) #[{ name := "Neg",type:=4,offset:=0,embedded:=false,tag := "",pkgPath := "",byteOffset:=0 },{ name := "Num",type:=22,offset:=1,embedded:=false,tag := "",pkgPath := "",byteOffset:=8 },{ name := "Den",type:=22,offset:=2,embedded:=false,tag := "",pkgPath := "",byteOffset:=32 }]) w = .ok #[(0,1),(1,1),(2,1)] w:=by kernel_rfl
theorem pV (w:World):Sem.run Tryz.prog (Array.mapM (fun (f:Go.Field)=>Prod.mk f.offset <$> Go.sizeOf f.type) #[{ name := "Lo",type:=24,offset:=0,embedded:=false,tag := "",pkgPath := "",byteOffset:=0 },{ name := "Hi",type:=24,offset:=3,embedded:=false,tag := "",pkgPath := "",byteOffset:=56 }]) w = .ok #[(0,3),(3,3)] w:=by kernel_rfl
end
end Go.Proofs.YtbihljnjaondcaaGreatDoor
