/- Part of a proof, said shortly. -/
import Derived.LoopN
import Derived.Test.YtbihljnjaondcaaGreatDoorAlt
import Derived.Test.YtbihljnjaondcaaGreatDoorT31
set_option linter.unusedVariables false
set_option linter.unusedSimpArgs false
namespace acY
open Go Go.RowKit
section
variable {P:Program} {ρ:Operand→Value} {w:World} {dst:Option Tmp} {ty:TypeId} {pos:String} {aft:Array Edge} {gd:Option (Nat×Bool)}
theorem a8n {t t':TypeId} {x y:Operand} {a b c:List UInt8} (hx:ρ x = .string ⟨a.toArray⟩) (hy:ρ y = .string ⟨b.toArray⟩) (hl:a.length+b.length≤9223372036854775807) (h:a++b=c) :
  (execOp ρ ⟨dst,.binOp .add t x y t',ty,pos,aft,gd⟩).run P w = .ok (.value (.string ⟨c.toArray⟩)) w:=by
 subst h
 have e:(⟨a.toArray⟩:ByteArray)++⟨b.toArray⟩=⟨(a++b).toArray⟩:=by
  apply ByteArray.ext
  simp [ByteArray.data_append]
 have h1:(⟨a.toArray⟩:ByteArray).size=a.length:=by simp [ByteArray.size]
 have h2:(⟨b.toArray⟩:ByteArray).size=b.length:=by simp [ByteArray.size]
 have h3:¬ (((a.length+b.length:Nat):Int) > IntKind.i64.max):=by
  show ¬ (((a.length+b.length:Nat):Int) > 9223372036854775807)
  omega
 simp only [execOp,hx,hy,eqGuard,binOp,Op.stringOp,h1,h2,if_neg h3,e]
 simp
theorem bnv {t t':TypeId} {x y:Operand} {a b:ByteArray} {c:Bool} (hx:ρ x = .string a) (hy:ρ y = .string b) (h:(a.toList==b.toList)=c) :
  (execOp ρ ⟨dst,.binOp .eql t x y t',ty,pos,aft,gd⟩).run P w = .ok (.value (.bool c)) w:=by
 subst h
 simp [execOp,hx,hy,eqGuard,binOp,Op.stringOp]
theorem be3 {t t':TypeId} {x y:Operand} {a b:List UInt8} {c:Bool} (hx:ρ x = .string ⟨a.toArray⟩) (hy:ρ y = .string ⟨b.toArray⟩) (h:(a==b)=c) :
  (execOp ρ ⟨dst,.binOp .eql t x y t',ty,pos,aft,gd⟩).run P w = .ok (.value (.bool c)) w:=bnv hx hy (by rw [ByteArray.toList_eq,ByteArray.toList_eq]; simpa using h)
theorem a5b {s t:TypeId} {x:Operand} {k k':IntKind} {n m:Int} {d:TypeDesc} (hx:ρ x = .int k n) (hs : ∀ w,(underlying s).run P w = .ok d w) (hd : ∀ w,(underlying t).run P w = .ok (.int k') w) (h:k'.wrap n=m) :
  (execOp ρ ⟨dst,.convert s t x,ty,pos,aft,gd⟩).run P w = .ok (.value (.int k' m)) w:=by
 subst h
 simp [execOp,hx,convert,hs,hd,Conv.intToInt]
end
section
variable {P:Program} {ops:Array Oper} {Q:Exit→Act→World→Prop} {N:Nat} {T T':List (Nat×Value)} {w:World} {late:List Nat} {S:World→Prop} {fuel:Nat} {listed:Array Bool}
theorem bfV {a:Act} {j t:Nat} {oj:Oper} (ha:Kn a N T) (hj:ops[j]? = some oj) (hdj:oj.dst=some t) (htN:Nat.ble (t+1) N=true) (hv:lkp T t=some undef):yielded ops a.tmps j=none:=by
 have h1:=ha.2.2 t _ hv
 have h2:t < a.tmps.size:=by rw [ha.2.1]; exact Nat.le_of_ble_eq_true htN
 unfold yielded
 rw [hj,Option.bind_some,hdj,Option.bind_some]
 rw [Array.getD_eq_getD_getElem?,Array.getElem?_eq_getElem h2,Option.getD_some] at h1
 rw [Array.getElem?_eq_getElem h2,h1]
 rfl
theorem JL.beg {o oj:Oper} {rest:List Oper} {d j t:Nat} {want:Bool} (hg:o.guard=some (j,want)) (hd:o.dst=some d) (hN:Nat.ble (d+1) N=true) (hj:ops[j]? = some oj) (hdj:oj.dst=some t) (htN:Nat.ble (t+1) N=true) (hv:lkp T t=some undef)
  (h:JL P ops Q rest N ((d,undef) :: T) w):JL P ops Q (o :: rest) N T w:=by
 intro a ha
 have hy:=bfV ha hj hdj htN hv
 unfold wpList
 rw [if_neg (by simp [Region.wanted,hg,hy])]
 rw [hd]
 exact h _ (ha.put hN undef)
theorem JR.beg {o oj:Oper} {d j t:Nat} {want:Bool} {listed':Array Bool} (i:Nat) (hi:ops[i]? = some o) (hs:Region.noSelect ops=true) (hf:Region.free .any ops listed i=true) (hr:(Region.ready .any ops listed).contains i=true) (hil:a4R late i=true) (hq : ∀ c a w,Q (.panic c) (a.put o.dst undef) w→Q (.panic c) a w)
  (hd:o.dst=some d) (hN:Nat.ble (d+1) N=true) (hg:o.guard=some (j,want)) (hj:ops[j]? = some oj) (hdj:oj.dst=some t) (htN:Nat.ble (t+1) N=true) (hv:lkp T t=some undef) (hS:afn late listed→S w) (hl:listed.setIfInBounds i true=listed')
  (h:JR P ops Q late S fuel listed' N ((d,undef) :: T) w):JR P ops Q late S (fuel+1) listed N T w:=by
 subst hl
 intro a ha
 have a3g : ∀ s∈late,s≠i:=fun s hs e=>by
  have:=List.all_eq_true.1 hil s hs
  rw [e] at this; simp at this
 have hy:=bfV ha hj hdj htN hv
 refine a4b (S':=fun _=>True) hi (Region.noSelect_spec hs) hq a3g (.inl fun _=>trivial) fuel listed a w (Region.free_spec hi hf) (by simpa using hr) (.inr ⟨by simp [Region.wanted,hg,hy],rfl⟩) trivial hS (.inl fun _=>trivial) ?_
 have:=h _ (ha.put hN undef)
 rw [hd]
 exact this
theorem afb.pass {o oj:Oper} {d i j t:Nat} {want b:Bool} {listed':Array Bool} {rs:List Nat} (hi:ops[i]? = some o) (hd:o.dst=some d) (hN:Nat.ble (d+1) N=true) (hg:o.guard=some (j,want)) (hj:ops[j]? = some oj) (hdj:oj.dst=some t) (htN:Nat.ble (t+1) N=true) (hv:lkp T t=some (.bool b)) (hb:(b==want)=false)
  (hl':listed.setIfInBounds i true=listed') (h:(afn late listed'→S w)∧JR P ops Q late S fuel listed' N ((d,undef) :: T) w) (hrest:afb P ops Q late S fuel listed N T w rs):afb P ops Q late S fuel listed N T w (i :: rs):=by
 subst hl'
 intro k hk a ha
 rcases List.mem_cons.1 hk with rfl | hk
 ·unfold wpOp
  simp only [hi]
  have hy:=a5r ha hj hdj htN hv
  rw [if_neg (show ¬ Region.wanted _ _=true by simp [Region.wanted,hg,hy]; cases b <;> cases want <;> simp_all)]
  rw [hd]
  exact ⟨h.1,h.2 _ (ha.put hN undef)⟩
 ·exact hrest k hk a ha
theorem JL.again (n:Nat) {c:Code} (hT : ∀ t v,lkp T' t=some v→lkp T t=some v) (h:JC P c (Exit.then (Code.rounds P c Q n) Q) N T' w):JL P ops (Exit.then (Code.rounds P c Q (n+1)) Q) [] N T w:=fun a ha=>h a (ha.sub hT)
theorem JR.again (n:Nat) {c:Code} (hr:Region.ready .any ops listed=[]) (hT : ∀ t v,lkp T' t=some v→lkp T t=some v) (h:JC P c (Exit.then (Code.rounds P c Q n) Q) N T' w):JR P ops (Exit.then (Code.rounds P c Q (n+1)) Q) late S fuel listed N T w:=JR.done hr fun a ha=>h a (ha.sub hT)
end
section
variable {P:Program} {ops:Array Oper} {Q:Exit→Act→World→Prop} {late:List Nat} {S:World→Prop} {N d fuel i:Nat} {T:List (Nat×Value)} {W0 w:World} {U:List Box} {Ps:List (World→Prop)} {listed listed':Array Bool}
theorem afb.load {t et:TypeId} {x:Operand} {g off n:Nat} {vs:List Value} {ty:TypeId} {pos:String} {aft:Array Edge} {rs:List Nat} (v:Value) (HS:St W0 U Ps w) (k:Nat) (hi:ops[i]? = some ⟨some d,.load t x,ty,pos,aft,none⟩) (hN:Nat.ble (d+1) N=true) (hx:ev T x=some (.pointer (some ⟨g,off,none⟩))) (hk:U[k]? = some ⟨g,et,vs⟩)
  (hg : ∀ w,(isAgg t).run P w = .ok true w) (hs : ∀ w,(Go.sizeOf t).run P w = .ok n w) (hfit:Nat.ble (off+n) vs.length=true) (hv:Value.agg ((vs.drop off).take n).toArray=v) (hl':listed.setIfInBounds i true=listed')
  (h:(afn late listed'→S w)∧JR P ops Q late S fuel listed' N ((d,v) :: T) w) (hrest:afb P ops Q late S fuel listed N T w rs):afb P ops Q late S fuel listed N T w (i :: rs):=by
 subst hl' hv
 intro j hj a ha
 rcases List.mem_cons.1 hj with rfl | hj
 ·unfold wpOp
  simp only [hi]
  rw [if_pos (show Region.wanted _ _=true from rfl)]
  refine .inl ?_
  unfold Oper.wp
  rw [a5d (ha.ev hx) hg hs (HS.box _ (List.mem_of_getElem? hk)) (by simpa using hfit)]
  exact ⟨h.1,h.2 _ (ha.put hN _)⟩
 ·exact hrest j hj a ha
theorem afb.a00 {t et:TypeId} {x:Operand} {g off:Nat} {vs:List Value} {ty:TypeId} {pos:String} {aft:Array Edge} {rs:List Nat} (v:Value) (HS:St W0 U Ps w) (k:Nat) (hi:ops[i]? = some ⟨some d,.load t x,ty,pos,aft,none⟩) (hN:Nat.ble (d+1) N=true) (hx:ev T x=some (.pointer (some ⟨g,off,none⟩))) (hk:U[k]? = some ⟨g,et,vs⟩)
  (hg : ∀ w,(isAgg t).run P w = .ok false w) (hv:vs[off]? = some v) (hl':listed.setIfInBounds i true=listed')
  (h:(afn late listed'→S w)∧JR P ops Q late S fuel listed' N ((d,v) :: T) w) (hrest:afb P ops Q late S fuel listed N T w rs):afb P ops Q late S fuel listed N T w (i :: rs):=by
 subst hl'
 intro j hj a ha
 rcases List.mem_cons.1 hj with rfl | hj
 ·unfold wpOp
  simp only [hi]
  rw [if_pos (show Region.wanted _ _=true from rfl)]
  refine .inl ?_
  unfold Oper.wp
  rw [baY (ha.ev hx) hg (HS.box _ (List.mem_of_getElem? hk)) (by simpa using hv)]
  exact ⟨h.1,h.2 _ (ha.put hN _)⟩
 ·exact hrest j hj a ha
theorem afb.bdK {t et:TypeId} {x:Operand} {g off n:Nat} {vs:List Value} {ty:TypeId} {pos:String} {aft:Array Edge} {rs:List Nat} {jg:Nat} {want:Bool} {oj:Oper} {tg:Nat} (v:Value) (HS:St W0 U Ps w) (k:Nat) (hi:ops[i]? = some ⟨some d,.load t x,ty,pos,aft,some (jg,want)⟩) (hjg:ops[jg]? = some oj) (hdj:oj.dst=some tg) (htN:Nat.ble (tg+1) N=true) (hvg:lkp T tg=some (.bool want)) (hN:Nat.ble (d+1) N=true) (hx:ev T x=some (.pointer (some ⟨g,off,none⟩))) (hk:U[k]? = some ⟨g,et,vs⟩)
  (hg : ∀ w,(isAgg t).run P w = .ok true w) (hs : ∀ w,(Go.sizeOf t).run P w = .ok n w) (hfit:Nat.ble (off+n) vs.length=true) (hv:Value.agg ((vs.drop off).take n).toArray=v) (hl':listed.setIfInBounds i true=listed')
  (h:(afn late listed'→S w)∧JR P ops Q late S fuel listed' N ((d,v) :: T) w) (hrest:afb P ops Q late S fuel listed N T w rs):afb P ops Q late S fuel listed N T w (i :: rs):=by
 subst hl' hv
 intro j hj a ha
 rcases List.mem_cons.1 hj with rfl | hj
 ·unfold wpOp
  simp only [hi]
  rw [if_pos (show Region.wanted _ _=true by simp [Region.wanted,a5r ha hjg hdj htN hvg])]
  refine .inl ?_
  unfold Oper.wp
  rw [a5d (ha.ev hx) hg hs (HS.box _ (List.mem_of_getElem? hk)) (by simpa using hfit)]
  exact ⟨h.1,h.2 _ (ha.put hN _)⟩
 ·exact hrest j hj a ha
theorem afb.buildSlice {t e:TypeId} {len size:Nat} {l:List (Nat×Operand)} {ps:List (Nat×Value)} {z:Value} {vs:List Value} {ty:TypeId} {pos:String} {aft:Array Edge} {rs:List Nat} (HS:St W0 U Ps w) (hi:ops[i]? = some ⟨some d,.buildSlice t len l.toArray,ty,pos,aft,none⟩) (hN:Nat.ble (d+1) N=true)
  (hl : ∀ a,Kn a N T→l.map (fun p=>(p.1,a.eval p.2))=ps) (hu : ∀ w,(underlying t).run P w = .ok (.slice e) w) (hs : ∀ w,(Go.sizeOf e).run P w = .ok size w) (hz : ∀ w,(zeroValue e).run P w = .ok z w) (hb:Nat.ble (len*size) (2 ^ 24)=true) (h0:(len*size==0)=false)
  (hf:Instr.fill (fun i=>some (i*size,size)) ((Array.range (len*size)).map (z.cells[· % z.cells.size]!)) ps=some vs.toArray) (a1N:vs.all aNL=true) (hl':listed.setIfInBounds i true=listed')
  (h : ∀ g w',St W0 (⟨g,e,vs⟩ :: U) Ps w'→(afn late listed'→S w')∧JR P ops Q late S fuel listed' N ((d,.slice (some ⟨g,0,none⟩) len len) :: T) w') (hrest:afb P ops Q late S fuel listed N T w rs):afb P ops Q late S fuel listed N T w (i :: rs):=by
 subst hl'
 have h2:=HS.alloc e vs a1N
 intro j hj a ha
 rcases List.mem_cons.1 hj with rfl | hj
 ·unfold wpOp
  simp only [hi]
  rw [if_pos (show Region.wanted _ _=true from rfl)]
  refine .inl ?_
  unfold Oper.wp
  rw [run_buildSlice (hl a ha) hu hs hz hb h0 hf]
  have:=h _ _ h2
  exact ⟨this.1,this.2 _ (ha.put hN _)⟩
 ·exact hrest j hj a ha
end
section
variable {P:Program} {ops:Array Oper} {Q:Exit→Act→World→Prop} {N:Nat} {T T':List (Nat×Value)} {w:World}
theorem JL.sub {l:List Oper} (hT : ∀ t v,lkp T' t=some v→lkp T t=some v) (h:JL P ops Q l N T' w):JL P ops Q l N T w:=fun a ha=>h a (ha.sub hT)
end
def akz (T:List (Nat×Value)):List (Nat×Value)→Prop
 | []=>True
 | (k,u) :: r=>lkp T k=some u∧akz T r
theorem akz.out {T:List (Nat×Value)} : ∀ {T':List (Nat×Value)},akz T T' → ∀ t v,lkp T' t=some v→lkp T t=some v
 | [],_=>bn3
 | (_,_) :: _,h=>bn2 h.1 (akz.out h.2)
section
variable {P:Program} {ops:Array Oper} {Q:Exit→Act→World→Prop} {late:List Nat} {S:World→Prop} {N d fuel:Nat} {T:List (Nat×Value)} {w:World} {U:List Box} {listed:Array Bool} {o:Oper} {v:Value}
def jrc (ops:Array Oper) (late:List Nat) (listed:Array Bool) (i:Nat):Bool:=Region.noSelect ops&&(Region.free .any ops listed i&&((Region.ready .any ops listed).contains i&&a4R late i))
def jlc (ops:Array Oper) (late:List Nat) (listed:Array Bool) (i:Nat):Bool:=Region.noSelect ops&&(Region.free .any ops listed i&&((Region.ready .any ops listed).contains i&&(waits ops late i&&late.all fun s => !listed.getD s false)))
theorem bai {i:Nat} (h:jrc ops late listed i=true):Region.noSelect ops=true∧Region.free .any ops listed i=true∧(Region.ready .any ops listed).contains i=true∧a4R late i=true:=by
 unfold jrc at h
 simpa only [Bool.and_eq_true] using h
theorem bdD {i:Nat} (h:jlc ops late listed i=true):Region.noSelect ops=true∧Region.free .any ops listed i=true∧(Region.ready .any ops listed).contains i=true∧waits ops late i=true∧afn late listed:=by
 unfold jlc at h
 simp only [Bool.and_eq_true] at h
 refine ⟨h.1,h.2.1,h.2.2.1,h.2.2.2.1,fun s hs => ?_⟩
 have:=List.all_eq_true.1 h.2.2.2.2 s hs
 simpa using this
theorem J1 (i:Nat) (hr:Region.ready .any ops listed=[i]) (h:afb P ops Q late S fuel listed N T w [i]):JR P ops Q late S (fuel+1) listed N T w:=JR.any [i] hr rfl h
theorem aoq {s:Nat} (hs:late.contains s=true) (h:listed.getD s false=true) {p:Prop} : afn late listed→p:=fun hn=>absurd (hn s (by simpa using hs)) (by rw [h]; decide)
theorem Jv {op:Op} {ty:TypeId} {pos:String} {aft:Array Edge} (v:Value) (i:Nat) (hc:jrc ops late listed i=true) (hi:ops[i]? = some ⟨some d,op,ty,pos,aft,none⟩) (hN:Nat.ble (d+1) N=true) (hq : ∀ c a w,Q (.panic c) (a.put (some d) v) w→Q (.panic c) a w) (hS:afn late listed→S w)
  (hrun : ∀ a,Kn a N T → ∀ w,(execOp a.eval ⟨some d,op,ty,pos,aft,none⟩).run P w = .ok (.value v) w) (h:JR P ops Q late S fuel (listed.setIfInBounds i true) N ((d,v) :: T) w):JR P ops Q late S (fuel+1) listed N T w :=
 have ⟨a,b,c,e⟩:=bai hc
 JR.val i hi a b c e hq rfl hN rfl hS hrun rfl h
theorem Jvg {op:Op} {ty:TypeId} {pos:String} {aft:Array Edge} {j:Nat} {want:Bool} {oj:Oper} {t:Nat} (v:Value) (i:Nat) (hc:jrc ops late listed i=true) (hi:ops[i]? = some ⟨some d,op,ty,pos,aft,some (j,want)⟩) (hN:Nat.ble (d+1) N=true) (hq : ∀ c a w,Q (.panic c) (a.put (some d) v) w→Q (.panic c) a w)
  (hj:ops[j]? = some oj) (hdj:oj.dst=some t) (htN:Nat.ble (t+1) N=true) (hv:lkp T t=some (.bool want)) (hS:afn late listed→S w)
  (hrun : ∀ a,Kn a N T → ∀ w,(execOp a.eval ⟨some d,op,ty,pos,aft,some (j,want)⟩).run P w = .ok (.value v) w) (h:JR P ops Q late S fuel (listed.setIfInBounds i true) N ((d,v) :: T) w):JR P ops Q late S (fuel+1) listed N T w :=
 have ⟨a,b,c,e⟩:=bai hc
 JR.bbd i hi a b c e hq rfl hN rfl hj hdj htN hv hS hrun rfl h
theorem Jp {op:Op} {ty:TypeId} {pos:String} {aft:Array Edge} {j:Nat} {want b:Bool} {oj:Oper} {t:Nat} (i:Nat) (hc:jrc ops late listed i=true) (hi:ops[i]? = some ⟨some d,op,ty,pos,aft,some (j,want)⟩) (hN:Nat.ble (d+1) N=true) (hq : ∀ c a w,Q (.panic c) (a.put (some d) undef) w→Q (.panic c) a w)
  (hj:ops[j]? = some oj) (hdj:oj.dst=some t) (htN:Nat.ble (t+1) N=true) (hv:lkp T t=some (.bool b)) (hb:(b==want)=false) (hS:afn late listed→S w) (h:JR P ops Q late S fuel (listed.setIfInBounds i true) N ((d,undef) :: T) w):JR P ops Q late S (fuel+1) listed N T w :=
 have ⟨a,b,c,e⟩:=bai hc
 JR.pass i hi a b c e hq rfl hN rfl hj hdj htN hv hb hS rfl h
theorem Jl {t et:TypeId} {x:Operand} {g off n:Nat} {vs:List Value} {ty:TypeId} {pos:String} {aft:Array Edge} (v:Value) (i j:Nat) (hc:jlc ops late listed i=true) (hi:ops[i]? = some ⟨some d,.load t x,ty,pos,aft,none⟩) (hq : ∀ c a w,Q (.panic c) (a.put (some d) v) w→Q (.panic c) a w) (hN:Nat.ble (d+1) N=true)
  (hS:afn late listed→Boxed U w) (hx:ev T x=some (.pointer (some ⟨g,off,none⟩))) (hj:U[j]? = some ⟨g,et,vs⟩) (hg : ∀ w,(isAgg t).run P w = .ok true w) (hsz : ∀ w,(Go.sizeOf t).run P w = .ok n w) (hfit:Nat.ble (off+n) vs.length=true) (hv:Value.agg ((vs.drop off).take n).toArray=v)
  (h:JR P ops Q late (Boxed U) fuel (listed.setIfInBounds i true) N ((d,v) :: T) w):JR P ops Q late (Boxed U) (fuel+1) listed N T w :=
 have ⟨a,b,c,e,f⟩:=bdD hc
 JR.load v i j hi a b c e hq hN hS f hx hj hg hsz hfit hv rfl h
theorem Jlg {t et:TypeId} {x:Operand} {g off n:Nat} {vs:List Value} {ty:TypeId} {pos:String} {aft:Array Edge} {jg:Nat} {want:Bool} {oj:Oper} {tg:Nat} (v:Value) (i j:Nat) (hc:jlc ops late listed i=true) (hi:ops[i]? = some ⟨some d,.load t x,ty,pos,aft,some (jg,want)⟩) (hq : ∀ c a w,Q (.panic c) (a.put (some d) v) w→Q (.panic c) a w) (hN:Nat.ble (d+1) N=true)
  (hjg:ops[jg]? = some oj) (hdj:oj.dst=some tg) (htN:Nat.ble (tg+1) N=true) (hvg:lkp T tg=some (.bool want))
  (hS:afn late listed→Boxed U w) (hx:ev T x=some (.pointer (some ⟨g,off,none⟩))) (hj:U[j]? = some ⟨g,et,vs⟩) (hg : ∀ w,(isAgg t).run P w = .ok true w) (hsz : ∀ w,(Go.sizeOf t).run P w = .ok n w) (hfit:Nat.ble (off+n) vs.length=true) (hv:Value.agg ((vs.drop off).take n).toArray=v)
  (h:JR P ops Q late (Boxed U) fuel (listed.setIfInBounds i true) N ((d,v) :: T) w):JR P ops Q late (Boxed U) (fuel+1) listed N T w :=
 have ⟨a,b,c,e,f⟩:=bdD hc
 JR.bdK v i j hi a b c e hq hN hjg hdj htN hvg hS f hx hj hg hsz hfit hv rfl h
end
section
variable {P:Program} {ops:Array Oper} {Q:Exit→Act→World→Prop} {late:List Nat} {S:World→Prop} {N d fuel:Nat} {T:List (Nat×Value)} {W0 w w':World} {U:List Box} {Ps:List (World→Prop)} {listed:Array Bool} {o:Oper} {rest:List Oper}
theorem St.b0 (HS:St W0 U Ps w):afn late listed→Boxed U w:=fun _ b hb=>HS.box b hb
theorem St.b1 {x:Box} (HS:St W0 (x :: U) Ps w):afn late listed→Boxed U w:=fun _ b hb=>HS.box b (.tail _ hb)
theorem St.b2 {x y:Box} (HS:St W0 (x :: y :: U) Ps w):afn late listed→Boxed U w:=fun _ b hb=>HS.box b (.tail _ (.tail _ hb))
theorem St.b3 {x y z:Box} (HS:St W0 (x :: y :: z :: U) Ps w):afn late listed→Boxed U w:=fun _ b hb=>HS.box b (.tail _ (.tail _ (.tail _ hb)))
theorem Lv (v:Value) (hrun : ∀ a,Kn a N T→(execOp a.eval o).run P w = .ok (.value v) w') (h:JL P ops Q rest N ((d,v) :: T) w') (hg:o.guard=none:=by rfl) (hd:o.dst=some d:=by rfl) (hN:Nat.ble (d+1) N=true:=by rfl):JL P ops Q (o :: rest) N T w:=JL.val hg hd hN hrun h
theorem JR.mt {ι:Type} {T':ι→List (Nat×Value)} {G:ι→World→Prop} (i:ι) (hG:G i w) (hr:Region.ready .any ops listed=[]:=by kernel_rfl) (hT:akz T (T' i):=by (repeat refine ⟨rfl,?_⟩); trivial):JR P ops (Exit.then (fun a w => ∃ i,Kn a N (T' i)∧G i w) Q) late S fuel listed N T w:=JR.meet hr i hT.out hG
theorem JL.mt {ι:Type} {T':ι→List (Nat×Value)} {G:ι→World→Prop} (i:ι) (hG:G i w) (hT:akz T (T' i):=by (repeat refine ⟨rfl,?_⟩); trivial):JL P ops (Exit.then (fun a w => ∃ i,Kn a N (T' i)∧G i w) Q) [] N T w:=JL.meet i hT.out hG
theorem JC.mt {ι:Type} {T':ι→List (Nat×Value)} {G:ι→World→Prop} (i:ι) (hG:G i w) (hT:akz T (T' i):=by (repeat refine ⟨rfl,?_⟩); trivial):JC P .skip (Exit.then (fun a w => ∃ i,Kn a N (T' i)∧G i w) Q) N T w:=JC.bkF i hT.out hG
theorem Lg {j:Nat} {want:Bool} {oj:Oper} {t:Nat} (v:Value) (hrun : ∀ a,Kn a N T→(execOp a.eval o).run P w = .ok (.value v) w') (h:JL P ops Q rest N ((d,v) :: T) w') (hg:o.guard=some (j,want):=by rfl) (hd:o.dst=some d:=by rfl) (hN:Nat.ble (d+1) N=true:=by rfl) (hj:ops[j]? = some oj:=by rfl) (hdj:oj.dst=some t:=by rfl) (htN:Nat.ble (t+1) N=true:=by rfl) (hv:lkp T t=some (.bool want):=by rfl):JL P ops Q (o :: rest) N T w:=JL.bbd hg hd hN hj hdj htN hv hrun h
theorem Lp {j:Nat} {want b:Bool} {oj:Oper} {t:Nat} (h:JL P ops Q rest N ((d,undef) :: T) w) (hg:o.guard=some (j,want):=by rfl) (hd:o.dst=some d:=by rfl) (hN:Nat.ble (d+1) N=true:=by rfl) (hj:ops[j]? = some oj:=by rfl) (hdj:oj.dst=some t:=by rfl) (htN:Nat.ble (t+1) N=true:=by rfl) (hv:lkp T t=some (.bool b):=by rfl) (hb:(b==want)=false:=by rfl):JL P ops Q (o :: rest) N T w:=JL.pass hg hd hN hj hdj htN hv hb h
theorem LpU {j:Nat} {want:Bool} {oj:Oper} {t:Nat} (h:JL P ops Q rest N ((d,undef) :: T) w) (hg:o.guard=some (j,want):=by rfl) (hd:o.dst=some d:=by rfl) (hN:Nat.ble (d+1) N=true:=by rfl) (hj:ops[j]? = some oj:=by rfl) (hdj:oj.dst=some t:=by rfl) (htN:Nat.ble (t+1) N=true:=by rfl) (hv:lkp T t=some undef:=by rfl):JL P ops Q (o :: rest) N T w:=JL.beg hg hd hN hj hdj htN hv h
theorem Dv {op:Op} {ty:TypeId} {pos:String} {aft:Array Edge} (v:Value) (i:Nat) (hi:ops[i]? = some ⟨some d,op,ty,pos,aft,none⟩) (hS:afn late listed→S w)
  (hrun : ∀ a,Kn a N T → ∀ w,(execOp a.eval ⟨some d,op,ty,pos,aft,none⟩).run P w = .ok (.value v) w) (h:JR P ops Q late S fuel (listed.setIfInBounds i true) N ((d,v) :: T) w)
  (hc:jrc ops late listed i=true:=by kernel_rfl) (hN:Nat.ble (d+1) N=true:=by rfl) (hq : ∀ c a w,Q (.panic c) (a.put (some d) v) w→Q (.panic c) a w:=by exact fun _ _ _ h=>h):JR P ops Q late S (fuel+1) listed N T w:=Jv v i hc hi hN hq hS hrun h
theorem Dg {op:Op} {ty:TypeId} {pos:String} {aft:Array Edge} {j:Nat} {want:Bool} {oj:Oper} {t:Nat} (v:Value) (i:Nat) (hi:ops[i]? = some ⟨some d,op,ty,pos,aft,some (j,want)⟩) (hS:afn late listed→S w)
  (hrun : ∀ a,Kn a N T → ∀ w,(execOp a.eval ⟨some d,op,ty,pos,aft,some (j,want)⟩).run P w = .ok (.value v) w) (h:JR P ops Q late S fuel (listed.setIfInBounds i true) N ((d,v) :: T) w)
  (hc:jrc ops late listed i=true:=by kernel_rfl) (hN:Nat.ble (d+1) N=true:=by rfl) (hq : ∀ c a w,Q (.panic c) (a.put (some d) v) w→Q (.panic c) a w:=by exact fun _ _ _ h=>h)
  (hj:ops[j]? = some oj:=by rfl) (hdj:oj.dst=some t:=by rfl) (htN:Nat.ble (t+1) N=true:=by rfl) (hv:lkp T t=some (.bool want):=by rfl):JR P ops Q late S (fuel+1) listed N T w:=Jvg v i hc hi hN hq hj hdj htN hv hS hrun h
theorem Da {t et:TypeId} {x:Operand} {g off n:Nat} {vs:List Value} {ty:TypeId} {pos:String} {aft:Array Edge} (v:Value) (i j:Nat) (hi:ops[i]? = some ⟨some d,.load t x,ty,pos,aft,none⟩) (hS:afn late listed→Boxed U w) (hx:ev T x=some (.pointer (some ⟨g,off,none⟩))) (hj:U[j]? = some ⟨g,et,vs⟩)
  (hg : ∀ w,(isAgg t).run P w = .ok true w) (hsz : ∀ w,(Go.sizeOf t).run P w = .ok n w) (h:JR P ops Q late (Boxed U) fuel (listed.setIfInBounds i true) N ((d,v) :: T) w) (hfit:Nat.ble (off+n) vs.length=true:=by rfl) (hv:Value.agg ((vs.drop off).take n).toArray=v:=by rfl)
  (hc:jlc ops late listed i=true:=by kernel_rfl) (hN:Nat.ble (d+1) N=true:=by rfl) (hq : ∀ c a w,Q (.panic c) (a.put (some d) v) w→Q (.panic c) a w:=by exact fun _ _ _ h=>h):JR P ops Q late (Boxed U) (fuel+1) listed N T w:=Jl v i j hc hi hq hN hS hx hj hg hsz hfit hv h
theorem D1c {i:Nat} {f:FuncId} {l:List Operand} {tys:Array TypeId} {vs:List Value} {R:Value→World→Prop} {ty:TypeId} {pos:String} {aft:Array Edge} (_i:Nat) (_e:_i=i) (hi:ops[i]? = some ⟨some d,.call ⟨.value (.func f),l.toArray,tys⟩,ty,pos,aft,none⟩) (hl:evs T l=some vs)
  (hc : ∀ args w,Sem.run P (callFunc f args) w = .ok (.enter f args) w) (hcall:aba P f vs w R) (h : ∀ v w',R v w'→(afn late (listed.setIfInBounds i true)→S w')∧JR P ops Q late S fuel (listed.setIfInBounds i true) N ((d,v) :: T) w')
  (hr:Region.ready .any ops listed=[i]:=by kernel_rfl) (hN:Nat.ble (d+1) N=true:=by rfl):JR P ops Q late S (fuel+1) listed N T w:=J1 i hr (afb.call hi hN hl hc hcall rfl h afb.nil)
theorem D1s {t et:TypeId} {x y:Operand} {g off n:Nat} {v:Value} {vs:List Value} {ty:TypeId} {pos:String} {aft:Array Edge} (i:Nat) (vs':List Value) (HS:St W0 U Ps w) (k:Nat) (hi:ops[i]? = some ⟨none,.store t x y,ty,pos,aft,none⟩) (hx:ev T x=some (.pointer (some ⟨g,off,none⟩))) (hy:ev T y=some v) (hk:U[k]? = some ⟨g,et,vs⟩)
  (hs : ∀ w,(Go.sizeOf t).run P w = .ok n w) (h : ∀ w',St W0 (U.set k ⟨g,et,vs'⟩) Ps w'→(afn late (listed.setIfInBounds i true)→S w')∧JR P ops Q late S fuel (listed.setIfInBounds i true) N T w')
  (hr:Region.ready .any ops listed=[i]:=by kernel_rfl) (hn:Nat.beq v.cells.size n=true:=by rfl) (hfit:Nat.ble (off+n) vs.length=true:=by rfl) (h1:v.cells.toList.all Value.oneCell'=true:=by rfl) (hw:wr vs off v.cells.toList=vs':=by rfl) (a1N:vs'.all aNL=true:=by rfl):JR P ops Q late S (fuel+1) listed N T w :=
 J1 i hr (afb.store HS hi hx hy k hk hs hn hfit h1 hw a1N rfl h afb.nil)
end
end acY
