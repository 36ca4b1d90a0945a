/- Part of a proof, said shortly. -/
import Derived.LoopN
import Derived.OwnWalk
import Derived.Deep.AppendSrc
import Derived.Laws.MakeOwn
import Derived.Test.YtmmgoghiiionfaaGreatDoorAlz
import Derived.Test.YtmmgoghiiionfaaGreatDoorC9
set_option linter.unusedVariables false
set_option linter.unusedSimpArgs false
namespace bJ
open Go Go.RowKit
variable {ds:List Deferred} {r:Option Nat}
section
variable {P:Program} {ρ:Operand->Value} {w:World} {dst:Option Tmp} {ty:TypeId} {pos:String} {bn:Array Edge} {gd:Option (Nat×Bool)}
section
variable {c:Bool} {k k':IntKind} {a b:List UInt8} {g j n off size:Nat} {x y:Operand} {t t':TypeId}
theorem iw{c:List UInt8}(hx:ρ x = .string ⟨a.toArray⟩)(hy:ρ y = .string ⟨b.toArray⟩)(hl:a.length+b.length<=9223372036854775807)(h:a++b=c) :
  (execOp ρ ⟨dst,.binOp .add t x y t',ty,pos,bn,gd⟩).run P w = .ok (.value (.string ⟨c.toArray⟩)) w:=by
 subst h
 have e:(⟨a.toArray⟩:ByteArray)++⟨b.toArray⟩=⟨(a++b).toArray⟩:=by
  apply ByteArray.ext;simp [ByteArray.data_append]
 have h1:(⟨a.toArray⟩:ByteArray).size=a.length:=by simp [ByteArray.size]
 have h2:(⟨b.toArray⟩:ByteArray).size=b.length:=by simp [ByteArray.size]
 have h3:¬ (((a.length+b.length:Nat):Int) > IntKind.i64.max):=by
  show ¬ (((a.length+b.length:Nat):Int) > 9223372036854775807);omega
 simp only [execOp,hx,hy,eqGuard,binOp,Op.stringOp,h1,h2,if_neg h3,e];simp
theorem Ry{e:TypeId}{i:Int}{c:Nat}{v:Value}(hx:ρ x = .slice (some ⟨g,off,none⟩) n c)(hy:ρ y = .int k i)(hu : ∀ w,(underlying t).run P w = .ok (.slice e) w)(hs : ∀ w,(Go.sizeOf e).run P w = .ok size w)(hi:i=(j:Int))(hj:j<n)(hv:Value.pointer (some ⟨g,off+j*size,none⟩)=v):(execOp ρ ⟨dst,.indexAddr t x y,ty,pos,bn,gd⟩).run P w = .ok (.value v) w:=by
 subst hi hv;have e:(⟨g,off,none⟩:Addr).add (j*size)=⟨g,off+j*size,none⟩:=by unfold Addr.add;split <;> simp_all
 simp [execOp,hx,hy,Instr.indexAt,asIntOf,hu,hs,e];intro h;omega
theorem acP{et:TypeId}{i:Int}{v:Value}(hx:ρ x = .pointer (some ⟨g,off,none⟩))(hy:ρ y = .int k i)(hu : ∀ w,(underlying t).run P w = .ok (.array n et) w)(hs : ∀ w,(Go.sizeOf et).run P w = .ok size w)(hi:i=(j:Int))(hj:j<n)(hv:Value.pointer (some ⟨g,off+j*size,none⟩)=v):(execOp ρ ⟨dst,.indexAddr t x y,ty,pos,bn,gd⟩).run P w = .ok (.value v) w:=by
 subst hi hv;have e:(⟨g,off,none⟩:Addr).add (j*size)=⟨g,off+j*size,none⟩:=by unfold Addr.add;split <;> simp_all
 simp [execOp,hx,hy,Instr.indexAt,asIntOf,Instr.sureAddr,hu,hs,e];intro h;omega
theorem ac4{a b:ByteArray}(hx:ρ x = .string a)(hy:ρ y = .string b)(h:(a.toList==b.toList)=c) :
  (execOp ρ ⟨dst,.binOp .eql t x y t',ty,pos,bn,gd⟩).run P w = .ok (.value (.bool c)) w:=by
 subst h;simp [execOp,hx,hy,eqGuard,binOp,Op.stringOp]
theorem yw(hx:ρ x = .string ⟨a.toArray⟩)(hy:ρ y = .string ⟨b.toArray⟩)(h:(a==b)=c) :
  (execOp ρ ⟨dst,.binOp .eql t x y t',ty,pos,bn,gd⟩).run P w = .ok (.value (.bool c)) w:=ac4 hx hy (by rw [ByteArray.toList_eq,ByteArray.toList_eq];simpa using h)
theorem Ru{s:TypeId}{n m:Int}{d:TypeDesc}(hx:ρ x = .int k n)(hs : ∀ w,(underlying s).run P w = .ok d w)(hd : ∀ w,(underlying t).run P w = .ok (.int k') w)(h:k'.wrap n=m) :
  (execOp ρ ⟨dst,.convert s t x,ty,pos,bn,gd⟩).run P w = .ok (.value (.int k' m)) w:=by
 subst h;simp [execOp,hx,convert,hs,hd,Conv.intToInt]
theorem RI{a b c:Int}(hx:ρ x = .int k a)(hy:ρ y = .int k b)(hb:b≠0)(h:a.tmod b=c):(execOp ρ ⟨dst,.binOp .rem t x y t',ty,pos,bn,gd⟩).run P w = .ok (.value (.int k c)) w:=by
 subst h;simp [execOp,hx,hy,eqGuard,binOp,Op.intDiv,hb]
theorem ac5{a c:Int}(hx:ρ x = .int k a)(hy:ρ y = .int k' (n:Int))(hn:n<=k.bits)(h:k.wrap (a*2^n)=c):(execOp ρ ⟨dst,.binOp .shl t x y t',ty,pos,bn,gd⟩).run P w = .ok (.value (.int k c)) w:=by
 subst h;have e:min n k.bits=n:=af;have e2:¬ ((n:Int)<0):=af;simp [execOp,hx,hy,eqGuard,binOp,Op.shift,e,e2]
end
end
section
variable {P:Program} {ops:Array Oper} {Q:Exit->Act->World->Prop} {N:Nat} {T T':List (Nat×Value)} {w:World} {late:List Nat} {S:World->Prop} {fuel:Nat} {listed:Array Bool}
theorem TS{a:Act}{j t:Nat}{oj:Oper}(ha:Kn ds a N T)(hj:ops[j]? = some oj)(hdj:oj.dst=some t)(dW:Nat.ble (t+1) N=true)(hv:bM T t=some undef):yielded ops a.tmps j=none:=by
 have h1:=ha.2.2 t _ hv;have h2:t<a.tmps.size:=by rw [ha.2.1];exact aho dW
 unfold yielded;rw [hj,ah9,hdj,ah9];rw [aix,ahH h2,ai3] at h1;rw [ahH h2,h1]
 rfl
theorem JL.Qi{o oj:Oper}{rest:List Oper}{d j t:Nat}{want:Bool}(hg:o.guard=some (j,want))(hd:o.dst=some d)(hN:Nat.ble (d+1) N=true)(hj:ops[j]? = some oj)(hdj:oj.dst=some t)(dW:Nat.ble (t+1) N=true)(hv:bM T t=some undef)(h:JL ds P ops Q rest N ((d,undef)::T) w):JL ds P ops Q (o::rest) N T w:=by
 intro a ha;have hy:=TS ha hj hdj dW hv;unfold mL;rw [if_neg (by simp [Region.wanted,hg,hy])];rw [hd];exact h _ (ha.put hN undef)
theorem JR.Qi{o oj:Oper}{d j t:Nat}{want:Bool}{listed':Array Bool}(i:Nat)(hi:ops[i]? = some o)(hs:Region.noSelect ops=true)(hf:Region.free .any ops listed i=true)(hr:(Region.ready .any ops listed).contains i=true)(hil:uG late i=true)(hq : ∀ c a w,Q (.panic c) (a.put o.dst undef) w->Q (.panic c) a w)(hd:o.dst=some d)(hN:Nat.ble (d+1) N=true)(hg:o.guard=some (j,want))(hj:ops[j]? = some oj)(hdj:oj.dst=some t)(dW:Nat.ble (t+1) N=true)(hv:bM T t=some undef)(hS:bY late listed->S w)(hl:listed.setIfInBounds i true=listed')(h:JR ds P ops Q late S fuel listed' N ((d,undef)::T) w):JR ds P ops Q late S (fuel+1) listed N T w:=by
 subst hl;intro a ha
 have rf : ∀ s∈late,s≠i:=fun s hs e=>by
  have:=ahK.1 hil s hs;rw [e] at this;simp at this
 have hy:=TS ha hj hdj dW hv;refine sD (S':=fun _=>True) hi (Region.noSelect_spec hs) hq rf (.inl fun _=>trivial) fuel listed a w (Region.free_spec hi hf) (by simpa using hr) (.inr ⟨by simp [Region.wanted,hg,hy],rfl⟩) trivial hS (.inl fun _=>trivial) ?_;have:=h _ (ha.put hN undef);rw [hd];exact this
theorem dF.pass{o oj:Oper}{d i j t:Nat}{want b:Bool}{listed':Array Bool}{rs:List Nat}(hi:ops[i]? = some o)(hd:o.dst=some d)(hN:Nat.ble (d+1) N=true)(hg:o.guard=some (j,want))(hj:ops[j]? = some oj)(hdj:oj.dst=some t)(dW:Nat.ble (t+1) N=true)(hv:bM T t=some (.bool b))(hb:(b==want)=false)(hl':listed.setIfInBounds i true=listed')(h:(bY late listed'->S w)/\JR ds P ops Q late S fuel listed' N ((d,undef)::T) w)(hrest:dF ds P ops Q late S fuel listed N T w rs):dF ds P ops Q late S fuel listed N T w (i::rs):=by
 subst hl';intro k hk a ha;rcases List.mem_cons.1 hk with rfl | hk
 ·unfold eH
  simp only [hi];have hy:=DC ha hj hdj dW hv;rw [if_neg (show ¬ Region.wanted _ _=true by simp [Region.wanted,hg,hy];cases b <;> cases want <;> simp_all)];rw [hd];exact ⟨h.1,h.2 _ (ha.put hN undef)⟩
 ·exact hrest k hk a ha
end
section
variable {P:Program} {ops:Array Oper} {Q:Exit->Act->World->Prop} {late:List Nat} {S:World->Prop} {N d fuel i:Nat} {T:List (Nat×Value)} {W0 w:World} {U:List Box} {Ps:List (World->Prop)} {listed listed':Array Bool}
theorem dF.load{t et:TypeId}{x:Operand}{g off n:Nat}{vs:List Value}{ty:TypeId}{pos:String}{bn:Array Edge}{rs:List Nat}(v:Value)(HS:St W0 U Ps w)(k:Nat)(hi:ops[i]? = some ⟨some d,.load t x,ty,pos,bn,none⟩)(hN:Nat.ble (d+1) N=true)(hx:ev T x=some (.pointer (some ⟨g,off,none⟩)))(hk:U[k]? = some ⟨g,et,vs⟩)(hg : ∀ w,(isAgg t).run P w = .ok true w)(hs : ∀ w,(Go.sizeOf t).run P w = .ok n w)(hfit:Nat.ble (off+n) vs.length=true)(hv:Value.agg ((vs.drop off).take n).toArray=v)(hl':listed.setIfInBounds i true=listed')(h:(bY late listed'->S w)/\JR ds P ops Q late S fuel listed' N ((d,v)::T) w)(hrest:dF ds P ops Q late S fuel listed N T w rs):dF ds P ops Q late S fuel listed N T w (i::rs):=by
 subst hl' hv;intro j hj a ha;rcases List.mem_cons.1 hj with rfl | hj
 ·unfold eH
  simp only [hi];rw [if_pos (show Region.wanted _ _=true from rfl)];unfold mO;rw [rO (ha.ev hx) hg hs (HS.box _ (ahq hk)) (by simpa using hfit)];exact ⟨h.1,h.2 _ (ha.put hN _)⟩
 ·exact hrest j hj a ha
theorem dF.uz{t et:TypeId}{x:Operand}{g off:Nat}{vs:List Value}{ty:TypeId}{pos:String}{bn:Array Edge}{rs:List Nat}(v:Value)(HS:St W0 U Ps w)(k:Nat)(hi:ops[i]? = some ⟨some d,.load t x,ty,pos,bn,none⟩)(hN:Nat.ble (d+1) N=true)(hx:ev T x=some (.pointer (some ⟨g,off,none⟩)))(hk:U[k]? = some ⟨g,et,vs⟩)(hg : ∀ w,(isAgg t).run P w = .ok false w)(hv:vs[off]? = some v)(hl':listed.setIfInBounds i true=listed')(h:(bY late listed'->S w)/\JR ds P ops Q late S fuel listed' N ((d,v)::T) w)(hrest:dF ds P ops Q late S fuel listed N T w rs):dF ds P ops Q late S fuel listed N T w (i::rs):=by
 subst hl';intro j hj a ha;rcases List.mem_cons.1 hj with rfl | hj
 ·unfold eH
  simp only [hi];rw [if_pos (show Region.wanted _ _=true from rfl)];unfold mO;rw [iY (ha.ev hx) hg (HS.box _ (ahq hk)) (by simpa using hv)];exact ⟨h.1,h.2 _ (ha.put hN _)⟩
 ·exact hrest j hj a ha
theorem dF.buildSlice{t e:TypeId}{len size:Nat}{l:List (Nat×Operand)}{ps:List (Nat×Value)}{z:Value}{vs:List Value}{ty:TypeId}{pos:String}{bn:Array Edge}{rs:List Nat}(HS:St W0 U Ps w)(hi:ops[i]? = some ⟨some d,.buildSlice t len l.toArray,ty,pos,bn,none⟩)(hN:Nat.ble (d+1) N=true)(hl : ∀ a,Kn ds a N T->l.map (fun p=>(p.1,a.eval p.2))=ps)(hu : ∀ w,(underlying t).run P w = .ok (.slice e) w)(hs : ∀ w,(Go.sizeOf e).run P w = .ok size w)(hz : ∀ w,(zeroValue e).run P w = .ok z w)(hb:Nat.ble (len*size) (2^24)=true)(h0:(len*size==0)=false)(hf:Instr.fill (fun i=>some (i*size,size)) ((Array.range (len*size)).map (z.cells[· % z.cells.size]!)) ps=some vs.toArray)(iq:vs.all dO=true)(hl':listed.setIfInBounds i true=listed')(h : ∀ g w',St W0 (⟨g,e,vs⟩::U) Ps w'->(bY late listed'->S w')/\JR ds P ops Q late S fuel listed' N ((d,.slice (some ⟨g,0,none⟩) len len)::T) w')(hrest:dF ds P ops Q late S fuel listed N T w rs):dF ds P ops Q late S fuel listed N T w (i::rs):=by
 subst hl';have h2:=HS.alloc e vs iq;intro j hj a ha;rcases List.mem_cons.1 hj with rfl | hj
 ·unfold eH
  simp only [hi];rw [if_pos (show Region.wanted _ _=true from rfl)];unfold mO;rw [run_buildSlice (hl a ha) hu hs hz hb h0 hf];have:=h _ _ h2;exact ⟨this.1,this.2 _ (ha.put hN _)⟩
 ·exact hrest j hj a ha
end
section
variable {P:Program} {ops:Array Oper} {Q:Exit->Act->World->Prop} {N:Nat} {T T':List (Nat×Value)} {w:World}
theorem JL.sub{l:List Oper}(hT : ∀ t v,bM T' t=some v->bM T t=some v)(h:JL ds P ops Q l N T' w):JL ds P ops Q l N T w:=fun a ha=>h a (ha.sub hT)
end
def kP(T:List (Nat×Value)):List (Nat×Value)->Prop
 | []=>True
 | (k,u)::r=>bM T k=some u/\kP T r
theorem kP.out{T:List (Nat×Value)} : ∀ {T':List (Nat×Value)},kP T T' -> ∀ t v,bM T' t=some v->bM T t=some v
 | [],_=>qo
 | (_,_)::_,h=>gG h.1 (kP.out h.2)
section
variable {P:Program} {ops:Array Oper} {Q:Exit->Act->World->Prop} {late:List Nat} {S:World->Prop} {N d fuel:Nat} {T:List (Nat×Value)} {w:World} {U:List Box} {listed:Array Bool} {o:Oper} {v:Value}
def pM(ops:Array Oper)(late:List Nat)(listed:Array Bool)(i:Nat):Bool:=Region.noSelect ops&&(Region.free .any ops listed i&&((Region.ready .any ops listed).contains i&&uG late i))
def ou(ops:Array Oper)(late:List Nat)(listed:Array Bool)(i:Nat):Bool:=Region.noSelect ops&&(Region.free .any ops listed i&&((Region.ready .any ops listed).contains i&&(waits ops late i&&late.all fun s => !listed.getD s false)))
theorem ZO{i:Nat}(h:pM ops late listed i=true):Region.noSelect ops=true/\Region.free .any ops listed i=true/\(Region.ready .any ops listed).contains i=true/\uG late i=true:=by
 unfold pM at h;grind
theorem GI{i:Nat}(h:ou ops late listed i=true):Region.noSelect ops=true/\Region.free .any ops listed i=true/\(Region.ready .any ops listed).contains i=true/\waits ops late i=true/\bY late listed:=by
 unfold ou at h;simp only [Bool.and_eq_true] at h;refine ⟨h.1,h.2.1,h.2.2.1,h.2.2.2.1,fun s hs => ?_⟩;grind
theorem J1(i:Nat)(hr:Region.ready .any ops listed=[i])(h:dF ds P ops Q late S fuel listed N T w [i]):JR ds P ops Q late S (fuel+1) listed N T w:=JR.any [i] hr rfl h
theorem Ph{s:Nat}(hs:late.contains s=true)(h:listed.getD s false=true){p:Prop} : bY late listed->p:=fun hn=>absurd (hn s (by simpa using hs)) (by rw [h];decide)
theorem Jv{op:Op}{ty:TypeId}{pos:String}{bn:Array Edge}(v:Value)(i:Nat)(hc:pM ops late listed i=true)(hi:ops[i]? = some ⟨some d,op,ty,pos,bn,none⟩)(hN:Nat.ble (d+1) N=true)(hq : ∀ c a w,Q (.panic c) (a.put (some d) v) w->Q (.panic c) a w)(hS:bY late listed->S w)(hrun : ∀ a,Kn ds a N T -> ∀ w,(execOp a.eval ⟨some d,op,ty,pos,bn,none⟩).run P w = .ok (.value v) w)(h:JR ds P ops Q late S fuel (listed.setIfInBounds i true) N ((d,v)::T) w):JR ds P ops Q late S (fuel+1) listed N T w :=
 have ⟨a,b,c,e⟩:=ZO hc
 JR.val i hi a b c e hq rfl hN rfl hS hrun rfl h
theorem Jl{t et:TypeId}{x:Operand}{g off n:Nat}{vs:List Value}{ty:TypeId}{pos:String}{bn:Array Edge}(v:Value)(i j:Nat)(hc:ou ops late listed i=true)(hi:ops[i]? = some ⟨some d,.load t x,ty,pos,bn,none⟩)(hq : ∀ c a w,Q (.panic c) (a.put (some d) v) w->Q (.panic c) a w)(hN:Nat.ble (d+1) N=true)(hS:bY late listed->Boxed U w)(hx:ev T x=some (.pointer (some ⟨g,off,none⟩)))(hj:U[j]? = some ⟨g,et,vs⟩)(hg : ∀ w,(isAgg t).run P w = .ok true w)(hsz : ∀ w,(Go.sizeOf t).run P w = .ok n w)(hfit:Nat.ble (off+n) vs.length=true)(hv:Value.agg ((vs.drop off).take n).toArray=v)(h:JR ds P ops Q late (Boxed U) fuel (listed.setIfInBounds i true) N ((d,v)::T) w):JR ds P ops Q late (Boxed U) (fuel+1) listed N T w :=
 have ⟨a,b,c,e,f⟩:=GI hc
 JR.load v i j hi a b c e hq hN hS f hx hj hg hsz hfit hv rfl h
theorem U6{t et:TypeId}{x:Operand}{g off:Nat}{vs:List Value}{ty:TypeId}{pos:String}{bn:Array Edge}(v:Value)(i j:Nat)(hc:ou ops late listed i=true)(hi:ops[i]? = some ⟨some d,.load t x,ty,pos,bn,none⟩)(hq : ∀ c a w,Q (.panic c) (a.put (some d) v) w->Q (.panic c) a w)(hN:Nat.ble (d+1) N=true)(hS:bY late listed->Boxed U w)(hx:ev T x=some (.pointer (some ⟨g,off,none⟩)))(hj:U[j]? = some ⟨g,et,vs⟩)(hg : ∀ w,(isAgg t).run P w = .ok false w)(hv:vs[off]? = some v)(h:JR ds P ops Q late (Boxed U) fuel (listed.setIfInBounds i true) N ((d,v)::T) w):JR ds P ops Q late (Boxed U) (fuel+1) listed N T w :=
 have ⟨a,b,c,e,f⟩:=GI hc
 JR.uz v i j hi a b c e hq hN hS f hx hj hg hv rfl h
end
section
variable {P:Program} {ops:Array Oper} {Q:Exit->Act->World->Prop} {late:List Nat} {S:World->Prop} {N d fuel:Nat} {T:List (Nat×Value)} {W0 w w':World} {U:List Box} {Ps:List (World->Prop)} {listed:Array Bool} {o:Oper} {rest:List Oper}
theorem St.b0(HS:St W0 U Ps w):bY late listed->Boxed U w:=fun _ b hb=>HS.box b hb
theorem St.b1{x:Box}(HS:St W0 (x::U) Ps w):bY late listed->Boxed U w:=fun _ b hb=>HS.box b (.tail _ hb)
theorem St.b2{x y:Box}(HS:St W0 (x::y::U) Ps w):bY late listed->Boxed U w:=fun _ b hb=>HS.box b (.tail _ (.tail _ hb))
theorem St.b3{x y z:Box}(HS:St W0 (x::y::z::U) Ps w):bY late listed->Boxed U w:=fun _ b hb=>HS.box b (.tail _ (.tail _ (.tail _ hb)))
theorem JR.mt{ι:Type}{T':ι->List (Nat×Value)}{G:ι->World->Prop}(i:ι)(hG:G i w)(hr:Region.ready .any ops listed=[]:=by kernel_rfl)(hT:kP T (T' i):=by (repeat refine ⟨rfl,?_⟩);trivial):JR ds P ops (Exit.then (fun a w => ∃ i,Kn ds a N (T' i)/\G i w) Q) late S fuel listed N T w:=JR.meet hr i hT.out hG
theorem JL.mt{ι:Type}{T':ι->List (Nat×Value)}{G:ι->World->Prop}(i:ι)(hG:G i w)(hT:kP T (T' i):=by (repeat refine ⟨rfl,?_⟩);trivial):JL ds P ops (Exit.then (fun a w => ∃ i,Kn ds a N (T' i)/\G i w) Q) [] N T w:=JL.meet i hT.out hG
theorem JC.mt{ι:Type}{T':ι->List (Nat×Value)}{G:ι->World->Prop}(i:ι)(hG:G i w)(hT:kP T (T' i):=by (repeat refine ⟨rfl,?_⟩);trivial):JC r ds P .skip (Exit.then (fun a w => ∃ i,Kn ds a N (T' i)/\G i w) Q) N T w:=JC.aah i hT.out hG
theorem Lg{j:Nat}{want:Bool}{oj:Oper}{t:Nat}(v:Value)(hrun : ∀ a,Kn ds a N T->(execOp a.eval o).run P w = .ok (.value v) w')(h:JL ds P ops Q rest N ((d,v)::T) w')(hg:o.guard=some (j,want):=by rfl)(hd:o.dst=some d:=by rfl)(hN:Nat.ble (d+1) N=true:=by rfl)(hj:ops[j]? = some oj:=by rfl)(hdj:oj.dst=some t:=by rfl)(dW:Nat.ble (t+1) N=true:=by rfl)(hv:bM T t=some (.bool want):=by rfl):JL ds P ops Q (o::rest) N T w:=JL.Dn hg hd hN hj hdj dW hv hrun h
theorem Dv{op:Op}{ty:TypeId}{pos:String}{bn:Array Edge}(v:Value)(i:Nat)(hi:ops[i]? = some ⟨some d,op,ty,pos,bn,none⟩)(hS:bY late listed->S w)(hrun : ∀ a,Kn ds a N T -> ∀ w,(execOp a.eval ⟨some d,op,ty,pos,bn,none⟩).run P w = .ok (.value v) w)(h:JR ds P ops Q late S fuel (listed.setIfInBounds i true) N ((d,v)::T) w)(hc:pM ops late listed i=true:=by kernel_rfl)(hN:Nat.ble (d+1) N=true:=by rfl)(hq : ∀ c a w,Q (.panic c) (a.put (some d) v) w->Q (.panic c) a w:=by exact fun _ _ _ h=>h):JR ds P ops Q late S (fuel+1) listed N T w:=Jv v i hc hi hN hq hS hrun h
theorem Da{t et:TypeId}{x:Operand}{g off n:Nat}{vs:List Value}{ty:TypeId}{pos:String}{bn:Array Edge}(v:Value)(i j:Nat)(hi:ops[i]? = some ⟨some d,.load t x,ty,pos,bn,none⟩)(hS:bY late listed->Boxed U w)(hx:ev T x=some (.pointer (some ⟨g,off,none⟩)))(hj:U[j]? = some ⟨g,et,vs⟩)(hg : ∀ w,(isAgg t).run P w = .ok true w)(hsz : ∀ w,(Go.sizeOf t).run P w = .ok n w)(h:JR ds P ops Q late (Boxed U) fuel (listed.setIfInBounds i true) N ((d,v)::T) w)(hfit:Nat.ble (off+n) vs.length=true:=by rfl)(hv:Value.agg ((vs.drop off).take n).toArray=v:=by rfl)(hc:ou ops late listed i=true:=by kernel_rfl)(hN:Nat.ble (d+1) N=true:=by rfl)(hq : ∀ c a w,Q (.panic c) (a.put (some d) v) w->Q (.panic c) a w:=by exact fun _ _ _ h=>h):JR ds P ops Q late (Boxed U) (fuel+1) listed N T w:=Jl v i j hc hi hq hN hS hx hj hg hsz hfit hv h
theorem Do{t et:TypeId}{x:Operand}{g off:Nat}{vs:List Value}{ty:TypeId}{pos:String}{bn:Array Edge}(v:Value)(i j:Nat)(hi:ops[i]? = some ⟨some d,.load t x,ty,pos,bn,none⟩)(hS:bY late listed->Boxed U w)(hx:ev T x=some (.pointer (some ⟨g,off,none⟩)))(hj:U[j]? = some ⟨g,et,vs⟩)(hg : ∀ w,(isAgg t).run P w = .ok false w)(h:JR ds P ops Q late (Boxed U) fuel (listed.setIfInBounds i true) N ((d,v)::T) w)(hv:vs[off]? = some v:=by rfl)(hc:ou ops late listed i=true:=by kernel_rfl)(hN:Nat.ble (d+1) N=true:=by rfl)(hq : ∀ c a w,Q (.panic c) (a.put (some d) v) w->Q (.panic c) a w:=by exact fun _ _ _ h=>h):JR ds P ops Q late (Boxed U) (fuel+1) listed N T w:=U6 v i j hc hi hq hN hS hx hj hg hv h
theorem nI{i:Nat}{f:FuncId}{l:List Operand}{eu:Array TypeId}{vs:List Value}{R:Value->World->Prop}{ty:TypeId}{pos:String}{bn:Array Edge}(_i:Nat)(_e:_i=i)(hi:ops[i]? = some ⟨some d,.call ⟨.value (.func f),l.toArray,eu⟩,ty,pos,bn,none⟩)(hl:evs T l=some vs)(hc : ∀ args w,Sem.run P (callFunc f args) w = .ok (.enter f args) w)(hcall:bP P f vs w R)(h : ∀ v w',R v w'->(bY late (listed.setIfInBounds i true)->S w')/\JR ds P ops Q late S fuel (listed.setIfInBounds i true) N ((d,v)::T) w')(hr:Region.ready .any ops listed=[i]:=by kernel_rfl)(hN:Nat.ble (d+1) N=true:=by rfl):JR ds P ops Q late S (fuel+1) listed N T w:=J1 i hr (dF.call hi hN hl hc hcall rfl h dF.nil)
theorem JQ{t et:TypeId}{x y:Operand}{g off n:Nat}{v:Value}{vs:List Value}{ty:TypeId}{pos:String}{bn:Array Edge}(i:Nat)(vs':List Value)(HS:St W0 U Ps w)(k:Nat)(hi:ops[i]? = some ⟨none,.store t x y,ty,pos,bn,none⟩)(hx:ev T x=some (.pointer (some ⟨g,off,none⟩)))(hy:ev T y=some v)(hk:U[k]? = some ⟨g,et,vs⟩)(hs : ∀ w,(Go.sizeOf t).run P w = .ok n w)(h : ∀ w',St W0 (U.set k ⟨g,et,vs'⟩) Ps w'->(bY late (listed.setIfInBounds i true)->S w')/\JR ds P ops Q late S fuel (listed.setIfInBounds i true) N T w')(hr:Region.ready .any ops listed=[i]:=by kernel_rfl)(hn:Nat.beq v.cells.size n=true:=by rfl)(hfit:Nat.ble (off+n) vs.length=true:=by rfl)(h1:v.cells.toList.all Value.oneCell'=true:=by rfl)(hw:wr vs off v.cells.toList=vs':=by rfl)(iq:vs'.all dO=true:=by rfl):JR ds P ops Q late S (fuel+1) listed N T w :=
 J1 i hr (dF.store HS hi hx hy k hk hs hn hfit h1 hw iq rfl h dF.nil)
end
end bJ
namespace bJ
open Go Go.RowKit
def fC(U:List Box)(w:World)(P:World->Prop):Prop := ∀ w',dK (U.map Box.g) w w'->P w'
section
variable {W0 w w':World} {U U':List Box} {Ps Ps':List (World->Prop)} {P Q:World->Prop}
theorem St.dJ(h:St W0 U Ps w)(i:Nat)(hp:Ps[i]? = some P):fC U w P:=h.fact P (ahq hp)
theorem St.jq(h:St W0 U Ps w)(hp:fC U w P):St W0 U (P::Ps) w :=
 ⟨h.below,h.box,h.lo,h.nd,h.soft,fun Q hQ w' ha=>by
  rcases List.mem_cons.1 hQ with rfl | hQ
  ·exact hp w' ha
  ·exact h.fact Q hQ w' ha⟩
theorem St.Na{R:World->Prop}(h:St W0 U Ps w)(i j:Nat)(hi:Ps[i]? = some P)(hj:Ps[j]? = some Q)(hq : ∀ w,P w->Q w->R w):St W0 U (R::Ps) w :=
 h.jq fun w' ha=>hq w' (h.dJ i hi w' ha) (h.dJ j hj w' ha)
def Old(P:World->Prop):Prop := ∀ w w',dK [] w w'->P w->P w'
theorem Stable.old(h:Stable P):Old P:=fun w w' ha hp=>h _ w w' ha hp
end
section
variable {α:Type} {R:α->List Value->World->Prop} {sz:Nat} {w w' W0:World} {vs:List Value} {xs:List α}
def EL(R:α->List Value->World->Prop)(sz:Nat)(vs:List Value)(xs:List α)(w:World):Prop :=
 vs.length=xs.length*sz /\ ∀ i x,xs[i]? = some x->R x ((vs.drop (i*sz)).take sz) w
def rowAt(A:Option Addr)(vs:List Value)(w:World):Prop:=vs=[] \/ ∃ g off c t fz,A=some ⟨g,off,none⟩/\w.heap[g]? = some (.cells c t fz)/\(c.toList.drop off).take vs.length=vs
def FL(R:α->List Value->World->Prop)(sz:Nat)(v:Value)(vs:List Value)(xs:List α)(w:World):Prop :=
 ∃ (A:Option Addr) (n c:Nat),v = .slice A n c/\xs.length=n/\n<=c/\rowAt A vs w/\EL R sz vs xs w
def RL(R:α->List Value->World->Prop)(sz:Nat)(x:List Value×List α)(cs:List Value)(w:World):Prop :=
 ∃ (A:Option Addr) (n c:Nat),cs=[.slice A n c]/\FL R sz (.slice A n c) x.1 x.2 w
theorem EL.nil(R:α->List Value->World->Prop)(sz:Nat)(w:World):EL R sz [] [] w:=⟨by simp,fun i x h=>by cases h⟩
theorem EL.old(h : ∀ x cs,Old (R x cs)):Old (EL R sz vs xs):=fun w w' ha hp=>⟨hp.1,fun i x hx=>h x _ w w' ha (hp.2 i x hx)⟩
theorem EL.stable(h : ∀ x cs,Stable (R x cs)):Stable (EL R sz vs xs):=fun gs w w' ha hp=>⟨hp.1,fun i x hx=>h x _ gs w w' ha (hp.2 i x hx)⟩
theorem rowAt.old{A:Option Addr} : Old (rowAt A vs):=fun w w' ha hp=>by
 rcases hp with rfl | ⟨g,off,c,t,fz,rfl,h1,h2⟩
 ·exact .inl rfl
 ·exact .inr ⟨g,off,c,t,fz,rfl,(ha.same g (ahD.1 h1).1 (by simp)).trans h1,h2⟩
theorem FL.old(h : ∀ x cs,Old (R x cs)){v:Value} : Old (FL R sz v vs xs):=fun w w' ha hp=>by
 obtain ⟨A,n,c,h1,h2,h3,h4,h5⟩:=hp;exact ⟨A,n,c,h1,h2,h3,rowAt.old w w' ha h4,EL.old h w w' ha h5⟩
theorem RL.old(h : ∀ x cs,Old (R x cs)){x:List Value×List α}{cs:List Value} : Old (RL R sz x cs):=fun w w' ha hp=>by
 obtain ⟨A,n,c,h1,h2⟩:=hp;exact ⟨A,n,c,h1,FL.old h w w' ha h2⟩
variable {A:Option Addr} {n c:Nat}
theorem FL.parts(h:FL R sz (.slice A n c) vs xs w):xs.length=n/\n<=c/\rowAt A vs w/\EL R sz vs xs w:=by
 obtain ⟨A',n',c',h1,h2⟩:=h;grind
theorem FL.len(h:FL R sz (.slice A n c) vs xs w):xs.length=n:=h.parts.1
theorem FL.Jj(h:FL R sz (.slice A n c) vs xs w):vs.length=n*sz:=by rw [h.parts.2.2.2.1,h.len]
theorem FL.el(h:FL R sz (.slice A n c) vs xs w):EL R sz vs xs w:=h.parts.2.2.2
theorem FL.empty(h:FL R sz (.slice A n c) vs xs w)(hn:n=0):xs=[]:=ahT.1 (h.len.trans hn)
theorem FL.nil(R:α->List Value->World->Prop)(sz:Nat)(w:World)(A:Option Addr)(c:Nat):FL R sz (.slice A 0 c) [] [] w:=⟨A,0,c,rfl,rfl,ahl _,.inl rfl,EL.nil R sz w⟩
def eaddr(A:Option Addr)(k:Nat):Addr:=(A.getD ⟨0,0,none⟩).add k
theorem FL.some_(h:FL R sz (.slice A n c) vs xs w)(hz:0<sz){j:Nat}(hj:j<n):A.isSome=true:=by
 obtain ⟨h1,h2,h3,h4⟩:=h.parts;rcases h3 with rfl | ⟨g,off,c',t,fz,rfl,_⟩
 ·have e:=h4.1
  have e2:0<xs.length*sz:=ah8 af hz;grind
 ·rfl
theorem IZ{l:List Value}{off a n m:Nat}{vs:List Value}(h:(l.drop off).take n=vs)(ham:a+m<=n):(l.drop (off+a)).take m=(vs.drop a).take m:=by
 subst h;rw [aiF,aiK,List.drop_drop,ahS af]
theorem FL.chunk(h:FL R sz (.slice A n c) vs xs w){j:Nat}(hj:j<n)(hz:0<sz) : ∃ g off c' t fz,A=some ⟨g,off,none⟩/\w.heap[g]? = some (.cells c' t fz)/\(c'.toList.drop (off+j*sz)).take sz=(vs.drop (j*sz)).take sz/\((vs.drop (j*sz)).take sz).length=sz:=by
 have hl:=h.Jj;obtain ⟨h1,h2,h3,h4⟩:=h.parts;have hm:(j+1)*sz<=n*sz:=ahp _ hj;rw [ahP] at hm;rcases h3 with rfl | ⟨g,off,c',t,fz,rfl,e1,e2⟩
 ·grind
 ·exact ⟨g,off,c',t,fz,rfl,e1,IZ (n:=vs.length) e2 af,by simp;omega⟩
theorem FL.at_(h:FL R sz (.slice A n c) vs xs w){j:Nat}{x:α}(hx:xs[j]? = some x):R x ((vs.drop (j*sz)).take sz) w:=h.el.2 j x hx
theorem EL.append{vs':List Value}{xs':List α}(h:EL R sz vs xs w)(h':EL R sz vs' xs' w):EL R sz (vs++vs') (xs++xs') w:=by
 refine ⟨by rw [List.length_append,List.length_append,h.1,h'.1,ahw],fun i x hx => ?_⟩
 by_cases hi:i<xs.length
 ·rw [ah4 hi] at hx
  have h1:=h.2 i x hx;have hm:(i+1)*sz<=xs.length*sz:=ahp _ hi;rw [ahP] at hm;rw [ai4 (by rw [h.1];omega),ai5 (by rw [ahI,h.1];omega)];exact h1
 ·rw [aje af] at hx
  have h1:=h'.2 _ x hx
  have e:i*sz=vs.length+(i-xs.length)*sz:=by
   rw [h.1,<- ahw];congr 1;omega
  simp_all
theorem EL.one{x:α}{cs:List Value}(h:R x cs w)(hl:cs.length=sz):EL R sz cs [x] w:=by
 subst hl;refine ⟨by simp,fun i y hy => ?_⟩
 cases i with
 | zero=>simp at hy;subst hy;simpa using h
 | succ i=>simp at hy
theorem EL.sub(h:EL R sz vs xs w)(lo k:Nat)(hk:lo+k<=xs.length):EL R sz ((vs.drop (lo*sz)).take (k*sz)) ((xs.drop lo).take k) w:=by
 have hm:(lo+k)*sz<=xs.length*sz:=ahp _ hk;rw [ahw] at hm;refine ⟨by simp [h.1];rw [ahS af,ahS af],fun i x hx => ?_⟩;rw [ahQ] at hx
 split at hx
 ·rename_i hik
  rw [aib] at hx;have h1:=h.2 _ x hx;have hm2:(i+1)*sz<=k*sz:=ahp _ hik;rw [ahP] at hm2;rw [aiF,aiK,List.drop_drop,ahS af,<- ahw];exact h1
 ·cases hx
theorem yC : ∀ (l:List Value) (vs:List Value) (o:Nat),(wr vs o l).length=vs.length
 | [],_,_=>rfl
 | v::l,vs,o=>by unfold wr;rw [yC l];simp
theorem qF : ∀ (l:List Value) (vs:List Value) (o k:Nat),o+l.length<=vs.length->(wr vs o l)[k]? = if o<=k/\k<o+l.length then l[k-o]? else vs[k]?
 | [],vs,o,k,_=>by unfold wr;rw [if_neg (by simp)]
 | v::l,vs,o,k,h=>by
  simp only [List.length_cons] at h;unfold wr;rw [qF l _ (o+1) k (by simp;omega)]
  by_cases e:k=o
  ·subst e
   rw [if_neg af,if_pos (by simp),aiR af];simp
  ·by_cases e2:o+1<=k/\k<o+1+l.length
   ·rw [if_pos e2,if_pos (by simp;omega),show k-o=(k-(o+1))+1 from af,List.getElem?_cons_succ]
   ·rw [if_neg e2,if_neg (by simp;omega),ai2 (Ne.symm e)]
theorem EL.set(h:EL R sz vs xs w){j:Nat}{x:α}{cs:List Value}(hj:j<xs.length)(hx:R x cs w)(hl:cs.length=sz):EL R sz (wr vs (j*sz) cs) (xs.set j x) w:=by
 have hm:(j+1)*sz<=xs.length*sz:=ahp _ hj;rw [ahP] at hm;have hfit:j*sz+cs.length<=vs.length:=by rw [h.1,hl];exact hm
 refine ⟨by rw [yC,h.1,ahv],fun i y hy => ?_⟩
 have key : ∀ cs':List Value,cs'.length=sz->(∀ k,k<sz->(wr vs (j*sz) cs)[i*sz+k]? = cs'[k]?)->i<xs.length->((wr vs (j*sz) cs).drop (i*sz)).take sz=cs':=fun cs' hl' hk hi=>by
  apply aiw;grind
 have hi:i<xs.length:=by
  grind
 by_cases e:j=i
 ·subst e
  rw [aiR hj] at hy;obtain rfl:=Option.some.inj hy;rw [key cs hl (fun k hk=>by rw [qF _ _ _ _ hfit,if_pos af];congr 1;omega) hi];exact hx
 ·rw [ai2 e] at hy
  have h1:=h.2 i y hy;have hm2:(i+1)*sz<=xs.length*sz:=ahp _ hi;rw [ahP] at hm2;rw [key ((vs.drop (i*sz)).take sz) (by simp [h.1];omega) (fun k hk => ?_) hi]
  ·exact h1
  ·rw [qF _ _ _ _ hfit,if_neg,ahQ,if_pos hk,aib]
   rcases Nat.lt_or_gt_of_ne e with hlt | hlt
   ·have:(j+1)*sz<=i*sz:=ahp _ hlt
    grind
   ·have:(i+1)*sz<=j*sz:=ahp _ hlt
    grind
theorem EL.zeros{x:α}{zs:List Value}(h:R x zs w)(hl:zs.length=sz)(n:Nat):EL R sz (List.replicate n zs).flatten (List.replicate n x) w:=by
 induction n with
 | zero=>exact EL.nil R sz w
 | succ n ih =>
  rw [ai8,List.flatten_cons,ai8];exact (EL.one h hl).append ih
theorem EL.map{β:Type}{S:β->List Value->World->Prop}{f:α->β}(h:EL R sz vs xs w)(hf : ∀ x cs,x∈xs->R x cs w->S (f x) cs w):EL S sz vs (xs.map f) w:=by
 refine ⟨by rw [h.1,aij],fun i y hy => ?_⟩;rw [aiv] at hy;obtain ⟨x,hx,rfl⟩:=Option.map_eq_some_iff.1 hy;exact hf x _ (ahq hx) (h.2 i x hx)
theorem FL.map{β:Type}{S:β->List Value->World->Prop}{f:α->β}{v:Value}(h:FL R sz v vs xs w)(hf : ∀ x cs,x∈xs->R x cs w->S (f x) cs w):FL S sz v vs (xs.map f) w:=by
 obtain ⟨A,n,c,h1,h2,h3,h4,h5⟩:=h;exact ⟨A,n,c,h1,by rw [aij,h2],h3,h4,h5.map hf⟩
theorem FL.sub(h:FL R sz (.slice A n c) vs xs w)(lo k c':Nat)(hk:lo+k<=n)(hc:k<=c'){A':Option Addr}(hA:k=0\/A'=A.map (·.add (lo*sz))):FL R sz (.slice A' k c') ((vs.drop (lo*sz)).take (k*sz)) ((xs.drop lo).take k) w:=by
 have hl:=h.Jj;obtain ⟨h1,h2,h3,h4⟩:=h.parts;have hm:(lo+k)*sz<=n*sz:=ahp _ hk;rw [ahw] at hm;refine ⟨A',k,c',rfl,by simp;omega,hc,?_,h4.sub lo k af⟩;rcases hA with rfl | rfl
 ·exact .inl (by simp)
 ·rcases h3 with rfl | ⟨g,off,c2,t,fz,rfl,e1,e2⟩
  ·exact .inl (by simp)
  ·refine .inr ⟨g,off+lo*sz,c2,t,fz,by simp [Addr.add],e1,?_⟩
   rw [aic,ahI,hl,ahS af];exact IZ (n:=vs.length) e2 af
end
end bJ
namespace bJ
open Go Go.RowKit
variable {ds:List Deferred} {r:Option Nat}
section
variable {P:Program} {ρ:Operand->Value} {w:World} {dst:Option Tmp} {ty:TypeId} {pos:String} {bn:Array Edge} {gd:Option (Nat×Bool)}
theorem zl(g off k:Nat):eaddr (some ⟨g,off,none⟩) k=⟨g,off+k,none⟩:=by
 unfold eaddr Addr.add;grind
theorem oK{t e:TypeId}{x y:Operand}{size n c j:Nat}{A:Option Addr}{k:IntKind}{J:Int}{v:Value}(hx:ρ x = .slice A n c)(hy:ρ y = .int k J)(hu : ∀ w,(underlying t).run P w = .ok (.slice e) w)(hs : ∀ w,(Go.sizeOf e).run P w = .ok size w)(hJ:J=(j:Int))(hj:j<n)(hA:A.isSome=true)(hv:Value.pointer (some (eaddr A (j*size)))=v):(execOp ρ ⟨dst,.indexAddr t x y,ty,pos,bn,gd⟩).run P w = .ok (.value v) w:=by
 subst hJ hv;obtain ⟨a,rfl⟩:=Option.isSome_iff_exists.1 hA;simp [execOp,hx,hy,Instr.indexAt,asIntOf,hu,hs,eaddr];intro h;omega
section
variable {α:Type} {R:α->List Value->World->Prop} {sz:Nat} {vs cs:List Value} {xs:List α} {A:Option Addr} {n c j o m:Nat}
theorem jk{t:TypeId}{x:Operand}{v:Value}(hx:ρ x = .pointer (some (eaddr A (j*sz+o))))(hg : ∀ w,(isAgg t).run P w = .ok true w)(hs : ∀ w,(Go.sizeOf t).run P w = .ok m w)(h:FL R sz (.slice A n c) vs xs w)(hj:j<n)(hm:o+m<=sz)(hz:0<sz)(hcs:(vs.drop (j*sz)).take sz=cs)(hv:Value.agg ((cs.drop o).take m).toArray=v):(execOp ρ ⟨dst,.load t x,ty,pos,bn,gd⟩).run P w = .ok (.value v) w:=by
 obtain ⟨g,off,c',et,fz,rfl,e1,e2,e3⟩:=h.chunk hj hz;rw [zl] at hx
 have hl:off+(j*sz+o)+m<=c'.size:=by
  have:=e3;rw [<- e2] at this;simp at this;omega
 rw [rO hx hg hs e1 (ajf hl),<- hv,<- hcs]
 congr 4
 rw [show off+(j*sz+o)=(off+j*sz)+o by omega];exact IZ (n:=sz) e2 hm
theorem acR{t:TypeId}{x:Operand}{v:Value}(hx:ρ x = .pointer (some (eaddr A (j*sz+o))))(hg : ∀ w,(isAgg t).run P w = .ok false w)(h:FL R sz (.slice A n c) vs xs w)(hj:j<n)(hz:0<sz)(hcs:(vs.drop (j*sz)).take sz=cs)(hv:cs[o]? = some v):(execOp ρ ⟨dst,.load t x,ty,pos,bn,gd⟩).run P w = .ok (.value v) w:=by
 obtain ⟨g,off,c',et,fz,rfl,e1,e2,e3⟩:=h.chunk hj hz;rw [zl] at hx;refine iY hx hg e1 ?_;rw [<- hcs,<- e2,ahQ] at hv
 split at hv
 ·rw [aib] at hv
  rw [<- hv,<- ais]
  congr 1;omega
 ·cases hv
end
theorem adg{t e:TypeId}{x:Operand}{lo hi:Option Operand}{A:Option Addr}{n c l h size:Nat}(_hx:ρ x = .slice A n c)(hu : ∀ w,(underlying t).run P w = .ok (.slice e) w)(hs : ∀ w,(Go.sizeOf e).run P w = .ok size w)(hlo:(lo=none/\l=0) \/ ∃ y k,lo=some y/\ρ y = .int k (l:Int))(hhi:(hi=none/\h=n) \/ ∃ y k,hi=some y/\ρ y = .int k (h:Int))(h1:l<=h)(h2:h<=c) :
  (execOp ρ ⟨dst,.slice t x lo hi none,ty,pos,bn,gd⟩).run P w = .ok (.value (.slice (if c=l then A else A.map (·.add (l*size))) (h-l) (c-l))) w:=by
 rcases hlo with ⟨rfl,rfl⟩ | ⟨y,k,rfl,hy⟩ <;> rcases hhi with ⟨rfl,rfl⟩ | ⟨y',k',rfl,hy'⟩ <;> simp [execOp, *,Instr.sliceAt,Instr.slice,Instr.sliceBounds,Instr.sliceBound,asIntOf]
end
def rowB(A:Option Addr)(e:TypeId)(cur:List Value):List Box:=match A with
 | some a=>[⟨a.block,e,cur⟩]
 | none=>[]
def Row(sz:Nat)(A:Option Addr)(n c:Nat)(cur vals:List Value):Prop :=
 vals.length=n*sz/\n<=c/\((A=none/\c=0) \/ ∃ g,A=some ⟨g,0,none⟩/\cur.length=c*sz/\cur.take (n*sz)=vals)
theorem Row.nil(sz:Nat):Row sz none 0 0 [] []:=⟨by simp,ahj _,.inl ⟨rfl,rfl⟩⟩
theorem Row.len{sz n c:Nat}{A:Option Addr}{cur vals:List Value}(h:Row sz A n c cur vals):vals.length=n*sz:=h.1
def eU(n:Nat)(zs:List Value):List Value:=(List.replicate n zs).flatten
theorem DI(n:Nat)(zs:List Value):eU (n+1) zs=zs++eU n zs:=by unfold eU;rw [ai8,List.flatten_cons]
theorem DF(n:Nat)(zs:List Value):(eU n zs).length=n*zs.length:=by
 induction n with
 | zero=>simp [eU]
 | succ n ih=>rw [DI,List.length_append,ih,ahP,Nat.add_comm]
theorem aeF(n:Nat)(zs:List Value)(i:Nat)(h:i<n*zs.length):(eU n zs)[i]? = zs[i%zs.length]? := by
 induction n generalizing i with
 | zero=>simp at h
 | succ n ih =>
  rw [DI]
  by_cases hi:i<zs.length
  ·rw [ah4 hi,aih hi]
  ·rw [ahP] at h
   rw [aje af,ih _ af,Nat.mod_eq_sub_mod (a:=i) af]
theorem TV(n:Nat){zs:List Value}(h:zs.all dO=true):(eU n zs).all dO=true:=by
 induction n with
 | zero=>rfl
 | succ n ih=>rw [DI,List.all_append,h,ih];rfl
theorem Aw(z:Array Value)(n:Nat):(madeCells z (n*z.size))=(eU n z.toList).toArray:=by
 apply Array.ext';apply aiw;intro i;have hzl:=DF n z.toList;simp only [aiy] at hzl
 by_cases hi:i<n*z.size
 ·have hz:0<z.size:=aii fun e=>by rw [e] at hi;omega
  have hm:=aht i hz;rw [show (eU n z.toList).toArray.toList=eU n z.toList by simp,aeF n z.toList i (by simpa using hi)];simp [madeCells,hi,hm]
 ·rw [ahX (by simp [madeCells];omega),ahX (by simp;omega)]
theorem TT(z:Array Value)(n:Nat):Builtin.zeroCells z n=(eU n z.toList).toArray:=Aw z n
section
variable {P:Program} {ops:Array Oper} {Q:Exit->Act->World->Prop} {N:Nat} {T:List (Nat×Value)} {W0 w w':World} {U Ub:List Box} {Ps:List (World->Prop)}
variable {rest:List Oper} {d:Nat} {α:Type} {R:α->List Value->World->Prop}
section
variable {cur news vals zs:List Value} {bytes size:Nat} {s x:Operand} {e t tx:TypeId} {xv z:Value}
theorem info_parts(h:(P.info? e).map (fun i=>(i.zero,i.size,i.bytes))=some (some z,size,bytes)) : ∃ i,P.info? e=some i/\i.zero=some z/\i.size=size/\i.bytes=bytes:=by
 simp_all
theorem JL.aae{l c:Operand}{n:Nat}{x0:α}{kl kc:IntKind}{L C:Int}{ty:TypeId}{pos:String}{bn:Array Edge}(HS:St W0 U Ps w)(hN:Nat.ble (d+1) N=true)(hl:ev T l=some (.int kl L))(hc:ev T c=some (.int kc C))(hL:L=(n:Int))(hC:C=(n:Int))(ht:P.underlying t=some (.slice e))(hi:(P.info? e).map (fun i=>(i.zero,i.size,i.bytes))=some (some z,size,bytes))(hz:z.cells=zs.toArray)(hzl:zs.length=size)(iq:zs.all dO=true)(hb:Nat.ble bytes 1000=true)(hn:n<=100000000)(hR : ∀ w,R x0 zs w)(h : ∀ g w',St W0 (⟨g,e,eU n zs⟩::U) (EL R size (eU n zs) (List.replicate n x0)::Ps) w'->JL ds P ops Q rest N ((d,.slice (some ⟨g,0,none⟩) n n)::T) w') :
  JL ds P ops Q (⟨some d,.makeSlice t l c,ty,pos,bn,none⟩::rest) N T w:=by
 obtain ⟨i,h1,h2,h3,h4⟩:=info_parts hi;have hb':=aho hb;have hbn:bytes*n<=1000*n:=ahp _ hb'
 have YQ:(bytes:Int)*(n:Int)<=281474976710656:=by
  have:((bytes*n:Nat):Int)<=281474976710656:=af
  simpa using this
 have hrun:=run_make (P:=P) w t e i z ht h1 h2 kl kc (n:Int) (n:Int) af (Int.le_refl _) (by rw [h4];exact YQ) af;rw [aie,h3,<- hzl,show zs.length=z.cells.size by rw [hz];simp,Aw,hz] at hrun;subst hL hC;refine JL.val rfl rfl hN (fun a ha => ?_) (h w.heap.size _ ((HS.alloc e (eU n zs) (TV n iq)).jq fun w' _=>EL.zeros (hR w') hzl n));simp [execOp,ha.ev hl,ha.ev hc,hrun]
theorem ql(g:Nat)(e:TypeId)(cur:List Value):rowB (some ⟨g,0,none⟩) e cur=[⟨g,e,cur⟩]:=rfl
theorem St.acs{A:Option Addr}(HS:St W0 (Ub++(rowB A e cur++U)) Ps w)(vs:List Value)(hv:vs.all dO=true):St W0 (Ub++(rowB (some ⟨w.heap.size,0,none⟩) e vs++U)) Ps (w.alloc (.cells vs.toArray e)):=by
 have h1:=HS.alloc e vs hv;refine h1.gone (fun b hb => ?_) ?_
 ·rw [ql] at hb
  grind
 ·have h2:(⟨w.heap.size,e,vs⟩::(Ub++U)).Pairwise (fun b b':Box=>b.g≠b'.g):=h1.nd.sublist (List.Sublist.cons_cons _ (List.Sublist.append (List.Sublist.refl _) (List.sublist_append_right _ _)))
  rw [ql];grind
theorem Vp{l:List Value}{p:Value->Bool}(h:l.all p=true)(n:Nat):(l.take n).all p=true:=by
 grind
theorem EJ{n c m:Nat}{A:Option Addr}{ty:TypeId}{pos:String}{bn:Array Edge}(HS:St W0 (Ub++(rowB A e cur++U)) Ps w)(hrow:Row size A n c cur vals)(hs:ev T s=some (.slice A n c))(hx:ev T x=some xv)(hsrc:Src P size tx xv m news w)(hnw:news.all dO=true)(ht:P.underlying t=some (.slice e))(hi:(P.info? e).map (fun i=>(i.zero,i.size,i.bytes))=some (some z,size,bytes))(hz:z.cells=zs.toArray)(hzl:zs.length=size)(iq:zs.all dO=true)(hb:Nat.ble bytes 1000=true)(hn:n+m<=100000000)
  : ∃ (A':Option Addr) (c':Nat) (cur':List Value) (w':World),Row size A' (n+m) c' cur' (vals++news)/\St W0 (Ub++(rowB A' e cur'++U)) Ps w' /\ ∀ a:Act,Kn ds a N T->(execOp a.eval ⟨some d,.call ⟨.builtin .append,#[s,x],#[t,tx]⟩,ty,pos,bn,none⟩).run P w = .ok (.value (.slice A' (n+m) c')) w':=by
 obtain ⟨i,h1,h2,h3,h4⟩:=info_parts hi;subst h3;have hb':=aho hb;obtain ⟨r1,r2,r3⟩:=hrow;have hlen:(vals++news).length=(n+m)*i.size:=by rw [List.length_append,r1,hsrc.newsLen,ahw]
 have hex : ∀ a:Act,∀ v w1,(Builtin.append_ #[t,tx] ty #[.slice A n c,xv]).run P w = .ok v w1->Kn ds a N T->(execOp a.eval ⟨some d,.call ⟨.builtin .append,#[s,x],#[t,tx]⟩,ty,pos,bn,none⟩).run P w = .ok (.value v) w1:=fun a v w1 hr ha=>by
  simp [execOp,resolve,invoke,builtin,ha.ev hs,ha.ev hx,hr]
 have hv:vals.all dO=true:=by
  rcases r3 with ⟨rfl,rfl⟩ | ⟨g,rfl,e1,e2⟩
  ·have:vals=[]:=ahT.1 (by
                            rw [r1];have:n=0:=af;rw [this,Nat.zero_mul])
   rw [this];rfl
  ·rw [<- e2]
   exact Vp (HS.soft ⟨g,e,cur⟩ (by rw [ql];simp)) _
 by_cases hroom:n+m<=c
 ·rcases r3 with ⟨rfl,rfl⟩ | ⟨g,rfl,e1,e2⟩
  ·
   obtain ⟨rfl,rfl⟩:n=0/\m=0:=af;have hnews:news=[]:=ahT.1 (by rw [hsrc.newsLen,Nat.zero_mul]);subst hnews
   have hr:(Builtin.append_ #[t,tx] ty #[.slice none 0 0,xv]).run P w = .ok (.slice none 0 0) w:=by
    rcases hsrc.kind with ⟨e',hk⟩ | hk <;> simp [Builtin.append_,run_underlying ht,run_underlying hk,Go.sizeOf,typeInfo,h1,hsrc.len,hsrc.cells]
   exact ⟨none,0,cur,w,⟨by simpa using r1,ahj _,.inl ⟨rfl,rfl⟩⟩,HS,fun a ha=>hex a _ _ hr ha⟩
  ·have hmem:(⟨g,e,cur⟩:Box)∈Ub++(rowB (some ⟨g,0,none⟩) e cur++U):=by rw [ql];simp
   have hbox:=HS.box _ hmem;have hfit:(n+m)*i.size<=c*i.size:=ahp _ hroom;rw [ahw,<- hsrc.newsLen] at hfit
   have hr:=run_append_room_src (P:=P) w t tx ty e i ht h1 g 0 n c xv m news hsrc hroom
    (fun j hj=>by unfold World.cell?;simp only [hbox];simp;omega) (fun j hj=>by unfold World.frozen?;simp [hbox])
   obtain ⟨w1,k1,k2,k3,k4,k5,k6,k7⟩:=CQ (P:=P) g (n*i.size) news 0 w cur hbox af hsrc.one
   have hw1:w1=w.setCells g (0+n*i.size) news:=by
    have hst:=run_storeCells_cells (P:=P) g (n*i.size) news 0 w (fun j hj=>by unfold World.cell?;simp only [hbox];simp;omega) (fun j hj=>by unfold World.frozen?;simp [hbox]) hsrc.one;rw [k1] at hst
    injection hst with _ hst;rw [hst,ahC];rfl
   rw [<- hw1] at hr
   have Zn:(wr cur (n*i.size+0) news).all dO=true:=by
    rw [ahK];intro x hx;obtain ⟨k,hk⟩:=aiE hx;rw [qF _ _ _ _ af] at hk
    split at hk
    ·exact ahK.1 hnw x (ahq hk)
    ·exact ahK.1 (HS.soft _ hmem) x (ahq hk)
   have hidx:(Ub++(rowB (some ⟨g,0,none⟩) e cur++U))[Ub.length]? = some ⟨g,e,cur⟩:=by rw [ql];simp
   have fH:=HS.write Ub.length hidx Zn k2 k3 k4 k5 k6 k7;rw [ql,List.set_append_right _ _ (ahj _),Nat.sub_self] at fH;refine ⟨some ⟨g,0,none⟩,c,_,w1,⟨hlen,hroom,.inr ⟨g,rfl,by rw [yC];exact e1,?_⟩⟩,fH,fun a ha=>hex a _ _ hr ha⟩;rw [<- hlen];apply aiw;intro k;rw [ahQ]
   by_cases hk:k<(vals++news).length
   ·rw [if_pos hk,qF _ _ _ _ af]
    rw [List.length_append,r1] at hk
    by_cases hk2:k<n*i.size
    ·rw [if_neg af,ah4 af,<- e2,ahQ,if_pos hk2]
    ·rw [if_pos af,aje af,r1];rfl
   ·rw [if_neg hk,ahX af]
 ·have hold:(Builtin.firstCells i.size n (.slice A n c)).run P w.drew = .ok vals.toArray w.drew:=by
   rcases r3 with ⟨rfl,rfl⟩ | ⟨g,rfl,e1,e2⟩
   ·obtain rfl:n=0:=af
    rw [ahT.1 (r1.trans (Nat.zero_mul _))];exact run_firstCells_none w.drew i.size 0 0 0
   ·have hbox:=HS.box ⟨g,e,cur⟩ (by rw [ql];simp)
    refine run_firstCells_some w.drew i.size n ⟨g,0,none⟩ n c vals r1 (fun j v hj => ?_);rw [Addr.add_lit];rw [<- e2,ahQ] at hj
    split at hj
    ·unfold World.cell?
     rw [show w.drew.heap=w.heap from rfl];simp only [hbox]
     simpa using hj
    ·cases hj
  have hfit:Builtin.nextslicecap (n+m) c*i.bytes<=281474976710656:=growslice_fits af (by
   rw [h4];have:(n+m)*bytes<=100000000*1000:=ahY hn hb';omega)
  have hr:=run_append_grow_src (P:=P) w t tx ty e i z ht h1 h2 A n c vals hold xv m news hsrc af af hfit;have hge:=grownCap_ge w (n+m) c e;generalize grownCap w (n+m) c e=C at hr hge;rw [hz,show Builtin.zeroCells zs.toArray (C-(n+m))=(eU (C-(n+m)) zs).toArray by rw [TT]] at hr;rw [show (vals++news).toArray++(eU (C-(n+m)) zs).toArray=(vals++news++eU (C-(n+m)) zs).toArray by simp] at hr;have Zo:(vals++news++eU (C-(n+m)) zs).all dO=true:=by rw [List.all_append,List.all_append,hv,hnw,TV _ iq];rfl
  have fH:=St.acs (HS.next (Below.refl _ w).drew) (vals++news++eU (C-(n+m)) zs) Zo;refine ⟨some ⟨w.heap.size,0,none⟩,C,_,_,⟨hlen,hge,.inr ⟨_,rfl,?_,?_⟩⟩,fH,fun a ha=>hex a _ _ hr ha⟩
  ·rw [List.length_append,hlen,DF,hzl,<- ahw];congr 1;omega
  ·rw [<- hlen];exact List.take_left
theorem JL.Vt{n c m:Nat}{A:Option Addr}{ty:TypeId}{pos:String}{bn:Array Edge}(HS:St W0 (Ub++(rowB A e cur++U)) Ps w)(hrow:Row size A n c cur vals)(hN:Nat.ble (d+1) N=true)(hs:ev T s=some (.slice A n c))(hx:ev T x=some xv)(hsrc:Src P size tx xv m news w)(hnw:news.all dO=true)(ht:P.underlying t=some (.slice e))(hi:(P.info? e).map (fun i=>(i.zero,i.size,i.bytes))=some (some z,size,bytes))(hz:z.cells=zs.toArray)(hzl:zs.length=size)(iq:zs.all dO=true)(hb:Nat.ble bytes 1000=true)(hn:n+m<=100000000)(h : ∀ A' c' cur' w',Row size A' (n+m) c' cur' (vals++news)->St W0 (Ub++(rowB A' e cur'++U)) Ps w'->JL ds P ops Q rest N ((d,.slice A' (n+m) c')::T) w') :
  JL ds P ops Q (⟨some d,.call ⟨.builtin .append,#[s,x],#[t,tx]⟩,ty,pos,bn,none⟩::rest) N T w:=by
 obtain ⟨A',c',cur',w',r,hs',hrun⟩:=EJ (d:=d) (N:=N) (ty:=ty) (pos:=pos) (bn:=bn) HS hrow hs hx hsrc hnw ht hi hz hzl iq hb hn;exact JL.val rfl rfl hN hrun (h A' c' cur' w' r hs')
end
end
section
variable {α:Type} {R:α->List Value->World->Prop} {W0 w:World} {U Ub:List Box} {Ps:List (World->Prop)} {sz n c:Nat} {vs:List Value} {xs:List α}
theorem St.freeze{g:Nat}{t:TypeId}(HS:St W0 U Ps w)(i:Nat)(hi:U[i]? = some ⟨g,t,vs⟩)(p:Nat)(hp:Ps[p]? = some (EL R sz vs xs))(hn:xs.length=n)(hc:n<=c):St W0 (U.eraseIdx i) (FL R sz (.slice (some ⟨g,0,none⟩) n c) vs xs::Ps) w:=by
 have hlt:=HS.lt (ahq hi);have hbox:=HS.box _ (ahq hi)
 have hg : ∀ b∈U.eraseIdx i,b.g≠g:=fun b hb=>by
  obtain ⟨j,hj,e⟩:=List.mem_eraseIdx_iff_getElem?.1 hb;have hp:=List.pairwise_iff_getElem.1 HS.nd;grind
 have h1:=HS.gone (U':=U.eraseIdx i) (fun b hb=>List.mem_of_mem_eraseIdx hb) (HS.nd.sublist (List.eraseIdx_sublist _ _));refine h1.jq fun w' ha=>⟨_,n,c,rfl,hn,hc,.inr ⟨g,0,vs.toArray,t,(0,0),rfl,?_,by simp⟩,h1.dJ p hp w' ha⟩
 rw [ha.same g hlt (fun hm=>by
  obtain ⟨b,hb,e⟩:=ahZ.1 hm;exact hg b hb e)]
 exact hbox
theorem St.Nc{A:Option Addr}{e:TypeId}{cur vals:List Value}(HS:St W0 (Ub++(rowB A e cur++U)) Ps w)(hrow:Row sz A n c cur vals)(p:Nat)(hp:Ps[p]? = some (EL R sz vals xs))(hn:xs.length=n):St W0 (Ub++U) (FL R sz (.slice A n c) vals xs::Ps) w:=by
 obtain ⟨r1,r2,r3⟩:=hrow;rcases r3 with ⟨rfl,rfl⟩ | ⟨g,rfl,e1,e2⟩
 ·obtain rfl:n=0:=af
  refine HS.jq fun w' ha=>⟨none,0,0,rfl,hn,ahj _,.inl (ahT.1 (r1.trans (Nat.zero_mul _))),HS.dJ p hp w' ha⟩
 ·rw [ql] at HS
  have hidx:(Ub++([⟨g,e,cur⟩]++U))[Ub.length]? = some ⟨g,e,cur⟩:=by simp
  have hlt:=HS.lt (ahq hidx);have hbox:=HS.box _ (ahq hidx);have hsub:(Ub++U).Sublist (Ub++([⟨g,e,cur⟩]++U)):=by grind
  have h1:=HS.gone (U':=Ub++U) (fun b hb=>hsub.subset hb) (HS.nd.sublist hsub)
  have hg : ∀ b∈Ub++U,b.g≠g:=fun b hb=>by
   have hp:=HS.nd;grind
  refine h1.jq fun w' ha=>⟨_,n,c,rfl,hn,r2,.inr ⟨g,0,cur.toArray,e,(0,0),rfl,?_,?_⟩,h1.dJ p hp w' ha⟩
  ·rw [ha.same g hlt (fun hm=>by
    obtain ⟨b,hb,e⟩:=ahZ.1 hm;exact hg b hb e)]
   omega
  ·grind
theorem St.adm{x':α}{cs:List Value}(HS:St W0 U Ps w)(p:Nat)(hp:Ps[p]? = some (EL R sz vs xs)){j:Nat}(hj:j<xs.length)(hl:cs.length=sz)(hR:fC U w (R x' cs)):St W0 U (EL R sz (wr vs (j*sz) cs) (xs.set j x')::Ps) w :=
 HS.jq fun w' ha=>(HS.dJ p hp w' ha).set hj (hR w' ha) hl
theorem aeA{cs:List Value}{k:Nat}(h:vs.all dO=true)(h2:cs.all dO=true)(hk:k+cs.length<=vs.length):(wr vs k cs).all dO=true:=by
 rw [ahK];intro x hx;obtain ⟨i,hi⟩:=aiE hx;rw [qF _ _ _ _ hk] at hi;grind
end
section
variable {P:Program} {ops:Array Oper} {Q:Exit->Act->World->Prop} {N:Nat} {T:List (Nat×Value)} {W0 w w':World} {U:List Box} {Ps:List (World->Prop)}
variable {rest:List Oper} {α:Type} {R:α->List Value->World->Prop} {sz:Nat} {vs:List Value} {xs:List α}
theorem ada{ρ:Operand->Value}{dst:Option Tmp}{ty:TypeId}{pos:String}{bn:Array Edge}{gd:Option (Nat×Bool)}{t et:TypeId}{x y:Operand}{g k n:Nat}{v:Value}(hx:ρ x = .pointer (some (eaddr (some ⟨g,0,none⟩) k)))(hy:ρ y=v)(hs : ∀ w,(Go.sizeOf t).run P w = .ok n w)(hn:Nat.beq v.cells.size n=true)(hb:w.heap[g]? = some (.cells vs.toArray et (0,0)))(hfit:k+n<=vs.length)(h1:v.cells.toList.all Value.oneCell'=true) :
  ∃ w',(execOp ρ ⟨dst,.store t x y,ty,pos,bn,gd⟩).run P w = .ok .skip w'/\w'.os=w.os/\w'.tape=w.tape/\w'.output=w.output/\w'.heap.size=w.heap.size/\(∀ k,k≠g->w'.heap[k]? = w.heap[k]?)/\w'.heap[g]? = some (.cells (wr vs k v.cells.toList).toArray et (0,0)) :=
 CS (off:=k) (by rw [hx,zl,ahC]) hy hs hn hb (ajf hfit) h1
theorem JL.adG{t et:TypeId}{x y:Operand}{g j i p r:Nat}{v:Value}{cs:List Value}{x':α}{ty:TypeId}{pos:String}{bn:Array Edge}(HS:St W0 U Ps w)(hx:ev T x=some (.pointer (some (eaddr (some ⟨g,0,none⟩) (j*sz)))))(hy:ev T y=some v)(hi:U[i]? = some ⟨g,et,vs⟩)(hp:Ps[p]? = some (EL R sz vs xs))(hs : ∀ w,(Go.sizeOf t).run P w = .ok sz w)(hcs:v.cells.toList=cs)(hl:cs.length=sz)(hj:j<xs.length)(h1:cs.all Value.oneCell'=true)(h2:cs.all dO=true)(hr:Ps[r]? = some (R x' cs))(h : ∀ w',St W0 (U.set i ⟨g,et,wr vs (j*sz) cs⟩) (EL R sz (wr vs (j*sz) cs) (xs.set j x')::Ps) w'->JL ds P ops Q rest N T w'):JL ds P ops Q (⟨none,.store t x y,ty,pos,bn,none⟩::rest) N T w:=by
 subst hcs;have hm:(j+1)*sz<=xs.length*sz:=ahp _ hj;have hvl:=(HS.at_ p hp).1;rw [ahP] at hm;have hfit:j*sz+v.cells.toList.length<=vs.length:=af;intro a ha;have hn:Nat.beq v.cells.size sz=true:=by rw [<- aiy,hl];exact Nat.beq_refl _
 obtain ⟨w',r1,r2,r3,r4,r5,r6,r7⟩:=ada (P:=P) (vs:=vs) (dst:=none) (ty:=ty) (pos:=pos) (bn:=bn) (gd:=none) (ha.ev hx) (ha.ev hy) hs hn (HS.box _ (ahq hi)) af h1;unfold mL;rw [if_pos (show Region.wanted _ _=true from rfl)];unfold mO;rw [r1];exact h w' ((HS.adm p hp hj hl (HS.dJ r hr)).write i hi (aeA (vs:=vs) (HS.soft _ (ahq hi)) h2 hfit) r2 r3 r4 r5 r6 r7) _ ha
end
end bJ
