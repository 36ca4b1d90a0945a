/- Part of a proof, said shortly. -/
import Derived.LoopN
import Derived.OwnWalk
import Derived.Deep.AppendSrc
import Derived.Laws.MakeOwn
import Derived.Test.YtkcpphebkmnonaaGreatDoorAlzc
import Derived.Test.YtkcpphebkmnonaaGreatDoorC11c
import Derived.Test.YtkcpphebkmnonaaGreatDoorC10c
import Derived.Test.YtkcpphebkmnonaaGreatDoorC9c
import Derived.Test.YtkcpphebkmnonaaGreatDoorC8c
import Derived.Test.YtkcpphebkmnonaaGreatDoorC5c
import Derived.Test.YtkcpphebkmnonaaGreatDoorC2c
import Derived.Test.YtkcpphebkmnonaaGreatDoorC1c
import Derived.Test.YtkcpphebkmnonaaGreatDoorC4c
import Derived.Test.YtkcpphebkmnonaaGreatDoorC3c
import Derived.Test.YtkcpphebkmnonaaGreatDoorC7c
import Derived.Test.YtkcpphebkmnonaaGreatDoorC6c
set_option linter.unusedVariables false
set_option linter.unusedSimpArgs false
namespace bI
open Go Go.RowKit
section
variable {P:Program} {ρ:Operand->Value} {w:World} {dst:Option Tmp} {ty:TypeId} {pos:String} {bD:Array Edge} {gd:Option (Nat×Bool)}
theorem DY{t t':TypeId}{x y:Operand}{a b c:List UInt8}(hx:ρ x = .string ⟨a.toArray⟩)(hy:ρ y = .string ⟨b.toArray⟩)(hl:a.length+b.length<=9223372036854775807)(h:a++b=c) :
  (execOp ρ ⟨dst,.binOp .add t x y t',ty,pos,bD,gd⟩).run P w = .ok (.value (.string ⟨c.toArray⟩)) w:=by
 subst h
 have e:(⟨a.toArray⟩:ByteArray)++⟨b.toArray⟩=⟨(a++b).toArray⟩:=by
  apply ByteArray.ext;simp [ByteArray.data_append]
 have h1:(⟨a.toArray⟩:ByteArray).size=a.length:=by simp [ByteArray.size]
 have h2:(⟨b.toArray⟩:ByteArray).size=b.length:=by simp [ByteArray.size]
 have h3:¬ (((a.length+b.length:Nat):Int) > IntKind.i64.max):=by
  show ¬ (((a.length+b.length:Nat):Int) > 9223372036854775807);omega
 simp only [execOp,hx,hy,eqGuard,binOp,Op.stringOp,h1,h2,if_neg h3,e];simp
theorem mD{t e:TypeId}{x y:Operand}{k:IntKind}{i:Int}{g off n c size j:Nat}{v:Value}(hx:ρ x = .slice (some ⟨g,off,none⟩) n c)(hy:ρ y = .int k i)(hu : ∀ w,(underlying t).run P w = .ok (.slice e) w)(hs : ∀ w,(Go.sizeOf e).run P w = .ok size w)(hi:i=(j:Int))(hj:j<n)(hv:Value.pointer (some ⟨g,off+j*size,none⟩)=v):(execOp ρ ⟨dst,.indexAddr t x y,ty,pos,bD,gd⟩).run P w = .ok (.value v) w:=by
 subst hi hv;have e:(⟨g,off,none⟩:Addr).add (j*size)=⟨g,off+j*size,none⟩:=by unfold Addr.add;split <;> simp_all
 simp [execOp,hx,hy,Instr.indexAt,asIntOf,hu,hs,e];intro h;omega
theorem aek{t t':TypeId}{x y:Operand}{a b:ByteArray}{c:Bool}(hx:ρ x = .string a)(hy:ρ y = .string b)(h:(a.toList==b.toList)=c) :
  (execOp ρ ⟨dst,.binOp .eql t x y t',ty,pos,bD,gd⟩).run P w = .ok (.value (.bool c)) w:=by
 subst h;simp [execOp,hx,hy,eqGuard,binOp,Op.stringOp]
theorem qY{t t':TypeId}{x y:Operand}{a b:List UInt8}{c:Bool}(hx:ρ x = .string ⟨a.toArray⟩)(hy:ρ y = .string ⟨b.toArray⟩)(h:(a==b)=c) :
  (execOp ρ ⟨dst,.binOp .eql t x y t',ty,pos,bD,gd⟩).run P w = .ok (.value (.bool c)) w:=aek hx hy (by rw [ByteArray.toList_eq,ByteArray.toList_eq];simpa using h)
end
section
variable {P:Program} {ops:Array Oper} {Q:Exit->Act->World->Prop} {N:Nat} {T T':List (Nat×Value)} {w:World} {late:List Nat} {S:World->Prop} {fuel:Nat} {listed:Array Bool}
theorem Ui{a:Act}{j t:Nat}{oj:Oper}(ha:Kn a N T)(hj:ops[j]? = some oj)(hdj:oj.dst=some t)(dG:Nat.ble (t+1) N=true)(hv:bT T t=some undef):yielded ops a.tmps j=none:=by
 have h1:=ha.2.2 t _ hv;have h2:t<a.tmps.size:=by rw [ha.2.1];exact apt dG
 unfold yielded;rw [hj,apM,hdj,apM];rw [aqu,apN h2,Option.getD_some] at h1;rw [apN h2,h1]
 rfl
theorem JL.Qv{o oj:Oper}{rest:List Oper}{d j t:Nat}{want:Bool}(hg:o.guard=some (j,want))(hd:o.dst=some d)(hN:Nat.ble (d+1) N=true)(hj:ops[j]? = some oj)(hdj:oj.dst=some t)(dG:Nat.ble (t+1) N=true)(hv:bT T t=some undef)(h:JL P ops Q rest N ((d,undef)::T) w):JL P ops Q (o::rest) N T w:=by
 intro a ha;have hy:=Ui ha hj hdj dG hv;unfold wpList;rw [if_neg (by simp [Region.wanted,hg,hy])];rw [hd];exact h _ (ha.put hN undef)
theorem JR.Qv{o oj:Oper}{d j t:Nat}{want:Bool}{listed':Array Bool}(i:Nat)(hi:ops[i]? = some o)(hs:Region.noSelect ops=true)(hf:Region.free .any ops listed i=true)(hr:(Region.ready .any ops listed).contains i=true)(hil:vU late i=true)(hq : ∀ c a w,Q (.panic c) (a.put o.dst undef) w->Q (.panic c) a w)(hd:o.dst=some d)(hN:Nat.ble (d+1) N=true)(hg:o.guard=some (j,want))(hj:ops[j]? = some oj)(hdj:oj.dst=some t)(dG:Nat.ble (t+1) N=true)(hv:bT T t=some undef)(hS:dw late listed->S w)(hl:listed.setIfInBounds i true=listed')(h:JR P ops Q late S fuel listed' N ((d,undef)::T) w):JR P ops Q late S (fuel+1) listed N T w:=by
 subst hl;intro a ha
 have sW : ∀ s∈late,s≠i:=fun s hs e=>by
  have:=apC.1 hil s hs;rw [e] at this;simp at this
 have hy:=Ui ha hj hdj dG hv;refine rE (S':=fun _=>True) hi (Region.noSelect_spec hs) hq sW (.inl fun _=>trivial) fuel listed a w (Region.free_spec hi hf) (by simpa using hr) (.inr ⟨by simp [Region.wanted,hg,hy],rfl⟩) trivial hS (.inl fun _=>trivial) ?_;have:=h _ (ha.put hN undef);rw [hd];exact this
theorem df.pass{o oj:Oper}{d i j t:Nat}{want b:Bool}{listed':Array Bool}{rs:List Nat}(hi:ops[i]? = some o)(hd:o.dst=some d)(hN:Nat.ble (d+1) N=true)(hg:o.guard=some (j,want))(hj:ops[j]? = some oj)(hdj:oj.dst=some t)(dG:Nat.ble (t+1) N=true)(hv:bT T t=some (.bool b))(hb:(b==want)=false)(hl':listed.setIfInBounds i true=listed')(h:(dw late listed'->S w)/\JR P ops Q late S fuel listed' N ((d,undef)::T) w)(hrest:df P ops Q late S fuel listed N T w rs):df P ops Q late S fuel listed N T w (i::rs):=by
 subst hl';intro k hk a ha;rcases List.mem_cons.1 hk with rfl | hk
 ·unfold wpOp
  simp only [hi];have hy:=rG ha hj hdj dG hv;rw [if_neg (show ¬ Region.wanted _ _=true by simp [Region.wanted,hg,hy];cases b <;> cases want <;> simp_all)];rw [hd];exact ⟨h.1,h.2 _ (ha.put hN undef)⟩
 ·exact hrest k hk a ha
theorem JC.uq(n:Nat){c:Code}(h:JC P c (Exit.then (Code.rounds P c Q n) Q) N T w):JC P (.loop c) Q N T w:=fun a ha=>wp_loop_rounds (n+1) (h a ha)
theorem JL.again(n:Nat){c:Code}(hT : ∀ t v,bT T' t=some v->bT T t=some v)(h:JC P c (Exit.then (Code.rounds P c Q n) Q) N T' w):JL P ops (Exit.then (Code.rounds P c Q (n+1)) Q) [] N T w:=fun a ha=>h a (ha.sub hT)
theorem JR.again(n:Nat){c:Code}(hr:Region.ready .any ops listed=[])(hT : ∀ t v,bT T' t=some v->bT T t=some v)(h:JC P c (Exit.then (Code.rounds P c Q n) Q) N T' w):JR P ops (Exit.then (Code.rounds P c Q (n+1)) Q) late S fuel listed N T w:=JR.done hr fun a ha=>h a (ha.sub hT)
end
section
variable {P:Program} {ops:Array Oper} {Q:Exit->Act->World->Prop} {late:List Nat} {S:World->Prop} {N d fuel i:Nat} {T:List (Nat×Value)} {W0 w:World} {U:List Box} {Ps:List (World->Prop)} {listed listed':Array Bool}
theorem df.load{t et:TypeId}{x:Operand}{g off n:Nat}{vs:List Value}{ty:TypeId}{pos:String}{bD:Array Edge}{rs:List Nat}(v:Value)(HS:St W0 U Ps w)(k:Nat)(hi:ops[i]? = some ⟨some d,.load t x,ty,pos,bD,none⟩)(hN:Nat.ble (d+1) N=true)(hx:ev T x=some (.pointer (some ⟨g,off,none⟩)))(hk:U[k]? = some ⟨g,et,vs⟩)(hg : ∀ w,(isAgg t).run P w = .ok true w)(hs : ∀ w,(Go.sizeOf t).run P w = .ok n w)(hfit:Nat.ble (off+n) vs.length=true)(hv:Value.agg ((vs.drop off).take n).toArray=v)(hl':listed.setIfInBounds i true=listed')(h:(dw late listed'->S w)/\JR P ops Q late S fuel listed' N ((d,v)::T) w)(hrest:df P ops Q late S fuel listed N T w rs):df P ops Q late S fuel listed N T w (i::rs):=by
 subst hl' hv;intro j hj a ha;rcases List.mem_cons.1 hj with rfl | hj
 ·unfold wpOp
  simp only [hi];rw [if_pos (show Region.wanted _ _=true from rfl)];refine .inl ?_;unfold Oper.wp;rw [xE (ha.ev hx) hg hs (HS.box _ (aoQ hk)) (by simpa using hfit)];exact ⟨h.1,h.2 _ (ha.put hN _)⟩
 ·exact hrest j hj a ha
theorem df.fJ{t et:TypeId}{x:Operand}{g off:Nat}{vs:List Value}{ty:TypeId}{pos:String}{bD:Array Edge}{rs:List Nat}(v:Value)(HS:St W0 U Ps w)(k:Nat)(hi:ops[i]? = some ⟨some d,.load t x,ty,pos,bD,none⟩)(hN:Nat.ble (d+1) N=true)(hx:ev T x=some (.pointer (some ⟨g,off,none⟩)))(hk:U[k]? = some ⟨g,et,vs⟩)(hg : ∀ w,(isAgg t).run P w = .ok false w)(hv:vs[off]? = some v)(hl':listed.setIfInBounds i true=listed')(h:(dw late listed'->S w)/\JR P ops Q late S fuel listed' N ((d,v)::T) w)(hrest:df P ops Q late S fuel listed N T w rs):df P ops Q late S fuel listed N T w (i::rs):=by
 subst hl';intro j hj a ha;rcases List.mem_cons.1 hj with rfl | hj
 ·unfold wpOp
  simp only [hi];rw [if_pos (show Region.wanted _ _=true from rfl)];refine .inl ?_;unfold Oper.wp;rw [kD (ha.ev hx) hg (HS.box _ (aoQ hk)) (by simpa using hv)];exact ⟨h.1,h.2 _ (ha.put hN _)⟩
 ·exact hrest j hj a ha
theorem df.PK{t et:TypeId}{x:Operand}{g off n:Nat}{vs:List Value}{ty:TypeId}{pos:String}{bD:Array Edge}{rs:List Nat}{jg:Nat}{want:Bool}{oj:Oper}{tg:Nat}(v:Value)(HS:St W0 U Ps w)(k:Nat)(hi:ops[i]? = some ⟨some d,.load t x,ty,pos,bD,some (jg,want)⟩)(hjg:ops[jg]? = some oj)(hdj:oj.dst=some tg)(dG:Nat.ble (tg+1) N=true)(lY:bT T tg=some (.bool want))(hN:Nat.ble (d+1) N=true)(hx:ev T x=some (.pointer (some ⟨g,off,none⟩)))(hk:U[k]? = some ⟨g,et,vs⟩)(hg : ∀ w,(isAgg t).run P w = .ok true w)(hs : ∀ w,(Go.sizeOf t).run P w = .ok n w)(hfit:Nat.ble (off+n) vs.length=true)(hv:Value.agg ((vs.drop off).take n).toArray=v)(hl':listed.setIfInBounds i true=listed')(h:(dw late listed'->S w)/\JR P ops Q late S fuel listed' N ((d,v)::T) w)(hrest:df P ops Q late S fuel listed N T w rs):df P ops Q late S fuel listed N T w (i::rs):=by
 subst hl' hv;intro j hj a ha;rcases List.mem_cons.1 hj with rfl | hj
 ·unfold wpOp
  simp only [hi];rw [if_pos (show Region.wanted _ _=true by simp [Region.wanted,rG ha hjg hdj dG lY])];refine .inl ?_;unfold Oper.wp;rw [xE (ha.ev hx) hg hs (HS.box _ (aoQ hk)) (by simpa using hfit)];exact ⟨h.1,h.2 _ (ha.put hN _)⟩
 ·exact hrest j hj a ha
theorem df.PI{t et:TypeId}{x:Operand}{g off:Nat}{vs:List Value}{ty:TypeId}{pos:String}{bD:Array Edge}{rs:List Nat}{jg:Nat}{want:Bool}{oj:Oper}{tg:Nat}(v:Value)(HS:St W0 U Ps w)(k:Nat)(hi:ops[i]? = some ⟨some d,.load t x,ty,pos,bD,some (jg,want)⟩)(hjg:ops[jg]? = some oj)(hdj:oj.dst=some tg)(dG:Nat.ble (tg+1) N=true)(lY:bT T tg=some (.bool want))(hN:Nat.ble (d+1) N=true)(hx:ev T x=some (.pointer (some ⟨g,off,none⟩)))(hk:U[k]? = some ⟨g,et,vs⟩)(hg : ∀ w,(isAgg t).run P w = .ok false w)(hv:vs[off]? = some v)(hl':listed.setIfInBounds i true=listed')(h:(dw late listed'->S w)/\JR P ops Q late S fuel listed' N ((d,v)::T) w)(hrest:df P ops Q late S fuel listed N T w rs):df P ops Q late S fuel listed N T w (i::rs):=by
 subst hl';intro j hj a ha;rcases List.mem_cons.1 hj with rfl | hj
 ·unfold wpOp
  simp only [hi];rw [if_pos (show Region.wanted _ _=true by simp [Region.wanted,rG ha hjg hdj dG lY])];refine .inl ?_;unfold Oper.wp;rw [kD (ha.ev hx) hg (HS.box _ (aoQ hk)) (by simpa using hv)];exact ⟨h.1,h.2 _ (ha.put hN _)⟩
 ·exact hrest j hj a ha
theorem df.buildSlice{t e:TypeId}{len size:Nat}{l:List (Nat×Operand)}{ps:List (Nat×Value)}{z:Value}{vs:List Value}{ty:TypeId}{pos:String}{bD:Array Edge}{rs:List Nat}(HS:St W0 U Ps w)(hi:ops[i]? = some ⟨some d,.buildSlice t len l.toArray,ty,pos,bD,none⟩)(hN:Nat.ble (d+1) N=true)(hl : ∀ a,Kn a N T->l.map (fun p=>(p.1,a.eval p.2))=ps)(hu : ∀ w,(underlying t).run P w = .ok (.slice e) w)(hs : ∀ w,(Go.sizeOf e).run P w = .ok size w)(hz : ∀ w,(zeroValue e).run P w = .ok z w)(hb:Nat.ble (len*size) (2^24)=true)(h0:(len*size==0)=false)(hf:Instr.fill (fun i=>some (i*size,size)) ((Array.range (len*size)).map (z.cells[· % z.cells.size]!)) ps=some vs.toArray)(lX:vs.all kN=true)(hl':listed.setIfInBounds i true=listed')(h : ∀ g w',St W0 (⟨g,e,vs⟩::U) Ps w'->(dw late listed'->S w')/\JR P ops Q late S fuel listed' N ((d,.slice (some ⟨g,0,none⟩) len len)::T) w')(hrest:df P ops Q late S fuel listed N T w rs):df P ops Q late S fuel listed N T w (i::rs):=by
 subst hl';have h2:=HS.alloc e vs lX;intro j hj a ha;rcases List.mem_cons.1 hj with rfl | hj
 ·unfold wpOp
  simp only [hi];rw [if_pos (show Region.wanted _ _=true from rfl)];refine .inl ?_;unfold Oper.wp;rw [run_buildSlice (hl a ha) hu hs hz hb h0 hf];have:=h _ _ h2;exact ⟨this.1,this.2 _ (ha.put hN _)⟩
 ·exact hrest j hj a ha
end
section
variable {P:Program} {ops:Array Oper} {Q:Exit->Act->World->Prop} {N:Nat} {T T':List (Nat×Value)} {w:World}
theorem JL.sub{l:List Oper}(hT : ∀ t v,bT T' t=some v->bT T t=some v)(h:JL P ops Q l N T' w):JL P ops Q l N T w:=fun a ha=>h a (ha.sub hT)
end
def oK(T:List (Nat×Value)):List (Nat×Value)->Prop
 | []=>True
 | (k,u)::r=>bT T k=some u/\oK T r
theorem oK.out{T:List (Nat×Value)} : ∀ {T':List (Nat×Value)},oK T T' -> ∀ t v,bT T' t=some v->bT T t=some v
 | [],_=>ae2
 | (_,_)::_,h=>ae0 h.1 (oK.out h.2)
section
variable {P:Program} {ops:Array Oper} {Q:Exit->Act->World->Prop} {late:List Nat} {S:World->Prop} {N d fuel:Nat} {T:List (Nat×Value)} {w:World} {U:List Box} {listed:Array Bool} {o:Oper} {v:Value}
def lZ(ops:Array Oper)(late:List Nat)(listed:Array Bool)(i:Nat):Bool:=Region.noSelect ops&&(Region.free .any ops listed i&&((Region.ready .any ops listed).contains i&&vU late i))
def qR(ops:Array Oper)(late:List Nat)(listed:Array Bool)(i:Nat):Bool:=Region.noSelect ops&&(Region.free .any ops listed i&&((Region.ready .any ops listed).contains i&&(waits ops late i&&late.all fun s => !listed.getD s false)))
theorem Ik{i:Nat}(h:lZ ops late listed i=true):Region.noSelect ops=true/\Region.free .any ops listed i=true/\(Region.ready .any ops listed).contains i=true/\vU late i=true:=by
 unfold lZ at h;grind
theorem Dk{i:Nat}(h:qR ops late listed i=true):Region.noSelect ops=true/\Region.free .any ops listed i=true/\(Region.ready .any ops listed).contains i=true/\waits ops late i=true/\dw late listed:=by
 unfold qR at h;simp only [Bool.and_eq_true] at h;refine ⟨h.1,h.2.1,h.2.2.1,h.2.2.2.1,fun s hs => ?_⟩;grind
theorem J1(i:Nat)(hr:Region.ready .any ops listed=[i])(h:df P ops Q late S fuel listed N T w [i]):JR P ops Q late S (fuel+1) listed N T w:=JR.any [i] hr rfl h
theorem fM{s:Nat}(hs:late.contains s=true)(h:listed.getD s false=true){p:Prop} : dw late listed->p:=fun hn=>absurd (hn s (by simpa using hs)) (by rw [h];decide)
theorem Jv{op:Op}{ty:TypeId}{pos:String}{bD:Array Edge}(v:Value)(i:Nat)(hc:lZ ops late listed i=true)(hi:ops[i]? = some ⟨some d,op,ty,pos,bD,none⟩)(hN:Nat.ble (d+1) N=true)(hq : ∀ c a w,Q (.panic c) (a.put (some d) v) w->Q (.panic c) a w)(hS:dw late listed->S w)(hrun : ∀ a,Kn a N T -> ∀ w,(execOp a.eval ⟨some d,op,ty,pos,bD,none⟩).run P w = .ok (.value v) w)(h:JR P ops Q late S fuel (listed.setIfInBounds i true) N ((d,v)::T) w):JR P ops Q late S (fuel+1) listed N T w :=
 have ⟨a,b,c,e⟩:=Ik hc
 JR.val i hi a b c e hq rfl hN rfl hS hrun rfl h
theorem VR{op:Op}{ty:TypeId}{pos:String}{bD:Array Edge}{j:Nat}{want:Bool}{oj:Oper}{t:Nat}(v:Value)(i:Nat)(hc:lZ ops late listed i=true)(hi:ops[i]? = some ⟨some d,op,ty,pos,bD,some (j,want)⟩)(hN:Nat.ble (d+1) N=true)(hq : ∀ c a w,Q (.panic c) (a.put (some d) v) w->Q (.panic c) a w)(hj:ops[j]? = some oj)(hdj:oj.dst=some t)(dG:Nat.ble (t+1) N=true)(hv:bT T t=some (.bool want))(hS:dw late listed->S w)(hrun : ∀ a,Kn a N T -> ∀ w,(execOp a.eval ⟨some d,op,ty,pos,bD,some (j,want)⟩).run P w = .ok (.value v) w)(h:JR P ops Q late S fuel (listed.setIfInBounds i true) N ((d,v)::T) w):JR P ops Q late S (fuel+1) listed N T w :=
 have ⟨a,b,c,e⟩:=Ik hc
 JR.AY i hi a b c e hq rfl hN rfl hj hdj dG hv hS hrun rfl h
theorem Jl{t et:TypeId}{x:Operand}{g off n:Nat}{vs:List Value}{ty:TypeId}{pos:String}{bD:Array Edge}(v:Value)(i j:Nat)(hc:qR ops late listed i=true)(hi:ops[i]? = some ⟨some d,.load t x,ty,pos,bD,none⟩)(hq : ∀ c a w,Q (.panic c) (a.put (some d) v) w->Q (.panic c) a w)(hN:Nat.ble (d+1) N=true)(hS:dw late listed->Boxed U w)(hx:ev T x=some (.pointer (some ⟨g,off,none⟩)))(hj:U[j]? = some ⟨g,et,vs⟩)(hg : ∀ w,(isAgg t).run P w = .ok true w)(hsz : ∀ w,(Go.sizeOf t).run P w = .ok n w)(hfit:Nat.ble (off+n) vs.length=true)(hv:Value.agg ((vs.drop off).take n).toArray=v)(h:JR P ops Q late (Boxed U) fuel (listed.setIfInBounds i true) N ((d,v)::T) w):JR P ops Q late (Boxed U) (fuel+1) listed N T w :=
 have ⟨a,b,c,e,f⟩:=Dk hc
 JR.load v i j hi a b c e hq hN hS f hx hj hg hsz hfit hv rfl h
theorem lJ{t et:TypeId}{x:Operand}{g off n:Nat}{vs:List Value}{ty:TypeId}{pos:String}{bD:Array Edge}{jg:Nat}{want:Bool}{oj:Oper}{tg:Nat}(v:Value)(i j:Nat)(hc:qR ops late listed i=true)(hi:ops[i]? = some ⟨some d,.load t x,ty,pos,bD,some (jg,want)⟩)(hq : ∀ c a w,Q (.panic c) (a.put (some d) v) w->Q (.panic c) a w)(hN:Nat.ble (d+1) N=true)(hjg:ops[jg]? = some oj)(hdj:oj.dst=some tg)(dG:Nat.ble (tg+1) N=true)(lY:bT T tg=some (.bool want))(hS:dw late listed->Boxed U w)(hx:ev T x=some (.pointer (some ⟨g,off,none⟩)))(hj:U[j]? = some ⟨g,et,vs⟩)(hg : ∀ w,(isAgg t).run P w = .ok true w)(hsz : ∀ w,(Go.sizeOf t).run P w = .ok n w)(hfit:Nat.ble (off+n) vs.length=true)(hv:Value.agg ((vs.drop off).take n).toArray=v)(h:JR P ops Q late (Boxed U) fuel (listed.setIfInBounds i true) N ((d,v)::T) w):JR P ops Q late (Boxed U) (fuel+1) listed N T w :=
 have ⟨a,b,c,e,f⟩:=Dk hc
 JR.PK v i j hi a b c e hq hN hjg hdj dG lY hS f hx hj hg hsz hfit hv rfl h
theorem VQ{t et:TypeId}{x:Operand}{g off:Nat}{vs:List Value}{ty:TypeId}{pos:String}{bD:Array Edge}{jg:Nat}{want:Bool}{oj:Oper}{tg:Nat}(v:Value)(i j:Nat)(hc:qR ops late listed i=true)(hi:ops[i]? = some ⟨some d,.load t x,ty,pos,bD,some (jg,want)⟩)(hq : ∀ c a w,Q (.panic c) (a.put (some d) v) w->Q (.panic c) a w)(hN:Nat.ble (d+1) N=true)(hjg:ops[jg]? = some oj)(hdj:oj.dst=some tg)(dG:Nat.ble (tg+1) N=true)(lY:bT T tg=some (.bool want))(hS:dw late listed->Boxed U w)(hx:ev T x=some (.pointer (some ⟨g,off,none⟩)))(hj:U[j]? = some ⟨g,et,vs⟩)(hg : ∀ w,(isAgg t).run P w = .ok false w)(hv:vs[off]? = some v)(h:JR P ops Q late (Boxed U) fuel (listed.setIfInBounds i true) N ((d,v)::T) w):JR P ops Q late (Boxed U) (fuel+1) listed N T w :=
 have ⟨a,b,c,e,f⟩:=Dk hc
 JR.PI v i j hi a b c e hq hN hjg hdj dG lY hS f hx hj hg hv rfl h
end
section
variable {P:Program} {ops:Array Oper} {Q:Exit->Act->World->Prop} {late:List Nat} {S:World->Prop} {N d fuel:Nat} {T:List (Nat×Value)} {W0 w w':World} {U:List Box} {Ps:List (World->Prop)} {listed:Array Bool} {o:Oper} {rest:List Oper}
theorem St.b0(HS:St W0 U Ps w):dw late listed->Boxed U w:=fun _ b hb=>HS.box b hb
theorem St.b1{x:Box}(HS:St W0 (x::U) Ps w):dw late listed->Boxed U w:=fun _ b hb=>HS.box b (.tail _ hb)
theorem St.b2{x y:Box}(HS:St W0 (x::y::U) Ps w):dw late listed->Boxed U w:=fun _ b hb=>HS.box b (.tail _ (.tail _ hb))
theorem St.b3{x y z:Box}(HS:St W0 (x::y::z::U) Ps w):dw late listed->Boxed U w:=fun _ b hb=>HS.box b (.tail _ (.tail _ (.tail _ hb)))
theorem JR.mt{ι:Type}{T':ι->List (Nat×Value)}{G:ι->World->Prop}(i:ι)(hG:G i w)(hr:Region.ready .any ops listed=[]:=by kernel_rfl)(hT:oK T (T' i):=by (repeat refine ⟨rfl,?_⟩);trivial):JR P ops (Exit.then (fun a w => ∃ i,Kn a N (T' i)/\G i w) Q) late S fuel listed N T w:=JR.meet hr i hT.out hG
theorem JL.mt{ι:Type}{T':ι->List (Nat×Value)}{G:ι->World->Prop}(i:ι)(hG:G i w)(hT:oK T (T' i):=by (repeat refine ⟨rfl,?_⟩);trivial):JL P ops (Exit.then (fun a w => ∃ i,Kn a N (T' i)/\G i w) Q) [] N T w:=JL.meet i hT.out hG
theorem JC.mt{ι:Type}{T':ι->List (Nat×Value)}{G:ι->World->Prop}(i:ι)(hG:G i w)(hT:oK T (T' i):=by (repeat refine ⟨rfl,?_⟩);trivial):JC P .skip (Exit.then (fun a w => ∃ i,Kn a N (T' i)/\G i w) Q) N T w:=JC.aa7 i hT.out hG
theorem Dv{op:Op}{ty:TypeId}{pos:String}{bD:Array Edge}(v:Value)(i:Nat)(hi:ops[i]? = some ⟨some d,op,ty,pos,bD,none⟩)(hS:dw late listed->S w)(hrun : ∀ a,Kn a N T -> ∀ w,(execOp a.eval ⟨some d,op,ty,pos,bD,none⟩).run P w = .ok (.value v) w)(h:JR P ops Q late S fuel (listed.setIfInBounds i true) N ((d,v)::T) w)(hc:lZ ops late listed i=true:=by kernel_rfl)(hN:Nat.ble (d+1) N=true:=by rfl)(hq : ∀ c a w,Q (.panic c) (a.put (some d) v) w->Q (.panic c) a w:=by exact fun _ _ _ h=>h):JR P ops Q late S (fuel+1) listed N T w:=Jv v i hc hi hN hq hS hrun h
theorem Dg{op:Op}{ty:TypeId}{pos:String}{bD:Array Edge}{j:Nat}{want:Bool}{oj:Oper}{t:Nat}(v:Value)(i:Nat)(hi:ops[i]? = some ⟨some d,op,ty,pos,bD,some (j,want)⟩)(hS:dw late listed->S w)(hrun : ∀ a,Kn a N T -> ∀ w,(execOp a.eval ⟨some d,op,ty,pos,bD,some (j,want)⟩).run P w = .ok (.value v) w)(h:JR P ops Q late S fuel (listed.setIfInBounds i true) N ((d,v)::T) w)(hc:lZ ops late listed i=true:=by kernel_rfl)(hN:Nat.ble (d+1) N=true:=by rfl)(hq : ∀ c a w,Q (.panic c) (a.put (some d) v) w->Q (.panic c) a w:=by exact fun _ _ _ h=>h)(hj:ops[j]? = some oj:=by rfl)(hdj:oj.dst=some t:=by rfl)(dG:Nat.ble (t+1) N=true:=by rfl)(hv:bT T t=some (.bool want):=by rfl):JR P ops Q late S (fuel+1) listed N T w:=VR v i hc hi hN hq hj hdj dG hv hS hrun h
theorem Da{t et:TypeId}{x:Operand}{g off n:Nat}{vs:List Value}{ty:TypeId}{pos:String}{bD:Array Edge}(v:Value)(i j:Nat)(hi:ops[i]? = some ⟨some d,.load t x,ty,pos,bD,none⟩)(hS:dw late listed->Boxed U w)(hx:ev T x=some (.pointer (some ⟨g,off,none⟩)))(hj:U[j]? = some ⟨g,et,vs⟩)(hg : ∀ w,(isAgg t).run P w = .ok true w)(hsz : ∀ w,(Go.sizeOf t).run P w = .ok n w)(h:JR P ops Q late (Boxed U) fuel (listed.setIfInBounds i true) N ((d,v)::T) w)(hfit:Nat.ble (off+n) vs.length=true:=by rfl)(hv:Value.agg ((vs.drop off).take n).toArray=v:=by rfl)(hc:qR ops late listed i=true:=by kernel_rfl)(hN:Nat.ble (d+1) N=true:=by rfl)(hq : ∀ c a w,Q (.panic c) (a.put (some d) v) w->Q (.panic c) a w:=by exact fun _ _ _ h=>h):JR P ops Q late (Boxed U) (fuel+1) listed N T w:=Jl v i j hc hi hq hN hS hx hj hg hsz hfit hv h
theorem bU{i:Nat}{f:FuncId}{l:List Operand}{mM:Array TypeId}{vs:List Value}{R:Value->World->Prop}{ty:TypeId}{pos:String}{bD:Array Edge}(_i:Nat)(_e:_i=i)(hi:ops[i]? = some ⟨some d,.call ⟨.value (.func f),l.toArray,mM⟩,ty,pos,bD,none⟩)(hl:evs T l=some vs)(hc : ∀ args w,Sem.run P (callFunc f args) w = .ok (.enter f args) w)(hcall:bC P f vs w R)(h : ∀ v w',R v w'->(dw late (listed.setIfInBounds i true)->S w')/\JR P ops Q late S fuel (listed.setIfInBounds i true) N ((d,v)::T) w')(hr:Region.ready .any ops listed=[i]:=by kernel_rfl)(hN:Nat.ble (d+1) N=true:=by rfl):JR P ops Q late S (fuel+1) listed N T w:=J1 i hr (df.call hi hN hl hc hcall rfl h df.nil)
theorem gm{t et:TypeId}{x y:Operand}{g off n:Nat}{v:Value}{vs:List Value}{ty:TypeId}{pos:String}{bD:Array Edge}(i:Nat)(vs':List Value)(HS:St W0 U Ps w)(k:Nat)(hi:ops[i]? = some ⟨none,.store t x y,ty,pos,bD,none⟩)(hx:ev T x=some (.pointer (some ⟨g,off,none⟩)))(hy:ev T y=some v)(hk:U[k]? = some ⟨g,et,vs⟩)(hs : ∀ w,(Go.sizeOf t).run P w = .ok n w)(h : ∀ w',St W0 (U.set k ⟨g,et,vs'⟩) Ps w'->(dw late (listed.setIfInBounds i true)->S w')/\JR P ops Q late S fuel (listed.setIfInBounds i true) N T w')(hr:Region.ready .any ops listed=[i]:=by kernel_rfl)(hn:Nat.beq v.cells.size n=true:=by rfl)(hfit:Nat.ble (off+n) vs.length=true:=by rfl)(h1:v.cells.toList.all Value.oneCell'=true:=by rfl)(hw:wr vs off v.cells.toList=vs':=by rfl)(lX:vs'.all kN=true:=by rfl):JR P ops Q late S (fuel+1) listed N T w :=
 J1 i hr (df.store HS hi hx hy k hk hs hn hfit h1 hw lX rfl h df.nil)
end
end bI
namespace bI
open Go Go.RowKit
section
variable {α:Type} {R:α->List Value->World->Prop} {sz:Nat} {w w' W0:World} {vs:List Value} {xs:List α}
def EL(R:α->List Value->World->Prop)(sz:Nat)(vs:List Value)(xs:List α)(w:World):Prop :=
 vs.length=xs.length*sz /\ ∀ i x,xs[i]? = some x->R x ((vs.drop (i*sz)).take sz) w
def rowAt(A:Option Addr)(vs:List Value)(w:World):Prop:=vs=[] \/ ∃ g off c t fz,A=some ⟨g,off,none⟩/\w.heap[g]? = some (.cells c t fz)/\(c.toList.drop off).take vs.length=vs
def FL(R:α->List Value->World->Prop)(sz:Nat)(v:Value)(vs:List Value)(xs:List α)(w:World):Prop :=
 ∃ (A:Option Addr) (n c:Nat),v = .slice A n c/\xs.length=n/\n<=c/\rowAt A vs w/\EL R sz vs xs w
theorem EL.nil(R:α->List Value->World->Prop)(sz:Nat)(w:World):EL R sz [] [] w:=⟨by simp,fun i x h=>by cases h⟩
theorem EL.stable(h : ∀ x cs,Stable (R x cs)):Stable (EL R sz vs xs):=fun gs w w' ha hp=>⟨hp.1,fun i x hx=>h x _ gs w w' ha (hp.2 i x hx)⟩
variable {A:Option Addr} {n c:Nat}
theorem FL.parts(h:FL R sz (.slice A n c) vs xs w):xs.length=n/\n<=c/\rowAt A vs w/\EL R sz vs xs w:=by
 obtain ⟨A',n',c',h1,h2⟩:=h;grind
theorem FL.len(h:FL R sz (.slice A n c) vs xs w):xs.length=n:=h.parts.1
theorem FL.TT(h:FL R sz (.slice A n c) vs xs w):vs.length=n*sz:=by rw [h.parts.2.2.2.1,h.len]
theorem FL.el(h:FL R sz (.slice A n c) vs xs w):EL R sz vs xs w:=h.parts.2.2.2
theorem FL.empty(h:FL R sz (.slice A n c) vs xs w)(hn:n=0):xs=[]:=aql.1 (h.len.trans hn)
theorem FL.nil(R:α->List Value->World->Prop)(sz:Nat)(w:World)(A:Option Addr)(c:Nat):FL R sz (.slice A 0 c) [] [] w:=⟨A,0,c,rfl,rfl,aoI _,.inl rfl,EL.nil R sz w⟩
theorem ae7{l:List Value}{off a n m:Nat}{vs:List Value}(h:(l.drop off).take n=vs)(ham:a+m<=n):(l.drop (off+a)).take m=(vs.drop a).take m:=by
 subst h;rw [List.drop_take,ap',List.drop_drop,apk af]
theorem FL.at_(h:FL R sz (.slice A n c) vs xs w){j:Nat}{x:α}(hx:xs[j]? = some x):R x ((vs.drop (j*sz)).take sz) w:=h.el.2 j x hx
theorem EL.append{vs':List Value}{xs':List α}(h:EL R sz vs xs w)(h':EL R sz vs' xs' w):EL R sz (vs++vs') (xs++xs') w:=by
 refine ⟨by rw [apf,apf,h.1,h'.1,aoW],fun i x hx => ?_⟩
 by_cases hi:i<xs.length
 ·rw [List.getElem?_append_left hi] at hx
  have h1:=h.2 i x hx;have hm:(i+1)*sz<=xs.length*sz:=aoP _ hi;rw [ap6] at hm;rw [List.drop_append_of_le_length (by rw [h.1];omega),List.take_append_of_le_length (by rw [apu,h.1];omega)];exact h1
 ·rw [List.getElem?_append_right af] at hx
  have h1:=h'.2 _ x hx
  have e:i*sz=vs.length+(i-xs.length)*sz:=by
   rw [h.1,<- aoW];congr 1;omega
  simp_all
theorem EL.one{x:α}{cs:List Value}(h:R x cs w)(hl:cs.length=sz):EL R sz cs [x] w:=by
 subst hl;refine ⟨by simp,fun i y hy => ?_⟩
 cases i with
 | zero=>simp at hy;subst hy;simpa using h
 | succ i=>simp at hy
theorem EL.sub(h:EL R sz vs xs w)(lo k:Nat)(hk:lo+k<=xs.length):EL R sz ((vs.drop (lo*sz)).take (k*sz)) ((xs.drop lo).take k) w:=by
 have hm:(lo+k)*sz<=xs.length*sz:=aoP _ hk;rw [aoW] at hm;refine ⟨by simp [h.1];rw [apk af,apk af],fun i x hx => ?_⟩;rw [apZ] at hx
 split at hx
 ·rename_i hik
  rw [aqj] at hx;have h1:=h.2 _ x hx;have hm2:(i+1)*sz<=k*sz:=aoP _ hik;rw [ap6] at hm2;rw [List.drop_take,ap',List.drop_drop,apk af,<- aoW];exact h1
 ·cases hx
theorem Ew : ∀ (l:List Value) (vs:List Value) (o:Nat),(wr vs o l).length=vs.length
 | [],_,_=>rfl
 | v::l,vs,o=>by unfold wr;rw [Ew l];simp
theorem Bc : ∀ (l:List Value) (vs:List Value) (o k:Nat),o+l.length<=vs.length->(wr vs o l)[k]? = if o<=k/\k<o+l.length then l[k-o]? else vs[k]?
 | [],vs,o,k,_=>by unfold wr;rw [if_neg (by simp)]
 | v::l,vs,o,k,h=>by
  simp only [ao5] at h;unfold wr;rw [Bc l _ (o+1) k (by simp;omega)]
  by_cases e:k=o
  ·subst e
   rw [if_neg af,if_pos (by simp),aqs af];simp
  ·by_cases e2:o+1<=k/\k<o+1+l.length
   ·rw [if_pos e2,if_pos (by simp;omega),show k-o=(k-(o+1))+1 from af,List.getElem?_cons_succ]
   ·rw [if_neg e2,if_neg (by simp;omega),aqt (Ne.symm e)]
theorem EL.set(h:EL R sz vs xs w){j:Nat}{x:α}{cs:List Value}(hj:j<xs.length)(hx:R x cs w)(hl:cs.length=sz):EL R sz (wr vs (j*sz) cs) (xs.set j x) w:=by
 have hm:(j+1)*sz<=xs.length*sz:=aoP _ hj;rw [ap6] at hm;have hfit:j*sz+cs.length<=vs.length:=by rw [h.1,hl];exact hm
 refine ⟨by rw [Ew,h.1,aoO],fun i y hy => ?_⟩
 have key : ∀ cs':List Value,cs'.length=sz->(∀ k,k<sz->(wr vs (j*sz) cs)[i*sz+k]? = cs'[k]?)->i<xs.length->((wr vs (j*sz) cs).drop (i*sz)).take sz=cs':=fun cs' hl' hk hi=>by
  apply List.ext_getElem?;grind
 have hi:i<xs.length:=by
  grind
 by_cases e:j=i
 ·subst e
  rw [aqs hj] at hy;obtain rfl:=Option.some.inj hy;rw [key cs hl (fun k hk=>by rw [Bc _ _ _ _ hfit,if_pos af];congr 1;omega) hi];exact hx
 ·rw [aqt e] at hy
  have h1:=h.2 i y hy;have hm2:(i+1)*sz<=xs.length*sz:=aoP _ hi;rw [ap6] at hm2;rw [key ((vs.drop (i*sz)).take sz) (by simp [h.1];omega) (fun k hk => ?_) hi]
  ·exact h1
  ·rw [Bc _ _ _ _ hfit,if_neg,apZ,if_pos hk,aqj]
   rcases Nat.lt_or_gt_of_ne e with hlt | hlt
   ·have:(j+1)*sz<=i*sz:=aoP _ hlt
    grind
   ·have:(i+1)*sz<=j*sz:=aoP _ hlt
    grind
theorem EL.map{β:Type}{S:β->List Value->World->Prop}{f:α->β}(h:EL R sz vs xs w)(hf : ∀ x cs,x∈xs->R x cs w->S (f x) cs w):EL S sz vs (xs.map f) w:=by
 refine ⟨by rw [h.1,List.length_map],fun i y hy => ?_⟩;rw [List.getElem?_map] at hy;obtain ⟨x,hx,rfl⟩:=Option.map_eq_some_iff.1 hy;exact hf x _ (aoQ hx) (h.2 i x hx)
theorem FL.map{β:Type}{S:β->List Value->World->Prop}{f:α->β}{v:Value}(h:FL R sz v vs xs w)(hf : ∀ x cs,x∈xs->R x cs w->S (f x) cs w):FL S sz v vs (xs.map f) w:=by
 obtain ⟨A,n,c,h1,h2,h3,h4,h5⟩:=h;exact ⟨A,n,c,h1,by rw [List.length_map,h2],h3,h4,h5.map hf⟩
theorem FL.sub(h:FL R sz (.slice A n c) vs xs w)(lo k c':Nat)(hk:lo+k<=n)(hc:k<=c'){A':Option Addr}(hA:k=0\/A'=A.map (·.add (lo*sz))):FL R sz (.slice A' k c') ((vs.drop (lo*sz)).take (k*sz)) ((xs.drop lo).take k) w:=by
 have hl:=h.TT;obtain ⟨h1,h2,h3,h4⟩:=h.parts;have hm:(lo+k)*sz<=n*sz:=aoP _ hk;rw [aoW] at hm;refine ⟨A',k,c',rfl,by simp;omega,hc,?_,h4.sub lo k af⟩;rcases hA with rfl | rfl
 ·exact .inl (by simp)
 ·rcases h3 with rfl | ⟨g,off,c2,t,fz,rfl,e1,e2⟩
  ·exact .inl (by simp)
  ·refine .inr ⟨g,off+lo*sz,c2,t,fz,by simp [Addr.add],e1,?_⟩
   rw [apc,apu,hl,apk af];exact ae7 (n:=vs.length) e2 af
end
end bI
namespace bI
open Go Go.RowKit
def rowB(A:Option Addr)(e:TypeId)(cur:List Value):List Box:=match A with
 | some a=>[⟨a.block,e,cur⟩]
 | none=>[]
def Row(sz:Nat)(A:Option Addr)(n c:Nat)(cur vals:List Value):Prop :=
 vals.length=n*sz/\n<=c/\((A=none/\c=0) \/ ∃ g,A=some ⟨g,0,none⟩/\cur.length=c*sz/\cur.take (n*sz)=vals)
theorem Row.nil(sz:Nat):Row sz none 0 0 [] []:=⟨by simp,aoG _,.inl ⟨rfl,rfl⟩⟩
theorem Row.len{sz n c:Nat}{A:Option Addr}{cur vals:List Value}(h:Row sz A n c cur vals):vals.length=n*sz:=h.1
section
variable {P:Program} {ops:Array Oper} {Q:Exit->Act->World->Prop} {N:Nat} {T:List (Nat×Value)} {W0 w w':World} {U Ub:List Box} {Ps:List (World->Prop)}
variable {rest:List Oper} {d:Nat} {α:Type} {R:α->List Value->World->Prop}
theorem info_parts{e:TypeId}{z:Value}{size bytes:Nat}(h:(P.info? e).map (fun i=>(i.zero,i.size,i.bytes))=some (some z,size,bytes)) : ∃ i,P.info? e=some i/\i.zero=some z/\i.size=size/\i.bytes=bytes:=by
 simp_all
end
end bI
namespace bI
open Go Go.RowKit
section
variable {P:Program} {ops:Array Oper} {Q:Exit->Act->World->Prop} {late:List Nat} {S:World->Prop} {N:Nat} {T:List (Nat×Value)} {W0 w w':World} {U U':List Box} {Ps Ps':List (World->Prop)} {fuel d i:Nat} {listed:Array Bool} {rest:List Oper} {v:Value}
def uG(U:List Box)(Ps:List (World->Prop))(w:World):Prop:=Boxed U w /\ ∀ P∈Ps,P w
theorem uG.box(h:uG U Ps w)(j:Nat){b:Box}(hj:U[j]? = some b):w.heap[b.g]? = some (.cells b.vs.toArray b.t (0,0)):=h.1 b (aoQ hj)
theorem uG.at_(h:uG U Ps w)(j:Nat){F:World->Prop}(hj:Ps[j]? = some F):F w:=h.2 F (aoQ hj)
theorem St.bf(HS:St W0 U' Ps' w)(n m:Nat)(hU:U'.drop n=U)(hP:Ps'.drop m=Ps):dw late listed->uG U Ps w:=fun _=>by
 subst hU hP;exact ⟨fun b hb=>HS.box b (aph hb),fun P hp=>HS.get (aph hp)⟩
end
section
variable {sz n c j k:Nat} {A:Option Addr} {cur vals cs:List Value}
theorem Row.at_(h:Row sz A n c cur vals)(hj:j<n) : ∃ g,A=some ⟨g,0,none⟩/\cur.length=c*sz/\cur.take (n*sz)=vals:=by
 obtain ⟨h1,h2,h3⟩:=h;grind
theorem agY{m:Nat}(h:k+cs.length<=m)(hm:m<=cur.length):(wr cur k cs).take m=wr (cur.take m) k cs:=by
 apply List.ext_getElem?;intro i;rw [Bc _ _ _ _ (by rw [apc];omega),apZ]
 by_cases hi:i<m
 ·rw [if_pos hi,Bc _ _ _ _ af,apZ,if_pos hi]
 ·grind
theorem Row.set(h:Row sz A n c cur vals)(hj:j<n)(hl:cs.length=sz):Row sz A n c (wr cur (j*sz) cs) (wr vals (j*sz) cs):=by
 obtain ⟨g,rfl,h1,h2⟩:=h.at_ hj;have hm:(j+1)*sz<=n*sz:=aoP _ hj;rw [ap6] at hm;have hc:n*sz<=c*sz:=aoP _ h.2.1;refine ⟨by rw [Ew];exact h.1,h.2.1,.inr ⟨g,rfl,by rw [Ew];exact h1,?_⟩⟩;rw [agY af af,h2]
end
section
variable {P:Program} {ops:Array Oper} {Q:Exit->Act->World->Prop} {late:List Nat} {S:World->Prop} {N:Nat} {T:List (Nat×Value)} {W0 w:World} {U Ub:List Box} {Ps:List (World->Prop)} {fuel d:Nat} {listed:Array Bool} {rest:List Oper} {v:Value} {α:Type} {R:α->List Value->World->Prop} {sz n c j:Nat} {A:Option Addr} {cur vals cs:List Value} {xs:List α} {x':α} {e:TypeId}
theorem Boxed.row(hb:Boxed (Ub++(rowB A e cur++U)) w) : ∀ b∈rowB A e cur,w.heap[b.g]? = some (.cells b.vs.toArray b.t (0,0)):=fun b h=>hb b (by simp [h])
end
section
variable {P:Program} {W0 w:World} {U:List Box} {Ps:List (World->Prop)} {α:Type} {R:α->List Value->World->Prop} {sz:Nat} {vs:List Value} {xs:List α}
theorem Src.box(HS:St W0 U Ps w){tx e':TypeId}{size n g:Nat}{t:TypeId}{news:List Value}(hk:P.underlying tx=some (.slice e'))(i:Nat)(hi:U[i]? = some ⟨g,t,news⟩)(hl:news.length=n*size)(h1:news.all Value.oneCell'=true)(c:Nat):Src P size tx (.slice (some ⟨g,0,none⟩) n c) n news w :=
 Src.ofSlice w hk ⟨g,0,none⟩ n c news hl (fun j u hj=>by
  rw [Addr.add_lit];unfold World.cell?;simp only [HS.box _ (aoQ hi)]
  simpa using hj) (fun u hu=>apC.1 h1 u hu)
theorem Src.list{A:Option Addr}{n c:Nat}(h:FL R sz (.slice A n c) vs xs w){tx e':TypeId}(hk:P.underlying tx=some (.slice e'))(h1:vs.all Value.oneCell'=true):Src P sz tx (.slice A n c) n vs w:=by
 have hl:=h.TT;obtain ⟨p1,p2,p3,p4⟩:=h.parts
 cases A with
 | none =>
  rcases p3 with rfl | ⟨g,off,c',t,fz,e,_⟩
  ·exact ⟨.inl ⟨e',hk⟩,fun _=>rfl,run_firstCells_none w sz n n c,run_firstCells_none w.drew sz n n c,hl,fun _ h=>by cases h⟩
  ·cases e
 | some a =>
  refine Src.ofSlice w hk a n c vs hl (fun j u hj => ?_) (fun u hu=>apC.1 h1 u hu);rcases p3 with rfl | ⟨g,off,c',t,fz,e,e1,e2⟩
  ·cases hj
  ·obtain rfl:=Option.some.inj e
   rw [Addr.add_lit];unfold World.cell?;grind
end
section
variable {W0 w:World} {U:List Box} {Ps:List (World->Prop)}
variable {α:Type} {R R':α->List Value->World->Prop} {sz:Nat} {vs:List Value} {xs ys:List α} {A:Option Addr} {n c:Nat}
theorem EL.to(h:EL R sz vs xs w)(hx:xs=ys)(hR : ∀ x cs,R x cs w->R' x cs w):EL R' sz vs ys w:=by
 subst hx;exact ⟨h.1,fun i x hi=>hR _ _ (h.2 i x hi)⟩
theorem FL.to{v:Value}(h:FL R sz v vs xs w)(hx:xs=ys)(hR : ∀ x cs,R x cs w->R' x cs w):FL R' sz v vs ys w:=by
 obtain ⟨A,n,c,h1,h2,h3,h4,h5⟩:=h;exact ⟨A,n,c,h1,hx ▸ h2,h3,h4,h5.to hx hR⟩
theorem St.sub{A':Option Addr}{l h:Nat}(HS:St W0 U Ps w)(p:Nat)(hp:Ps[p]? = some (FL R sz (.slice A n c) vs xs))(h1:l<=h)(h2:h<=n)(hA:A'=if c=l then A else A.map (·.add (l*sz))) :
  St W0 U (EL R sz ((vs.drop (l*sz)).take ((h-l)*sz)) ((xs.drop l).take (h-l))::FL R sz (.slice A' (h-l) (c-l)) ((vs.drop (l*sz)).take ((h-l)*sz)) ((xs.drop l).take (h-l))::Ps) w:=by
 have hc:=(HS.at_ p hp).parts.2.1
 have jb:=HS.iV p hp (fun _ hh=>hh.sub l (h-l) (c-l) af af (A':=A') (by
  by_cases e:c=l
  ·exact .inl af
  ·rw [if_neg e] at hA;exact .inr hA))
 exact jb.iV 0 rfl (fun _ hh=>hh.el)
end
end bI
namespace bI
open Go Go.RowKit
section
variable {P:Program} {ops:Array Oper} {Q:Exit->Act->World->Prop} {late:List Nat} {S:World->Prop} {N d i:Nat} {fuel:Nat} {T:List (Nat×Value)} {w:World} {listed:Array Bool} {rest:List Oper} {x y z:Operand} {v:Value} {ty t t':TypeId} {pos:String} {bD:Array Edge} {k:IntKind} {a b n c j:Nat} {A:Option Addr} {id:Nat} {l:List Oper} {m u:Code}
theorem Jn(h:JC P m Q N T w):JL P ops (Exit.then (m.wp P Q) Q) [] N T w:=JL.next (fun _ _ h=>h) h
theorem Jk(h:JC P m Q N T w):JC P .skip (Exit.then (m.wp P Q) Q) N T w:=JC.abP (fun _ _ h=>h) h
theorem Js(h:JL P l.toArray (Exit.then (u.wp P Q) Q) l N T w):JC P (.seq (.region id l.toArray false) u) Q N T w:=JC.seq (JC.region h)
theorem Lm(hx:ev T x=some v)(h:JL P ops Q rest N ((d,v)::T) w)(hN:Nat.ble (d+1) N=true:=by rfl):JL P ops Q (⟨some d,.move x,ty,pos,bD,none⟩::rest) N T w:=JL.val rfl rfl hN (fun _ ha=>run_move (ha.ev hx)) h
theorem La(hx:ev T x=some v)(h:JL P ops Q rest N ((d,v)::T) w)(hN:Nat.ble (d+1) N=true:=by rfl):JL P ops Q (⟨some d,.assign x,ty,pos,bD,none⟩::rest) N T w:=JL.val rfl rfl hN (fun _ ha=>run_assign (ha.ev hx)) h
theorem Lx{vs:Array Value}(hx:ev T x=some (.tuple vs))(hv:vs[i]? = some v)(h:JL P ops Q rest N ((d,v)::T) w)(hN:Nat.ble (d+1) N=true:=by rfl):JL P ops Q (⟨some d,.extract x i,ty,pos,bD,none⟩::rest) N T w:=JL.val rfl rfl hN (fun _ ha=>Rw (ha.ev hx) hv) h
theorem Ll{e:TypeId}(hx:ev T x=some (.slice A n c))(hu : ∀ w,(underlying t).run P w = .ok (.slice e) w)(h:JL P ops Q rest N ((d,.int .i64 n)::T) w)(hN:Nat.ble (d+1) N=true:=by rfl):JL P ops Q (⟨some d,.call ⟨.builtin .len,#[x],#[t]⟩,ty,pos,bD,none⟩::rest) N T w:=JL.val rfl rfl hN (fun _ ha=>Aw (ha.ev hx) hu) h
theorem Lt(hx:ev T x=some (.bool true))(hy:ev T y=some v)(h:JL P ops Q rest N ((d,v)::T) w)(hN:Nat.ble (d+1) N=true:=by rfl):JL P ops Q (⟨some d,.pick x y z,ty,pos,bD,none⟩::rest) N T w:=JL.val rfl rfl hN (fun _ ha=>iQ (ha.ev hx) (ha.ev hy)) h
theorem Lf(hx:ev T x=some (.bool false))(hy:ev T z=some v)(h:JL P ops Q rest N ((d,v)::T) w)(hN:Nat.ble (d+1) N=true:=by rfl):JL P ops Q (⟨some d,.pick x y z,ty,pos,bD,none⟩::rest) N T w:=JL.val rfl rfl hN (fun _ ha=>qX (ha.ev hx) (ha.ev hy)) h
theorem Lz{op:Op}{w':World}(v:Value)(hrun : ∀ a,Kn a N T->(execOp a.eval ⟨some d,op,ty,pos,bD,none⟩).run P w = .ok (.value v) w')(h:JL P ops Q rest N ((d,v)::T) w')(hN:Nat.ble (d+1) N=true:=by rfl):JL P ops Q (⟨some d,op,ty,pos,bD,none⟩::rest) N T w:=JL.val rfl rfl hN hrun h
theorem bz{op:Op}{w':World}{want:Bool}{oj:Oper}{g:Nat}(v:Value)(hrun : ∀ a,Kn a N T->(execOp a.eval ⟨some d,op,ty,pos,bD,some (j,want)⟩).run P w = .ok (.value v) w')(h:JL P ops Q rest N ((d,v)::T) w')(hN:Nat.ble (d+1) N=true:=by rfl)(hj:ops[j]? = some oj:=by rfl)(hdj:oj.dst=some g:=by rfl)(dG:Nat.ble (g+1) N=true:=by rfl)(hv:bT T g=some (.bool want):=by rfl):JL P ops Q (⟨some d,op,ty,pos,bD,some (j,want)⟩::rest) N T w:=JL.AY rfl rfl hN hj hdj dG hv hrun h
theorem Lq{op:Op}{want r:Bool}{oj:Oper}{g:Nat}(h:JL P ops Q rest N ((d,undef)::T) w)(hN:Nat.ble (d+1) N=true:=by rfl)(hj:ops[j]? = some oj:=by rfl)(hdj:oj.dst=some g:=by rfl)(dG:Nat.ble (g+1) N=true:=by rfl)(hv:bT T g=some (.bool r):=by rfl)(hb:(r==want)=false:=by rfl):JL P ops Q (⟨some d,op,ty,pos,bD,some (j,want)⟩::rest) N T w:=JL.pass rfl rfl hN hj hdj dG hv hb h
theorem gu{op:Op}{want:Bool}{oj:Oper}{g:Nat}(h:JL P ops Q rest N ((d,undef)::T) w)(hN:Nat.ble (d+1) N=true:=by rfl)(hj:ops[j]? = some oj:=by rfl)(hdj:oj.dst=some g:=by rfl)(dG:Nat.ble (g+1) N=true:=by rfl)(hv:bT T g=some undef:=by rfl):JL P ops Q (⟨some d,op,ty,pos,bD,some (j,want)⟩::rest) N T w:=JL.Qv rfl rfl hN hj hdj dG hv h
theorem bZ{want:Bool}{oj:Oper}{g:Nat}(hx:ev T x=some v)(h:JL P ops Q rest N ((d,v)::T) w)(hN:Nat.ble (d+1) N=true:=by rfl)(hj:ops[j]? = some oj:=by rfl)(hdj:oj.dst=some g:=by rfl)(dG:Nat.ble (g+1) N=true:=by rfl)(hv:bT T g=some (.bool want):=by rfl):JL P ops Q (⟨some d,.move x,ty,pos,bD,some (j,want)⟩::rest) N T w:=JL.AY rfl rfl hN hj hdj dG hv (fun _ ha=>run_move (ha.ev hx)) h
theorem Dm(i:Nat)(hi:ops[i]? = some ⟨some d,.move x,ty,pos,bD,none⟩)(hS:dw late listed->S w)(hx:ev T x=some v)(h:JR P ops Q late S fuel (listed.setIfInBounds i true) N ((d,v)::T) w)(hc:lZ ops late listed i=true:=by kernel_rfl)(hN:Nat.ble (d+1) N=true:=by rfl)(hq : ∀ c a w,Q (.panic c) (a.put (some d) v) w->Q (.panic c) a w:=by exact fun _ _ _ h=>h):JR P ops Q late S (fuel+1) listed N T w:=Dv v i hi hS (fun _ ha _=>run_move (ha.ev hx)) h hc hN hq
theorem Ds(i:Nat)(hi:ops[i]? = some ⟨some d,.assign x,ty,pos,bD,none⟩)(hS:dw late listed->S w)(hx:ev T x=some v)(h:JR P ops Q late S fuel (listed.setIfInBounds i true) N ((d,v)::T) w)(hc:lZ ops late listed i=true:=by kernel_rfl)(hN:Nat.ble (d+1) N=true:=by rfl)(hq : ∀ c a w,Q (.panic c) (a.put (some d) v) w->Q (.panic c) a w:=by exact fun _ _ _ h=>h):JR P ops Q late S (fuel+1) listed N T w:=Dv v i hi hS (fun _ ha _=>run_assign (ha.ev hx)) h hc hN hq
class Rt(P:Program)(fn:outParam Func)(R:outParam (Ending->World->Prop))(Q:Exit->Act->World->Prop):Prop where
 r : ∀ a w,bodyPost P fn R .ret a w->Q .ret a w
instance Rt.base{fn:Func}{R:Ending->World->Prop} : Rt P fn R (bodyPost P fn R):=⟨fun _ _ h=>h⟩
instance Rt.akI{fn:Func}{R:Ending->World->Prop}{K:Act->World->Prop}[h:Rt P fn R Q]:Rt P fn R (Exit.then K Q):=⟨fun a w e=>adF (h.r a w e)⟩
instance Rt.ahM{fn:Func}{R:Ending->World->Prop}[h:Rt P fn R Q]:Rt P fn R (Exit.inBlock id Q):=⟨fun a w e=>adB (h.r a w e)⟩
theorem Ja{fn:Func}{R:Value->World->Prop}{r:ResultVar}[q:Rt P fn (fun e w' => ∃ v,e = .returned v/\R v w') Q](hr:fn.results = #[r])(h:RV P N T w r v)(hR:R v w):JC P .ret Q N T w:=JC.ret fun a ha=>q.r a w (adE ha hr h ⟨_,rfl,hR⟩)
theorem Jb{fn:Func}{R:Value->World->Prop}{r r':ResultVar}{v':Value}[q:Rt P fn (fun e w' => ∃ v,e = .returned v/\R v w') Q](hr:fn.results = #[r,r'])(h:RV P N T w r v)(h':RV P N T w r' v')(hR:R (.tuple #[v,v']) w):JC P .ret Q N T w:=JC.ret fun a ha=>q.r a w (adG ha hr h h' ⟨_,rfl,hR⟩)
theorem eH{s:TypeId}{f g o q:Nat}{fs:Array Field}{iU:Field}(e:Nat)(hx:ev T x=some (.pointer (some ⟨g,o,none⟩)))(hu : ∀ w,(underlying s).run P w = .ok (.struct fs) w)(hf:fs[f]? = some iU)(hs : ∀ w,(Go.sizeOf iU.type).run P w = .ok q w)(h:JL P ops Q rest N ((d,.pointer (some ⟨g,e,none⟩))::T) w)(hv:Value.pointer (some (Addr.add ⟨g,o,none⟩ iU.offset)) = .pointer (some ⟨g,e,none⟩):=by rfl)(hn:(q==0)=false:=by rfl)(hN:Nat.ble (d+1) N=true:=by rfl):JL P ops Q (⟨some d,.fieldAddr s x f,ty,pos,bD,none⟩::rest) N T w:=JL.val rfl rfl hN (fun _ ha=>iG (ha.ev hx) hu hf hs hn hv) h
theorem iJ{s:TypeId}{f g o q:Nat}{fs:Array Field}{iU:Field}(e:Nat)(i:Nat)(hi:ops[i]? = some ⟨some d,.fieldAddr s x f,ty,pos,bD,none⟩)(hS:dw late listed->S w)(hx:ev T x=some (.pointer (some ⟨g,o,none⟩)))(hu : ∀ w,(underlying s).run P w = .ok (.struct fs) w)(hf:fs[f]? = some iU)(hs : ∀ w,(Go.sizeOf iU.type).run P w = .ok q w)(h:JR P ops Q late S fuel (listed.setIfInBounds i true) N ((d,.pointer (some ⟨g,e,none⟩))::T) w)(hv:Value.pointer (some (Addr.add ⟨g,o,none⟩ iU.offset)) = .pointer (some ⟨g,e,none⟩):=by rfl)(hn:(q==0)=false:=by rfl)(hc:lZ ops late listed i=true:=by kernel_rfl)(hN:Nat.ble (d+1) N=true:=by rfl)(hq : ∀ c a w,Q (.panic c) (a.put (some d) (.pointer (some ⟨g,e,none⟩))) w->Q (.panic c) a w:=by exact fun _ _ _ h=>h):JR P ops Q late S (fuel+1) listed N T w:=Dv _ i hi hS (fun _ ha _=>iG (ha.ev hx) hu hf hs hn hv) h hc hN hq
theorem St.f{W0:World}{U U':List Box}{Ps Ps':List (World->Prop)}(HS:St W0 U' Ps' w)(n m:Nat)(hU:U'.drop n=U:=by rfl)(hP:Ps'.drop m=Ps:=by rfl):dw late listed->uG U Ps w:=HS.bf n m hU hP
def bW(T:List (Nat×Value)):List (Nat×Operand)->Option (List (Nat×Value))
 | []=>some []
 | (i,x)::l=>match ev T x,bW T l with
  | some v,some vs=>some ((i,v)::vs)
  | _,_=>none
theorem Kn.bW{a:Act}(h:Kn a N T) : ∀ {l:List (Nat×Operand)} {vs:List (Nat×Value)},bI.bW T l=some vs->l.map (fun p=>(p.1,a.eval p.2))=vs
 | [],vs,hl=>Option.some.inj hl
 | (i,x)::l,vs,hl=>by
  unfold bI.bW at hl
  cases h1:bI.ev T x with
  | none=>rw [h1] at hl;cases hl
  | some u =>
   cases h2:bI.bW T l with
   | none=>rw [h1,h2] at hl;cases hl
   | some us =>
    rw [h1,h2] at hl;obtain rfl:=Option.some.inj hl;rw [List.map_cons,h.ev h1,h.bW h2]
theorem St.o0{W0:World}{U U':List Box}{Ps Ps':List (World->Prop)}(HS:St W0 U' Ps' w)(n m:Nat)(hU:U'.drop n=U:=by rfl)(hP:Ps'.drop m=Ps:=by rfl):St W0 U Ps w:=HS.Qp n m hU hP
theorem St.oh{W0:World}{U U':List Box}{Ps Ps':List (World->Prop)}{F F':World->Prop}(HS:St W0 U' Ps' w)(n m k:Nat)(hi:Ps'[k]? = some F)(hq : ∀ w,F w->F' w)(hU:U'.drop n=U:=by rfl)(hP:Ps'.drop m=Ps:=by rfl):St W0 U (F'::Ps) w:=HS.out n m k hU hP hi hq
end
end bI
namespace bI
open Go Go.RowKit
section
variable {P:Program} {ops:Array Oper} {Q:Exit->Act->World->Prop} {late:List Nat} {S:World->Prop} {N fuel i:Nat} {T:List (Nat×Value)} {W0 w:World} {U U':List Box} {Ps Ps':List (World->Prop)} {listed:Array Bool} {rs:List Nat}
class Dr{α:Type}(l' l:List α):Prop where
 s : ∀ x∈l,x∈l'
instance Dr.refl{α:Type}{l:List α} : Dr l l:=⟨fun _ h=>h⟩
instance Dr.cons{α:Type}{l' l:List α}{y:α}[h:Dr l' l]:Dr (y::l') l:=⟨fun x hx => .tail _ (h.s x hx)⟩
theorem df.is(i:Nat)(h:df P ops Q late S fuel listed N T w (i::rs)):df P ops Q late S fuel listed N T w (i::rs):=h
end
end bI
namespace Go.Proofs.BGQ
open Go Go.RowKit Lw
theorem bu.start{w:World}(ht:Tz w)(hb:Tab w):bu w w [] [] [] []:=⟨⟨fun _ h=>by simp at h,fun _ h=>by simp at h,Below.refl _ _⟩,fun _ h=>by simp at h,fun _ h=>by simp at h,ht,hb,fun _ h=>by simp at h,fun _ h=>by simp at h⟩
end Go.Proofs.BGQ
namespace Lw
open Go Go.RowKit
structure Fh where
 s:Bool
 A:Option Addr
 n:Nat
 c:Nat
 A':Option Addr
 n':Nat
 c':Nat
def Fh.cells(a:Fh):List Value:=[.bool a.s,.slice a.A a.n a.c,.slice a.A' a.n' a.c']
end Lw
namespace Lw
theorem aaS{a b:List Nat}(hl:a.length=b.length)(h : ∀ j,j<a.length->dg a j=dg b j):a=b:=by
 refine List.ext_getElem hl fun j h1 h2 => ?_;rw [<- mX h1,<- mX h2];grind
theorem fields_eq{q r:Rat} : q=r↔rs q=rs r/\rn q=rn r/\rd q=rd r:=by
 constructor
 ·grind
 ·rintro ⟨h1,h2,h3⟩
  rw [<- xx q,<- xx r,h1,h2,h3]
end Lw
namespace Go.Proofs.BGQ
open Go Go.RowKit Lw
set_option maxRecDepth 100000 in
set_option maxHeartbeats 1600000 in
theorem Ue(A A':Option Addr)(ns ms:List Nat)(n m c c' B B':Nat)(w:World)(h:Rd w B A ns)(h':Rd w B' A' ms)(hn:ns.length=n)(hm:ms.length=m)(hl:n<=4294967296)(hl':m<=4294967296) :
  Calls Tryz.prog 57 #[.slice A n c,.slice A' m c'] w fun e w'=>e = .returned (.bool (decide (ns=ms))) /\ ∃ q,w'=w.drewN q:=by
 have Hn:=Lib.hid hn;have Hm:=Lib.hid hm;clear hn hm
 by_cases hnm:n=m
 ·subst hnm
  have hb0:((n:Int) != (n:Int))=false:=by simp
  go_enter Tryz.func57,Tryz.ntmps57
  go_wp2_with fail
  go_loopw [5] (fun i wr => ∃ (k q:Nat),k<=n/\i = .int .i64 k/\wr=w.drewN q/\Hid (∀ j,j<k->dg ns j=dg ms j)) (fun i _=>n-(intOf i).toNat)
  case atStart=>exact ⟨0,0,aoI _,rfl,rfl,Lib.hid (fun j hj=>absurd hj af)⟩
  case round =>
   obtain ⟨k,q,hk,rfl,rfl,hall⟩:=hrel
   by_cases hkn:k<n
   ·obtain ⟨b,off,rfl,hbb,hcell,hlt⟩:=h.at_ (k:=k) (by rw [Hn.out];omega)
    obtain ⟨b',off',rfl,aiP,hcell',hlt'⟩:=h'.at_ (k:=k) (by rw [Hm.out];omega)
    by_cases he:dg ns k=dg ms k
    ·have hbq:((dg ns k:Int) != (dg ms k:Int))=false:=by simp [he]
     have HA2:=Lib.hid (fun j (hj:j<k+1)=>show dg ns j=dg ms j by
      rcases aoM j k with h1 | h1
      ·exact hall.out j h1
      ·obtain rfl:j=k:=af
       exact he)
     clear he
     go_wp2
     go_quiet (fail)
     go_wp2
     go_roundw
     case rel=>exact ⟨k+1,q+nq,af,by go_num,rfl,HA2⟩
     case measure=>simp [intOf];omega
    ·have hbq:((dg ns k:Int) != (dg ms k:Int))=true:=by rw [bne_iff_ne];omega
     have HF:=Lib.hid (show decide (ns=ms)=false from decide_eq_false (fun e=>he (by rw [e])));clear he
     go_wp2
     go_quiet (fail)
     go_wp2
     go_ret
     exact ⟨iP HF.out.symm,q+nq,by first | rfl | (rw [World.drewN_drewN])⟩
   ·obtain rfl:k=n:=af
    have HF:=Lib.hid (show decide (ns=ms)=true from decide_eq_true (aaS (Hn.out.trans Hm.out.symm) (fun j hj=>hall.out j (by rw [<- Hn.out];exact hj))))
    go_wp2
    go_ret
    exact ⟨iP HF.out.symm,_,rfl⟩
 ·have hb0:((n:Int) != (m:Int))=true:=by rw [bne_iff_ne];omega
  have HF:=Lib.hid (show decide (ns=ms)=false from decide_eq_false (fun e=>hnm (by rw [<- Hn.out,<- Hm.out,e])));clear hnm
  go_enter Tryz.func57,Tryz.ntmps57
  go_wp2_with fail
  go_ret
  exact ⟨iP HF.out.symm,0,rfl⟩
section
variable {W0 w:World} {bs:List Bx} {L:List En} {ts:List Bt} {M:List Qn} {s s':Bool} {A A' B B':Option Addr} {n c n' c' m d m' d' k k':Nat} {q r:Rat}
set_option maxRecDepth 100000 in
set_option maxHeartbeats 1600000 in
theorem WN(HE:bu W0 w bs L ts M)(h:⟨.agg #[.bool s,.slice A n c,.slice A' n' c'],q,k,true⟩∈M)(h':⟨.agg #[.bool s',.slice B m d,.slice B' m' d'],r,k',true⟩∈M)(hk:k+k'<=100000) :
  Calls Tryz.prog 20 #[.agg #[.bool s,.slice A n c,.slice A' n' c'],.agg #[.bool s',.slice B m d,.slice B' m' d']] w fun e w'=>e = .returned (.bool (decide (q=r)))/\bu W0 w' bs L ts M:=by
 refine Calls.mono (R:=fun e w'=>e = .returned (.bool (decide (q=r)))/\bu w w' [] L [] M) ?_ fun _ _ hh=>⟨hh.1,HE.back hh.2⟩;replace HE:=(HE.here.dF (.bool s) (.slice A n c) (.slice A' n' c')).dF (.bool s') (.slice B m d) (.slice B' m' d');simp only [World.size_alloc] at HE;obtain ⟨g1,g2,g3,r1,r2,l1,l2,-⟩:=(HE.fr _ h).own;obtain ⟨f1,f2,f3,r3,r4,l3,l4,-⟩:=(HE.fr _ h').own;have C1:=Lib.hid (Ue A B (rn q) (rn r) n m c d _ _ _ r1 r3 g2.symm f2.symm af af);have C2:=Lib.hid (fun W (hb:Below _ _ W)=>Ue A' B' (rd q) (rd r) n' m' c' d' _ _ W (r2.next hb (aoG _)) (r4.next hb (aoG _)) g3.symm f3.symm af af);obtain ⟨q0,q1,q2,q3,q4,q5⟩:=HE.c3 au;obtain ⟨q6,q7,q8,q9,q10,q11⟩:=HE.c3 ak
 by_cases hs:s=s'
 ·have hb0:(s==s')=true:=by rw [hs];simp
  by_cases hn:rn q=rn r
  ·have H1:=Lib.hid (decide_eq_true hn)
   have H2:=Lib.hid (show decide (rd q=rd r)=decide (q=r) by
    rw [decide_eq_decide,fields_eq];exact ⟨fun e=>⟨by rw [<- g1,<- f1,hs],hn,e⟩,fun e=>e.2.2⟩)
   clear hs hn g1 g2 g3 f1 f2 f3 r1 r2 r3 r4 l1 l2 l3 l4
   go_enter Tryz.func20,Tryz.ntmps20
   go_wp2_with fail
   refine C1.out.mono ?_;rw [H1.out];rintro e w1 ⟨rfl,p,rfl⟩
   go_wp2_with fail
   refine (C2.out _ (below_drewN' _ _ p)).mono ?_;rw [H2.out];rintro e w2 ⟨rfl,p2,rfl⟩
   go_wp2_with fail
   go_ret
   first | exact ⟨rfl,(HE.next (below_drewN' _ _ (p+p2))).bare⟩ | exact ⟨rfl,((HE.next (below_drewN' _ _ p)).next (below_drewN' _ _ p2)).bare⟩
  ·have H1:=Lib.hid (decide_eq_false hn)
   have HF:=Lib.hid (show decide (q=r)=false from decide_eq_false (fun e=>hn (by rw [e])));clear hs hn g1 g2 g3 f1 f2 f3 r1 r2 r3 r4 l1 l2 l3 l4
   go_enter Tryz.func20,Tryz.ntmps20
   go_wp2_with fail
   refine C1.out.mono ?_;rw [H1.out];rintro e w1 ⟨rfl,p,rfl⟩
   go_wp2_with fail
   go_ret
   exact ⟨iP HF.out.symm,(HE.next (below_drewN' _ _ p)).bare⟩
 ·have hb0:(s==s')=false:=by simpa using hs
  have HF:=Lib.hid (show decide (q=r)=false from decide_eq_false (fun e=>hs (by rw [g1,f1,e])));clear hs g1 g2 g3 f1 f2 f3 r1 r2 r3 r4 l1 l2 l3 l4
  go_enter Tryz.func20,Tryz.ntmps20
  go_wp2_with fail
  go_ret
  exact ⟨iP HF.out.symm,HE.bare⟩
end
end Go.Proofs.BGQ
namespace Lw
open Go Go.RowKit
theorem dA.shape{w:World}{e:Qn}(h:dA w e) : ∃ (s:Bool) (A:Option Addr) (n c:Nat) (A':Option Addr) (n' c':Nat),e.v = .agg #[.bool s,.slice A n c,.slice A' n' c']:=by
 obtain ⟨s,A,n,c,A',n',c',_,_,h1,_⟩:=h;grind
theorem dA.cut{w:World}{s b:Bool}{A A':Option Addr}{n c n' c' k K:Nat}{q:Rat}(h:dA w ⟨.agg #[.bool s,.slice A n c,.slice A' n' c'],q,k,b⟩)(hn:n<=K)(hn':n'<=K) :
  dA w ⟨.agg #[.bool s,.slice A n c,.slice A' n' c'],q,K,b⟩:=by
 obtain ⟨s',A1,n1,c1,A2,n2,c2,ns,ms,h1,h2,h3,h4,h5,h6,h7,h8⟩:=h;dsimp only at h1
 injection h1 with h1
 injection h1 with h1;simp only [List.cons.injEq,Value.bool.injEq,Value.slice.injEq,and_true] at h1;obtain ⟨rfl,⟨rfl,rfl,rfl⟩,rfl,rfl,rfl⟩:=h1;exact ⟨s,A,n,c,A',n',c',ns,ms,rfl,h2,h3,h4,h5,hn,hn',h8⟩
end Lw
namespace Go.Proofs.BGQ
open Go Go.RowKit Lw
section
variable {W0 w:World} {bs:List Bx} {L:List En} {ts:List Bt} {M:List Qn} {v v':Value} {q r:Rat} {k k':Nat} {b b':Bool}
def kH(W0:World)(bs:List Bx)(L:List En)(ts:List Bt)(M:List Qn)(q:Rat)(k:Nat)(e:Ending)(w':World):Prop :=
 ∃ u,e = .returned u/\bu W0 w' bs L ts (⟨u,q,k,true⟩::M)
theorem kH.of{e:Ending}(hh:eF W0 bs L ts M q k e w):kH W0 bs L ts M q k e w:=by
 obtain ⟨s,A,n,c,A',n',c',rfl,he⟩:=hh;exact ⟨_,rfl,he⟩
theorem NH(HE:bu W0 w bs L ts M)(h:⟨v,q,k,b⟩∈M)(hk:k<=100000) :
  Calls Tryz.prog 56 #[v] w fun e w'=>e = .returned (.bool b)/\bu W0 w' bs L ts M:=by
 obtain ⟨s,A,n,c,A',n',c',ns,ms,e1,r1,r2,e2,e3,e4,e5,e6,e7,e8,e9⟩:=HE.fr _ h;dsimp only at e1 e4 e5 e9;subst e1 e9;exact (NG s A A' ns ms n n' c c' _ _ w r1 r2 (aoG _) (aoG _) e2 e3 af af e6 e7 (HE.tz.next HE.below)).mono fun e w' hh=>⟨hh.1,HE.next hh.2⟩
theorem bu.c9{g1 g2 g3:Nat}{x1 y1 z1 x2 y2 z2 x3 y3 z3:Value}(h:bu W0 w bs L ts M)(h1:⟨g1,x1,y1,z1⟩∈ts)(h2:⟨g2,x2,y2,z2⟩∈ts)(h3:⟨g3,x3,y3,z3⟩∈ts) :
  w.cell? ⟨g1,0,none⟩=some x1/\w.cell? ⟨g1,1,none⟩=some y1/\w.cell? ⟨g1,2,none⟩=some z1/\w.cell? ⟨g2,0,none⟩=some x2/\w.cell? ⟨g2,1,none⟩=some y2/\w.cell? ⟨g2,2,none⟩=some z2/\w.cell? ⟨g3,0,none⟩=some x3/\w.cell? ⟨g3,1,none⟩=some y3/\w.cell? ⟨g3,2,none⟩=some z3 :=
 ⟨(h.c3 h1).1,(h.c3 h1).2.1,(h.c3 h1).2.2.1,(h.c3 h2).1,(h.c3 h2).2.1,(h.c3 h2).2.2.1,(h.c3 h3).1,(h.c3 h3).2.1,(h.c3 h3).2.2.1⟩
end
end Go.Proofs.BGQ
