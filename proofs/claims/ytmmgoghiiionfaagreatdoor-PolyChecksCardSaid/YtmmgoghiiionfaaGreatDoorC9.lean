/- Part of a proof, said shortly. -/
import Derived.WalkKit
import Derived.Below
import Derived.Laws.Cells
import Derived.OrdersHeld
import Derived.OrdersIn
import Derived.TacticsIn
import Derived.ControlIn
import Derived.LoopNIn
import Derived.Test.YtmmgoghiiionfaaGreatDoorAlz
set_option linter.unusedVariables false
set_option linter.unusedSimpArgs false
namespace bJ
open Go Go.RowKit
def bM:List (Nat×Value)->Nat->Option Value
 | [],_=>none
 | (k,v)::r,t=>bif Nat.beq k t then some v else bM r t
def Kn(ds:List Deferred)(a:Act)(N:Nat)(T:List (Nat×Value)):Prop :=
 a.defers=ds/\a.tmps.size=N /\ ∀ t v,bM T t=some v->a.tmps.getD t undef=v
def ev(T:List (Nat×Value)):Operand->Option Value
 | .tmp t=>bM T t
 | .const v=>some v
 | .global g=>some (.pointer (some ⟨g,0,none⟩))
 | .func f=>some (.func (.func f) #[] #[])
def evs(T:List (Nat×Value)):List Operand->Option (List Value)
 | []=>some []
 | x::l=>match ev T x,evs T l with
  | some v,some vs=>some (v::vs)
  | _,_=>none
section
variable {ds:List Deferred} {a:Act} {N d:Nat} {T:List (Nat×Value)} {v:Value}
theorem Kn.ev{x:Operand}(h:Kn ds a N T)(hx:ev T x=some v):a.eval x=v:=by
 cases x with
 | tmp t=>exact h.2.2 t v hx
 | const u=>exact Option.some.inj hx
 | global g=>exact Option.some.inj hx
 | func f=>exact Option.some.inj hx
theorem Kn.evs(h:Kn ds a N T) : ∀ {l:List Operand} {vs:List Value},evs T l=some vs->l.map a.eval=vs
 | [],vs,hl=>Option.some.inj hl
 | x::l,vs,hl=>by
  unfold bJ.evs at hl
  cases h1:bJ.ev T x with
  | none=>rw [h1] at hl;cases hl
  | some u =>
   cases h2:bJ.evs T l with
   | none=>rw [h1,h2] at hl;cases hl
   | some us =>
    rw [h1,h2] at hl;obtain rfl:=Option.some.inj hl;rw [List.map_cons,h.ev h1,h.evs h2]
theorem Kn.put(h:Kn ds a N T)(hd:Nat.ble (d+1) N=true)(v:Value):Kn ds (a.put (some d) v) N ((d,v)::T):=by
 obtain ⟨h1,h2,h3⟩:=h;have hd':d<a.tmps.size:=by rw [h2];exact aho hd
 refine ⟨h1,by simpa [Act.put] using h2,fun t u hu => ?_⟩;unfold bM at hu
 cases hb:Nat.beq d t with
 | true =>
  rw [hb] at hu;obtain rfl:=Option.some.inj hu;obtain rfl:=ahm hb;simp [Act.put,hd']
 | false =>
  rw [hb] at hu;have hne:d≠t:=fun e=>by subst e;rw [Nat.beq_refl] at hb;cases hb
  have:=h3 t u hu
  simpa [Act.put,ajc hne] using this
theorem Kn.none(h:Kn ds a N T)(v:Value):Kn ds (a.put none v) N T:=h
theorem Kn.of{tmps:Array Value}(hs:tmps.size=N)(h : ∀ p∈T,tmps.getD p.1 undef=p.2):Kn [] ⟨tmps,[]⟩ N T:=by
 refine ⟨rfl,hs,fun t v hv => ?_⟩
 induction T with
 | nil=>cases hv
 | cons p r ih =>
  obtain ⟨k,u⟩:=p;unfold bM at hv
  cases hb:Nat.beq k t with
  | true =>
   rw [hb] at hv;obtain rfl:=Option.some.inj hv;obtain rfl:=ahm hb;exact h _ ak
  | false=>rw [hb] at hv;exact ih (fun p hp=>h p (.tail _ hp)) hv
theorem Kn.sub{T':List (Nat×Value)}(h:Kn ds a N T)(hs : ∀ t v,bM T' t=some v->bM T t=some v):Kn ds a N T':=⟨h.1,h.2.1,fun t v hv=>h.2.2 t v (hs t v hv)⟩
end
structure Box where
 g:Nat
 t:TypeId
 vs:List Value
def dO:Value->Bool
 | .int .u32 _=>false
 | _=>true
def oU(w:World)(b:Nat):Prop := ∃ (c:Array Value) (t:TypeId) (f:Nat×Nat),w.heap[b]? = some (.cells c t f) /\ ∀ (i:Nat) (v:Value),c[i]? = some v->dO v=true
structure dK(gs:List Nat)(w w':World):Prop where
 size:w.heap.size<=w'.heap.size
 same : ∀ b,b<w.heap.size->b ∉ gs->w'.heap[b]? = w.heap[b]?
 soft : ∀ b,b∈gs->b<w.heap.size->oU w b/\oU w' b
section
variable {gs gs':List Nat} {w w' w'':World}
theorem dK.trans(h:dK gs w w')(h':dK gs w' w''):dK gs w w'' :=
 ⟨ahk h.size h'.size,fun b hb hn=>(h'.same b (ahr hb h.size) hn).trans (h.same b hb hn),
  fun b hb hl=>⟨(h.soft b hb hl).1,(h'.soft b hb (ahr hl h.size)).2⟩⟩
theorem dK.of_below(hb:Below w.heap.size w w')(hs : ∀ b∈gs,b<w.heap.size->oU w b):dK gs w w' :=
 ⟨hb.size,fun b hl _=>hb.block b hl,fun b h hl=>⟨hs b h hl,by
  obtain ⟨c,t,f,h1,h2⟩:=hs b h hl;exact ⟨c,t,f,(hb.block b hl).trans h1,h2⟩⟩⟩
def Stable(P:World->Prop):Prop := ∀ gs w w',dK gs w w'->P w->P w'
theorem oU.of_same{b:Nat}(h:oU w b)(he:w'.heap[b]? = w.heap[b]?):oU w' b:=by
 obtain ⟨c,t,f,h1,h2⟩:=h;exact ⟨c,t,f,he.trans h1,h2⟩
end
structure St(W0:World)(U:List Box)(Ps:List (World->Prop))(w:World):Prop where
 below:Below W0.heap.size W0 w
 box : ∀ b∈U,w.heap[b.g]? = some (.cells b.vs.toArray b.t (0,0))
 lo : ∀ b∈U,W0.heap.size<=b.g
 nd:U.Pairwise (fun b b'=>b.g≠b'.g)
 soft : ∀ b∈U,b.vs.all dO=true
 fact : ∀ P∈Ps,∀ w',dK (U.map Box.g) w w'->P w'
section
variable {W0 w w':World} {U U':List Box} {Ps Ps':List (World->Prop)}
def Tg(_:List Box)(_:List (World->Prop)):Prop:=True
theorem St.tg{W0 w:World}{U:List Box}{Ps:List (World->Prop)}(_:St W0 U Ps w):Tg U Ps:=trivial
theorem Tg.u{b:Box}{U:List Box}{Ps:List (World->Prop)}(_:Tg (b::U) Ps):Tg U Ps:=trivial
theorem Tg.p{P:World->Prop}{U:List Box}{Ps:List (World->Prop)}(_:Tg U (P::Ps)):Tg U Ps:=trivial
theorem St.jB(h:St W0 U Ps w) : ∀ g∈U.map Box.g,oU w g:=fun g hg=>by
 obtain ⟨b,hb,rfl⟩:=ahZ.1 hg;refine ⟨_,_,_,h.box b hb,fun i v hv => ?_⟩;have h1:=h.soft b hb;rw [ahK] at h1;rw [aik] at hv;exact h1 v (ahq hv)
theorem St.keeps(h:St W0 U Ps w):dK (U.map Box.g) w w:=⟨ahj _,fun _ _ _=>rfl,fun b hb _=>⟨h.jB b hb,h.jB b hb⟩⟩
theorem St.get{P:World->Prop}(h:St W0 U Ps w)(hp:P∈Ps):P w:=h.fact P hp w h.keeps
theorem St.at_{P:World->Prop}(h:St W0 U Ps w)(i:Nat)(hp:Ps[i]? = some P):P w:=h.get (ahq hp)
theorem St.lt(h:St W0 U Ps w){b:Box}(hb:b∈U):b.g<w.heap.size:=(ahD.1 (h.box b hb)).1
theorem St.next(h:St W0 U Ps w)(hb:Below w.heap.size w w'):St W0 U Ps w' :=
 ⟨h.below.trans (hb.mono h.below.size),fun b hm=>(hb.block b.g (h.lt hm)).trans (h.box b hm),h.lo,h.nd,h.soft,
  fun P hp w'' ha=>h.fact P hp w'' ((dK.of_below hb (fun b hm _=>h.jB b hm)).trans ha)⟩
theorem St.add(h:St W0 U Ps w){P:World->Prop}(hs:Stable P)(hp:P w):St W0 U (P::Ps) w :=
 ⟨h.below,h.box,h.lo,h.nd,h.soft,fun Q hQ w' ha=>by
  rcases List.mem_cons.1 hQ with rfl | hQ
  ·exact hs _ _ _ ha hp
  ·exact h.fact Q hQ w' ha⟩
theorem St.facts(h:St W0 U Ps w)(hs : ∀ P∈Ps',P∈Ps):St W0 U Ps' w:=⟨h.below,h.box,h.lo,h.nd,h.soft,fun P hp=>h.fact P (hs P hp)⟩
theorem St.map(h:St W0 U Ps w){P Q:World->Prop}(hp:P∈Ps)(hq : ∀ w,P w->Q w):St W0 U (Q::Ps) w :=
 ⟨h.below,h.box,h.lo,h.nd,h.soft,fun R hR w' ha=>by
  rcases List.mem_cons.1 hR with rfl | hR
  ·exact hq w' (h.fact P hp w' ha)
  ·exact h.fact R hR w' ha⟩
theorem St.gone(h:St W0 U Ps w)(hs : ∀ b∈U',b∈U)(hn:U'.Pairwise (fun b b'=>b.g≠b'.g)):St W0 U' Ps w :=
 ⟨h.below,fun b hb=>h.box b (hs b hb),fun b hb=>h.lo b (hs b hb),hn,fun b hb=>h.soft b (hs b hb),
  fun P hp w' ha=>h.fact P hp w' ⟨ha.size,fun b hl hn=>ha.same b hl (fun hm=>hn (by
   obtain ⟨x,hx,rfl⟩:=ahZ.1 hm
   exact ahZ.2 ⟨x,hs x hx,rfl⟩)),fun b hm hl=>by
    by_cases hb:b∈U'.map Box.g
    ·exact ha.soft b hb hl
    ·exact ⟨h.jB b hm,(h.jB b hm).of_same (ha.same b hl hb)⟩⟩⟩
theorem St.alloc(h:St W0 U Ps w)(t:TypeId)(vs:List Value)(hv:vs.all dO=true):St W0 (⟨w.heap.size,t,vs⟩::U) Ps (w.alloc (.cells vs.toArray t)):=by
 have hold : ∀ k,k<w.heap.size->(w.alloc (.cells vs.toArray t)).heap[k]? = w.heap[k]? := fun k hk=>Below.heap_alloc w _ k hk
 have hnew:(w.alloc (.cells vs.toArray t)).heap[w.heap.size]? = some (.cells vs.toArray t (0,0)):=by
  show (w.heap.push _)[w.heap.size]? = _;grind
 have hsz:(w.alloc (.cells vs.toArray t)).heap.size=w.heap.size+1:=by simp_all
 refine ⟨h.below.alloc h.below.size _,fun b hb => ?_,fun b hb => ?_,List.pairwise_cons.2 ⟨fun b hb => ?_,h.nd⟩,fun b hb => ?_,fun P hp w' ha=>h.fact P hp w' ?_⟩
 ·rcases List.mem_cons.1 hb with rfl | hb
  ·exact hnew
  ·exact (hold _ (h.lt hb)).trans (h.box b hb)
 ·rcases List.mem_cons.1 hb with rfl | hb
  ·exact h.below.size
  ·exact h.lo b hb
 ·have:=h.lt hb;dsimp only;omega
 ·rcases List.mem_cons.1 hb with rfl | hb
  ·exact hv
  ·exact h.soft b hb
 ·refine ⟨by have:=ha.size;omega,fun b hl hn => ?_,fun b hm hl => ?_⟩
  ·have h1:=ha.same b af (fun hm=>by
    rcases List.mem_cons.1 hm with e | hm
    ·grind
    ·exact hn hm)
   grind
  ·exact ⟨h.jB b hm,(ha.soft b (.tail _ hm) af).2⟩
theorem St.write(h:St W0 U Ps w)(i:Nat){b:Box}(hi:U[i]? = some b){vs:List Value}(hv:vs.all dO=true)(hos:w'.os=w.os)(ht:w'.tape=w.tape)(ho:w'.output=w.output)(hsz:w'.heap.size=w.heap.size)(hsame : ∀ k,k≠b.g->w'.heap[k]? = w.heap[k]?)(hbox:w'.heap[b.g]? = some (.cells vs.toArray b.t (0,0))):St W0 (U.set i ⟨b.g,b.t,vs⟩) Ps w':=by
 have hb:=ahq hi;have hil:i<U.length:=(ahy.1 hi).1
 have good : ∀ x∈U.set i ⟨b.g,b.t,vs⟩,x=⟨b.g,b.t,vs⟩\/(x∈U/\x.g≠b.g):=fun x hx=>by
  obtain ⟨j,hj⟩:=aiE hx
  by_cases e:i=j
  ·subst e
   rw [aiR hil] at hj;exact .inl (Option.some.inj hj).symm
  ·rw [ai2 e] at hj
   refine .inr ⟨ahq hj,fun eg=>e ?_⟩;have hjl:j<U.length:=(ahy.1 hj).1;have hp:=List.pairwise_iff_getElem.1 h.nd;have e1:=(ahy.1 hi).2;have e2:=(ahy.1 hj).2;rcases aiV i j with hl | hl | hl
   ·exact absurd (by rw [e1,e2];exact eg.symm) (hp i j hil hjl hl)
   ·exact hl
   ·exact absurd (by rw [e1,e2];exact eg) (hp j i hjl hil hl)
 have hmap:(U.set i ⟨b.g,b.t,vs⟩).map Box.g=U.map Box.g:=by
  rw [List.map_set];apply aiw;intro j
  by_cases e:i=j
  ·subst e
   rw [aiR (by simpa using hil),aiv,hi];rfl
  ·rw [ai2 e]
 have hB:Below W0.heap.size w w':=⟨hos,ht,ho,af,fun k hk=>hsame k (by have:=h.lo b hb;omega)⟩;refine ⟨h.below.trans hB,fun x hx => ?_,fun x hx => ?_,(List.pairwise_map (f:=Box.g) (R:=fun x y=>x≠y)).1 (by rw [hmap];exact (List.pairwise_map (f:=Box.g) (R:=fun x y=>x≠y)).2 h.nd),fun x hx => ?_,fun P hp w'' ha=>h.fact P hp w'' ?_⟩
 ·rcases good x hx with rfl | ⟨h1,h2⟩
  ·exact hbox
  ·exact (hsame _ h2).trans (h.box x h1)
 ·rcases good x hx with rfl | ⟨h1,_⟩
  ·exact h.lo b hb
  ·exact h.lo x h1
 ·rcases good x hx with rfl | ⟨h1,_⟩
  ·exact hv
  ·exact h.soft x h1
 ·rw [hmap] at ha
  refine dK.trans (w':=w') ⟨af,fun k hk hn=>hsame k (fun e=>hn (by rw [e];exact ahZ.2 ⟨b,hb,rfl⟩)),fun k hk _=>⟨h.jB k hk,?_⟩⟩ ha
  by_cases e:k=b.g
  ·subst e
   refine ⟨_,_,_,hbox,fun i v hv' => ?_⟩;rw [ahK] at hv;rw [aik] at hv';exact hv v (ahq hv')
  ·exact (h.jB k hk).of_same (hsame k e)
end
section
variable {P:Program} {ρ:Operand->Value} {w:World} {dst:Option Tmp} {ty:TypeId} {pos:String} {bn:Array Edge} {gd:Option (Nat×Bool)}
theorem run_move{x:Operand}{v:Value}(h:ρ x=v):(execOp ρ ⟨dst,.move x,ty,pos,bn,gd⟩).run P w = .ok (.value v) w:=by subst h;rfl
theorem run_assign{x:Operand}{v:Value}(h:ρ x=v):(execOp ρ ⟨dst,.assign x,ty,pos,bn,gd⟩).run P w = .ok (.value v) w:=by subst h;rfl
theorem RH{c x y:Operand}{b:Bool}(hc:ρ c = .bool b):(execOp ρ ⟨dst,.pick c x y,ty,pos,bn,gd⟩).run P w = .ok (.value (if b=true then ρ x else ρ y)) w:=by
 simp [execOp,hc,asBool]
theorem yu{c x y:Operand}{v:Value}(hc:ρ c = .bool true)(hx:ρ x=v):(execOp ρ ⟨dst,.pick c x y,ty,pos,bn,gd⟩).run P w = .ok (.value v) w:=by
 rw [RH hc,if_pos rfl,hx]
theorem yt{c x y:Operand}{v:Value}(hc:ρ c = .bool false)(hy:ρ y=v):(execOp ρ ⟨dst,.pick c x y,ty,pos,bn,gd⟩).run P w = .ok (.value v) w:=by
 rw [RH hc,if_neg (by simp),hy]
theorem kE{x:Operand}{t:TypeId}{b:Bool}(h:ρ x = .bool b):(execOp ρ ⟨dst,.unOp .not t x,ty,pos,bn,gd⟩).run P w = .ok (.value (.bool (!b))) w:=by
 simp [execOp,h,Op.unary]
theorem IA{x:Operand}{i:Nat}{vs:Array Value}{v:Value}(h:ρ x = .tuple vs)(hv:vs[i]? = some v):(execOp ρ ⟨dst,.extract x i,ty,pos,bn,gd⟩).run P w = .ok (.value v) w:=by
 simp [execOp,h,Instr.extract,hv]
theorem Rw{s:TypeId}{x:Operand}{f n:Nat}{a:Addr}{fs:Array Field}{dN:Field}(h:ρ x = .pointer (some a))(hu : ∀ w,(underlying s).run P w = .ok (.struct fs) w)(hf:fs[f]? = some dN)(hs : ∀ w,(Go.sizeOf dN.type).run P w = .ok n w)(hn:(n==0)=false):(execOp ρ ⟨dst,.fieldAddr s x f,ty,pos,bn,gd⟩).run P w = .ok (.value (.pointer (some (a.add dN.offset)))) w:=by
 have hn':n≠0:=by simpa using hn
 simp [execOp,h,Instr.fieldAt,Instr.sureAddr,fieldPlace,hu,hf,hs,hn']
theorem acN{s:TypeId}{x:Operand}{f n:Nat}{cs:Array Value}{fs:Array Field}{dN:Field}(h:ρ x = .agg cs)(hu : ∀ w,(underlying s).run P w = .ok (.struct fs) w)(hf:fs[f]? = some dN)(hg : ∀ w,(isAgg dN.type).run P w = .ok true w)(hs : ∀ w,(Go.sizeOf dN.type).run P w = .ok n w):(execOp ρ ⟨dst,.field s x f,ty,pos,bn,gd⟩).run P w = .ok (.value (.agg (cs.extract dN.offset (dN.offset+n)))) w:=by
 simp [execOp,h,Instr.field,part,asAgg,hu,hf,hs,hg]
theorem acO{s:TypeId}{x:Operand}{f:Nat}{v:Value}{cs:Array Value}{fs:Array Field}{dN:Field}(h:ρ x = .agg cs)(hu : ∀ w,(underlying s).run P w = .ok (.struct fs) w)(hf:fs[f]? = some dN)(hg : ∀ w,(isAgg dN.type).run P w = .ok false w)(hv:cs[dN.offset]? = some v):(execOp ρ ⟨dst,.field s x f,ty,pos,bn,gd⟩).run P w = .ok (.value v) w:=by
 simp [execOp,h,Instr.field,part,asAgg,hu,hf,hv,hg]
theorem run_build{t:TypeId}{ps:List (Nat×Operand)}{vs:List (Nat×Value)}{fs:Array Field}{z:Value}{places:Array (Nat×Nat)}{cs:Array Value}(h:ps.map (fun p=>(p.1,ρ p.2))=vs)(hu : ∀ w,(underlying t).run P w = .ok (.struct fs) w)(hz : ∀ w,(zeroValue t).run P w = .ok z w)(hp : ∀ w,Sem.run P (Array.mapM (fun (f:Go.Field)=>Prod.mk f.offset <$> Go.sizeOf f.type) fs) w = .ok places w)(hf:Instr.fill (places[·]?) z.cells vs=some cs):(execOp ρ ⟨dst,.build t ps.toArray,ty,pos,bn,gd⟩).run P w = .ok (.value (.agg cs)) w:=by
 have h3:List.map (fun x=>(x.fst,ρ x.snd)) ps=vs:=h;simp [execOp,Instr.build,hu,hz,hp,h3,hf]
theorem run_buildSlice{t e:TypeId}{len size:Nat}{ps:List (Nat×Operand)}{vs:List (Nat×Value)}{z:Value}{cs:Array Value}(h:ps.map (fun p=>(p.1,ρ p.2))=vs)(hu : ∀ w,(underlying t).run P w = .ok (.slice e) w)(hs : ∀ w,(Go.sizeOf e).run P w = .ok size w)(hz : ∀ w,(zeroValue e).run P w = .ok z w)(hb:Nat.ble (len*size) (2^24)=true)(h0:(len*size==0)=false)(hf:Instr.fill (fun i=>some (i*size,size)) ((Array.range (len*size)).map (z.cells[· % z.cells.size]!)) vs=some cs):(execOp ρ ⟨dst,.buildSlice t len ps.toArray,ty,pos,bn,gd⟩).run P w = .ok (.value (.slice (some ⟨w.heap.size,0,none⟩) len len)) (w.alloc (.cells cs e)):=by
 have h3:List.map (fun x=>(x.fst,ρ x.snd)) ps=vs:=h;have hb':¬ (2^24<len*size):=Nat.not_lt.2 (aho hb);have h0':¬ (len*size=0):=by simpa using h0
 simp only [Nat.reducePow] at hb';simp [execOp,Instr.buildSlice,hu,hs,hz,h3,hb',newRow] at *;rw [if_neg af];simp [hf]
theorem CO{f:FuncId}{l:List Operand}{eu:Array TypeId}{vs:List Value}(h:l.map ρ=vs)(hc : ∀ args w,Sem.run P (callFunc f args) w = .ok (.enter f args) w)(hfn:ρ (.func f) = .func (.func f) #[] #[]) :
  (execOp ρ ⟨dst,.call ⟨.value (.func f),l.toArray,eu⟩,ty,pos,bn,gd⟩).run P w = .ok (.enter f vs.toArray) w:=by
 subst h;simp [execOp,resolve,Deferred.ofValue,hfn,invoke,hc]
theorem IG{t:TypeId}{g off n:Nat}{c:Array Value}{et:TypeId}{fz:Nat×Nat}(hg : ∀ w,(isAgg t).run P w = .ok true w)(hs : ∀ w,(Go.sizeOf t).run P w = .ok n w)(hb:w.heap[g]? = some (.cells c et fz))(hn:Nat.ble (off+n) c.size=true):(loadVar t ⟨g,off,none⟩).run P w = .ok (.agg ((c.toList.drop off).take n).toArray) w:=by
 have hn':=aho hn;have hl:((c.toList.drop off).take n).length=n:=by simp;omega
 have key:=run_loadCells_list (P:=P) w ⟨g,off,none⟩ ((c.toList.drop off).take n) (fun j v hv=>by
  have hj:j<n:=by rw [<- hl];exact (ahy.1 hv).1
  have h1:(c.toList.drop off)[j]? = some v:=by rw [ahQ,if_pos hj] at hv;exact hv
  rw [aib] at h1;have e:(⟨g,off,none⟩:Addr).add j=⟨g,off+j,none⟩:=by unfold Addr.add;split <;> simp_all
  rw [e];unfold World.cell?;simp only [hb]
  simpa using h1)
 rw [hl] at key;simp [loadVar,hg,hs,key]
theorem II{t:TypeId}{g off:Nat}{c:Array Value}{et:TypeId}{fz:Nat×Nat}{v:Value}(hg : ∀ w,(isAgg t).run P w = .ok false w)(hb:w.heap[g]? = some (.cells c et fz))(hv:c[off]? = some v):(loadVar t ⟨g,off,none⟩).run P w = .ok v w:=by
 have h1:w.cell? ⟨g,off,none⟩=some v:=by unfold World.cell?;simp only [hb];simpa using hv
 simp [loadVar,hg,h1]
theorem rO{t:TypeId}{x:Operand}{g off n:Nat}{c:Array Value}{et:TypeId}{fz:Nat×Nat}(h:ρ x = .pointer (some ⟨g,off,none⟩))(hg : ∀ w,(isAgg t).run P w = .ok true w)(hs : ∀ w,(Go.sizeOf t).run P w = .ok n w)(hb:w.heap[g]? = some (.cells c et fz))(hn:Nat.ble (off+n) c.size=true):(execOp ρ ⟨dst,.load t x,ty,pos,bn,gd⟩).run P w = .ok (.value (.agg ((c.toList.drop off).take n).toArray)) w:=by
 simp [execOp,h,Instr.loadAt,Instr.sureAddr,IG hg hs hb hn]
theorem iY{t:TypeId}{x:Operand}{g off:Nat}{c:Array Value}{et:TypeId}{fz:Nat×Nat}{v:Value}(h:ρ x = .pointer (some ⟨g,off,none⟩))(hg : ∀ w,(isAgg t).run P w = .ok false w)(hb:w.heap[g]? = some (.cells c et fz))(hv:c[off]? = some v):(execOp ρ ⟨dst,.load t x,ty,pos,bn,gd⟩).run P w = .ok (.value v) w:=by
 simp [execOp,h,Instr.loadAt,Instr.sureAddr,II hg hb hv]
theorem Iz{t:TypeId}{z:Value}(hz : ∀ w,(zeroValue t).run P w = .ok z w):(execOp ρ ⟨dst,.alloc t,ty,pos,bn,gd⟩).run P w = .ok (.value (.pointer (some ⟨w.heap.size,0,none⟩))) (w.alloc (.cells z.cells t)):=by
 simp [execOp,Instr.alloc,newVar,newRow,hz]
theorem Rq{t:TypeId}{x:Operand}{v:Value}(h:ρ x=v):(execOp ρ ⟨dst,.box t x,ty,pos,bn,gd⟩).run P w = .ok (.value (.pointer (some ⟨w.heap.size,0,none⟩))) (w.alloc (.cells v.cells t)):=by
 simp [execOp,Instr.box,newVar,newRow,h]
theorem IB{op:BinOp}{t t':TypeId}{x y:Operand}{k:IntKind}{a b:Int}{v:Value}(hx:ρ x = .int k a)(hy:ρ y = .int k b)(h:(Op.intArith op k a b).run P w = .ok v w)(ho:op = .add\/op = .sub\/op = .mul) :
  (execOp ρ ⟨dst,.binOp op t x y t',ty,pos,bn,gd⟩).run P w = .ok (.value v) w:=by
 rcases ho with rfl | rfl | rfl <;> simp [execOp,hx,hy,eqGuard,binOp,h]
theorem kD{t t':TypeId}{x y:Operand}{k:IntKind}{a b c:Int}(hx:ρ x = .int k a)(hy:ρ y = .int k b)(h:k.wrap (a+b)=c):(execOp ρ ⟨dst,.binOp .add t x y t',ty,pos,bn,gd⟩).run P w = .ok (.value (.int k c)) w :=
 IB hx hy (by rw [<- h];rfl) (.inl rfl)
theorem fF{t t':TypeId}{x y:Operand}{k:IntKind}{a b c:Int}(hx:ρ x = .int k a)(hy:ρ y = .int k b)(h:k.wrap (a-b)=c):(execOp ρ ⟨dst,.binOp .sub t x y t',ty,pos,bn,gd⟩).run P w = .ok (.value (.int k c)) w :=
 IB hx hy (by rw [<- h];rfl) (.inr (.inl rfl))
theorem RD{t t':TypeId}{x y:Operand}{k:IntKind}{a b c:Int}(hx:ρ x = .int k a)(hy:ρ y = .int k b)(h:k.wrap (a*b)=c):(execOp ρ ⟨dst,.binOp .mul t x y t',ty,pos,bn,gd⟩).run P w = .ok (.value (.int k c)) w :=
 IB hx hy (by rw [<- h];rfl) (.inr (.inr rfl))
theorem uP{op:BinOp}{t t':TypeId}{x y:Operand}{k:IntKind}{a b:Int}{v:Value}(hx:ρ x = .int k a)(hy:ρ y = .int k b)(h:(Op.intCmp op a b).run P w = .ok v w)(ho:op = .lss\/op = .leq\/op = .gtr\/op = .geq\/op = .eql\/op = .neq) :
  (execOp ρ ⟨dst,.binOp op t x y t',ty,pos,bn,gd⟩).run P w = .ok (.value v) w:=by
 rcases ho with rfl | rfl | rfl | rfl | rfl | rfl <;> simp [execOp,hx,hy,eqGuard,binOp,h]
theorem rP{t t':TypeId}{x y:Operand}{k:IntKind}{a b:Int}{c:Bool}(hx:ρ x = .int k a)(hy:ρ y = .int k b)(h:decide (a<b)=c):(execOp ρ ⟨dst,.binOp .lss t x y t',ty,pos,bn,gd⟩).run P w = .ok (.value (.bool c)) w :=
 uP hx hy (by rw [<- h];rfl) (.inl rfl)
theorem rM{t t':TypeId}{x y:Operand}{k:IntKind}{a b:Int}{c:Bool}(hx:ρ x = .int k a)(hy:ρ y = .int k b)(h:decide (a<=b)=c):(execOp ρ ⟨dst,.binOp .leq t x y t',ty,pos,bn,gd⟩).run P w = .ok (.value (.bool c)) w :=
 uP hx hy (by rw [<- h];rfl) (.inr (.inl rfl))
theorem iK{t t':TypeId}{x y:Operand}{k:IntKind}{a b:Int}{c:Bool}(hx:ρ x = .int k a)(hy:ρ y = .int k b)(h:decide (a > b)=c):(execOp ρ ⟨dst,.binOp .gtr t x y t',ty,pos,bn,gd⟩).run P w = .ok (.value (.bool c)) w :=
 uP hx hy (by rw [<- h];rfl) (.inr (.inr (.inl rfl)))
theorem CP{t t':TypeId}{x y:Operand}{k:IntKind}{a b:Int}{c:Bool}(hx:ρ x = .int k a)(hy:ρ y = .int k b)(h:decide (a >= b)=c):(execOp ρ ⟨dst,.binOp .geq t x y t',ty,pos,bn,gd⟩).run P w = .ok (.value (.bool c)) w :=
 uP hx hy (by rw [<- h];rfl) (.inr (.inr (.inr (.inl rfl))))
theorem gY{t t':TypeId}{x y:Operand}{k:IntKind}{a b:Int}{c:Bool}(hx:ρ x = .int k a)(hy:ρ y = .int k b)(h:(a==b)=c):(execOp ρ ⟨dst,.binOp .eql t x y t',ty,pos,bn,gd⟩).run P w = .ok (.value (.bool c)) w :=
 uP hx hy (by rw [<- h];rfl) (.inr (.inr (.inr (.inr (.inl rfl)))))
theorem uQ{t t':TypeId}{x y:Operand}{k:IntKind}{a b:Int}{c:Bool}(hx:ρ x = .int k a)(hy:ρ y = .int k b)(h:(a != b)=c):(execOp ρ ⟨dst,.binOp .neq t x y t',ty,pos,bn,gd⟩).run P w = .ok (.value (.bool c)) w :=
 uP hx hy (by rw [<- h];rfl) (.inr (.inr (.inr (.inr (.inr rfl)))))
theorem MI{t:TypeId}{a b:Bool}(hu : ∀ w,(underlying t).run P w = .ok .bool w):(Op.equal t (.bool a) (.bool b)).run P w = .ok (a==b) w:=by
 unfold Op.equal Op.maxDepth Op.equalIn;simp [hu]
theorem acI{t t':TypeId}{x y:Operand}{a b c:Bool}(hx:ρ x = .bool a)(hy:ρ y = .bool b)(hu : ∀ w,(underlying t).run P w = .ok .bool w)(h:(a==b)=c) :
  (execOp ρ ⟨dst,.binOp .eql t x y t',ty,pos,bn,gd⟩).run P w = .ok (.value (.bool c)) w:=by
 subst h;simp [execOp,hx,hy,eqGuard,binOp,MI hu]
theorem acY{t t':TypeId}{x y:Operand}{a b c:Bool}(hx:ρ x = .bool a)(hy:ρ y = .bool b)(hu : ∀ w,(underlying t).run P w = .ok .bool w)(h:(a != b)=c) :
  (execOp ρ ⟨dst,.binOp .neq t x y t',ty,pos,bn,gd⟩).run P w = .ok (.value (.bool c)) w:=by
 subst h;simp [execOp,hx,hy,eqGuard,binOp,MI hu,bne]
theorem zq{t:TypeId}{ms:Array (String×TypeId)}{x y:Value}{c:Bool}(hu : ∀ w,(underlying t).run P w = .ok (.interface ms) w)(h:(x = .nilIface/\y = .nilIface/\c=true)\/(x = .nilIface/\(∃ t v,y = .iface t v)/\c=false)\/(y = .nilIface/\(∃ t v,x = .iface t v)/\c=false)):(Op.equal t x y).run P w = .ok c w:=by
 unfold Op.equal Op.maxDepth Op.equalIn;rcases h with ⟨rfl,rfl,rfl⟩ | ⟨rfl,⟨t,v,rfl⟩,rfl⟩ | ⟨rfl,⟨t,v,rfl⟩,rfl⟩ <;> simp [hu]
theorem acK{t t':TypeId}{x:Operand}{ms:Array (String×TypeId)}(hx:ρ x = .nilIface)(hc:ρ (.const .nilIface) = .nilIface)(hu : ∀ w,(underlying t).run P w = .ok (.interface ms) w) :
  (execOp ρ ⟨dst,.binOp .eql t x (.const .nilIface) t',ty,pos,bn,gd⟩).run P w = .ok (.value (.bool true)) w:=by
 simp [execOp,hx,hc,eqGuard,binOp,zq (P:=P) hu (.inl ⟨rfl,rfl,rfl⟩)]
theorem acJ{t t' u:TypeId}{x:Operand}{v:Value}{ms:Array (String×TypeId)}(hx:ρ x = .iface u v)(hc:ρ (.const .nilIface) = .nilIface)(hu : ∀ w,(underlying t).run P w = .ok (.interface ms) w) :
  (execOp ρ ⟨dst,.binOp .eql t x (.const .nilIface) t',ty,pos,bn,gd⟩).run P w = .ok (.value (.bool false)) w:=by
 simp [execOp,hx,hc,eqGuard,binOp,zq (P:=P) hu (.inr (.inr ⟨rfl,⟨u,v,rfl⟩,rfl⟩))]
theorem RG{t t':TypeId}{x:Operand}{ms:Array (String×TypeId)}(hx:ρ x = .nilIface)(hc:ρ (.const .nilIface) = .nilIface)(hu : ∀ w,(underlying t).run P w = .ok (.interface ms) w) :
  (execOp ρ ⟨dst,.binOp .neq t x (.const .nilIface) t',ty,pos,bn,gd⟩).run P w = .ok (.value (.bool false)) w:=by
 simp [execOp,hx,hc,eqGuard,binOp,zq (P:=P) hu (.inl ⟨rfl,rfl,rfl⟩)]
theorem RF{t t' u:TypeId}{x:Operand}{v:Value}{ms:Array (String×TypeId)}(hx:ρ x = .iface u v)(hc:ρ (.const .nilIface) = .nilIface)(hu : ∀ w,(underlying t).run P w = .ok (.interface ms) w) :
  (execOp ρ ⟨dst,.binOp .neq t x (.const .nilIface) t',ty,pos,bn,gd⟩).run P w = .ok (.value (.bool true)) w:=by
 simp [execOp,hx,hc,eqGuard,binOp,zq (P:=P) hu (.inr (.inr ⟨rfl,⟨u,v,rfl⟩,rfl⟩))]
theorem yj{t:TypeId}{x:Operand}{v:Value}(hx:ρ x=v)(h:P.concrete t=true):(execOp ρ ⟨dst,.makeInterface t x,ty,pos,bn,gd⟩).run P w = .ok (.value (.iface t v)) w:=by
 simp [execOp,hx,run_makeInterface _ _ _ h]
theorem iL{x:Operand}{t e:TypeId}{A:Option Addr}{n c:Nat}(hx:ρ x = .slice A n c)(hu : ∀ w,(underlying t).run P w = .ok (.slice e) w):(execOp ρ ⟨dst,.call ⟨.builtin .len,#[x],#[t]⟩,ty,pos,bn,gd⟩).run P w = .ok (.value (.int .i64 n)) w:=by
 simp [execOp,resolve,invoke,builtin,Builtin.len_,hx,hu,goInt]
theorem ade{x:Operand}{t:TypeId}{b:ByteArray}(hx:ρ x = .string b)(hu : ∀ w,(underlying t).run P w = .ok .string w):(execOp ρ ⟨dst,.call ⟨.builtin .len,#[x],#[t]⟩,ty,pos,bn,gd⟩).run P w = .ok (.value (.int .i64 b.size)) w:=by
 simp [execOp,resolve,invoke,builtin,Builtin.len_,hx,hu,goInt]
theorem mX{s:TypeId}{x:Operand}{f n:Nat}{a:Addr}{fs:Array Field}{dN:Field}{v:Value}(h:ρ x = .pointer (some a))(hu : ∀ w,(underlying s).run P w = .ok (.struct fs) w)(hf:fs[f]? = some dN)(hs : ∀ w,(Go.sizeOf dN.type).run P w = .ok n w)(hn:(n==0)=false)(hv:Value.pointer (some (a.add dN.offset))=v):(execOp ρ ⟨dst,.fieldAddr s x f,ty,pos,bn,gd⟩).run P w = .ok (.value v) w:=hv ▸ Rw h hu hf hs hn
theorem Rz{t:TypeId}{x:Operand}{g off n:Nat}{c:Array Value}{et:TypeId}{fz:Nat×Nat}{v:Value}(h:ρ x = .pointer (some ⟨g,off,none⟩))(hg : ∀ w,(isAgg t).run P w = .ok true w)(hs : ∀ w,(Go.sizeOf t).run P w = .ok n w)(hb:w.heap[g]? = some (.cells c et fz))(hn:Nat.ble (off+n) c.size=true)(hv:Value.agg ((c.toList.drop off).take n).toArray=v):(execOp ρ ⟨dst,.load t x,ty,pos,bn,gd⟩).run P w = .ok (.value v) w:=hv ▸ rO h hg hs hb hn
theorem acM{s:TypeId}{x:Operand}{f n:Nat}{cs:Array Value}{fs:Array Field}{dN:Field}{v:Value}(h:ρ x = .agg cs)(hu : ∀ w,(underlying s).run P w = .ok (.struct fs) w)(hf:fs[f]? = some dN)(hg : ∀ w,(isAgg dN.type).run P w = .ok true w)(hs : ∀ w,(Go.sizeOf dN.type).run P w = .ok n w)(hv:Value.agg (cs.extract dN.offset (dN.offset+n))=v):(execOp ρ ⟨dst,.field s x f,ty,pos,bn,gd⟩).run P w = .ok (.value v) w:=hv ▸ acN h hu hf hg hs
def wr:List Value->Nat->List Value->List Value
 | vs,_,[]=>vs
 | vs,off,v::l=>wr (vs.set off v) (off+1) l
theorem CQ(g off:Nat){t:TypeId} : ∀ (l:List Value) (i:Nat) (w:World) (vs:List Value),w.heap[g]? = some (.cells vs.toArray t (0,0))->off+i+l.length<=vs.length->(∀ v∈l,v.oneCell'=true) ->
  ∃ w',(storeCells ⟨g,off,none⟩ l i).run P w = .ok () w'/\w'.os=w.os/\w'.tape=w.tape/\w'.output=w.output/\w'.heap.size=w.heap.size/\(∀ k,k≠g->w'.heap[k]? = w.heap[k]?)/\w'.heap[g]? = some (.cells (wr vs (off+i) l).toArray t (0,0))
 | [],i,w,vs,hb,_,_=>⟨w,by simp [storeCells],rfl,rfl,rfl,rfl,fun _ _=>rfl,hb⟩
 | v::l,i,w,vs,hb,hl,h1=>by
  simp only [List.length_cons] at hl;have e:(⟨g,off,none⟩:Addr).add i=⟨g,off+i,none⟩:=by unfold Addr.add;split <;> simp_all
  have hlt:off+i<vs.length:=af;have hc:w.cell? ⟨g,off+i,none⟩=some vs[off+i]:=by unfold World.cell?;simp only [hb];simp [hlt]
  have hf:w.frozen? ⟨g,off+i,none⟩=false:=by unfold World.frozen?;simp [hb]
  have hb':(w.setCell ⟨g,off+i,none⟩ v).heap[g]? = some (.cells (vs.set (off+i) v).toArray t (0,0)):=by
   simp only [World.setCell,aip,if_true,hb,Option.map_some];simp
  obtain ⟨w',r1,r2,r3,r4,r5,r6,r7⟩:=CQ g off l (i+1) (w.setCell ⟨g,off+i,none⟩ v) (vs.set (off+i) v) hb' (by simp;omega) (fun u hu=>h1 u (.tail _ hu));refine ⟨w',?_,r2,r3,r4,by rw [r5];simp,fun k hk=>(r6 k hk).trans (Below.heap_setCell w _ _ k hk),by rw [r7];rfl⟩;simp [storeCells,e,run_store P w _ v _ (h1 v ak),hc,hf,r1]
theorem adb{t et:TypeId}{g off n:Nat}{v:Value}{vs:List Value}(hs : ∀ w,(Go.sizeOf t).run P w = .ok n w)(hn:Nat.beq v.cells.size n=true)(hb:w.heap[g]? = some (.cells vs.toArray et (0,0)))(hfit:Nat.ble (off+n) vs.length=true)(h1:v.cells.toList.all Value.oneCell'=true) :
  ∃ w',(storeVar t ⟨g,off,none⟩ v).run P w = .ok () w'/\w'.os=w.os/\w'.tape=w.tape/\w'.output=w.output/\w'.heap.size=w.heap.size/\(∀ k,k≠g->w'.heap[k]? = w.heap[k]?)/\w'.heap[g]? = some (.cells (wr vs off v.cells.toList).toArray et (0,0)):=by
 have hn':=ahm hn;have hf':=aho hfit;obtain ⟨w',r1,r2⟩:=CQ (P:=P) g off v.cells.toList 0 w vs hb (by simp;omega) (fun u hu=>ahK.1 h1 u hu);refine ⟨w',?_,r2⟩;simp [storeVar,hs,hn',r1]
theorem CS{t et:TypeId}{x y:Operand}{g off n:Nat}{v:Value}{vs:List Value}(hx:ρ x = .pointer (some ⟨g,off,none⟩))(hy:ρ y=v)(hs : ∀ w,(Go.sizeOf t).run P w = .ok n w)(hn:Nat.beq v.cells.size n=true)(hb:w.heap[g]? = some (.cells vs.toArray et (0,0)))(hfit:Nat.ble (off+n) vs.length=true)(h1:v.cells.toList.all Value.oneCell'=true) :
  ∃ w',(execOp ρ ⟨dst,.store t x y,ty,pos,bn,gd⟩).run P w = .ok .skip w'/\w'.os=w.os/\w'.tape=w.tape/\w'.output=w.output/\w'.heap.size=w.heap.size/\(∀ k,k≠g->w'.heap[k]? = w.heap[k]?)/\w'.heap[g]? = some (.cells (wr vs off v.cells.toList).toArray et (0,0)):=by
 obtain ⟨w',r1,r2⟩:=adb (P:=P) hs hn hb hfit h1;exact ⟨w',by simp [execOp,hx,hy,Instr.storeAt,Instr.sureAddr,r1],r2⟩
end
def mO(P:Program)(o:Oper)(a:Act)(w:World)(K:Act->World->Prop):Prop:=match (execOp a.eval o).run P w with
 | .ok (.value v) w'=>K (a.put o.dst v) w'
 | .ok .skip w'=>K (a.put o.dst undef) w'
 | .ok (.enter f args) w'=>Calls P f args w' fun
   | .returned v,w''=>K (a.put o.dst v) w''
   | _,_=>False
 | _=>False
def mL(P:Program)(ops:Array Oper)(Q:Exit->Act->World->Prop):List Oper->Act->World->Prop
 | [],a,w=>Q .normal a w
 | o::rest,a,w=>if Region.wanted o (yielded ops a.tmps) then mO P o a w (mL P ops Q rest) else mL P ops Q rest (a.put o.dst undef) w
def eH(P:Program)(ops:Array Oper)(i:Nat)(K:Act->World->Prop)(a:Act)(w:World):Prop:=match ops[i]? with
 | none=>K a w
 | some o=>if Region.wanted o (yielded ops a.tmps) then mO P o a w K else K (a.put o.dst undef) w
def Fr(r:Option Nat):Fence := { Fence.wide with round:=r }
section
variable {P:Program} {ops:Array Oper} {Q:Exit->Act->World->Prop} {r:Option Nat}
theorem Wi{f:FuncId}{args:Array Value}{w:World}{R:Ending->World->Prop}(n:Nat)(h:Calls P f args w R):CallsIn (Fr r) n P f args w R:=by
 cases r with
 | none=>exact callsIn_wide.2 h
 | some l=>exact (show CallsIn Fence.wide n P f args w R from callsIn_wide.2 h)
theorem Jz{c:Code}{Q Q':Exit->Act->World->Prop}{a:Act}{w:World}(hq : ∀ e a w,Q e a w->Q' e a w)(h:c.wpIn (Fr r) 0 P Q a w):c.wpIn (Fr r) 0 P Q' a w:=wpIn_mono h hq
theorem PI{o:Oper}{a:Act}{w:World}{K K':Act->World->Prop}(h : ∀ a w,K a w->K' a w)(hh:mO P o a w K):mO P o a w K':=by
 unfold mO at *;generalize (execOp a.eval o).run P w=x at *
 cases x with
 | ok n w' =>
  cases n with
  | value v=>exact h _ _ hh
  | skip=>exact h _ _ hh
  | enter f args =>
   refine Calls.mono hh fun e w'' he => ?_
   cases e <;> first | exact h _ _ he | exact he
  | _=>exact hh
 | halt _ _=>exact hh
theorem PM{i:Nat}{a:Act}{w:World}{K K':Act->World->Prop}(h : ∀ a w,K a w->K' a w)(hh:eH P ops i K a w):eH P ops i K' a w:=by
 unfold eH at *
 split
 ·rename_i h1;simp only [h1] at hh;exact h _ _ hh
 ·rename_i o h1
  simp only [h1] at hh
  split at hh
  ·rename_i h2;rw [if_pos h2];exact PI h hh
  ·rename_i h2;rw [if_neg h2];exact h _ _ hh
theorem GR{o:Oper}{a:Act}{w:World}{K:Act->World->Prop}(h:mO P o a w K):o.wpIn (Fr r) 0 P a w K Q:=by
 have hs:(o.semAt (Fr r).round a.eval).run P w=(execOp a.eval o).run P w:=by
  cases r with
  | none=>rfl
  | some l =>
   by_cases hd : ∃ c,o.op = .defer c
   ·obtain ⟨c,hc⟩:=hd
    exfalso;unfold mO at h;simp only [execOp,hc] at h;simp only [Sem.run_bind,Sem.run_pure] at h;generalize (resolve a.eval c o.type).run P w=x at h
    cases x <;> simp [Result.andThen] at h
   ·rw [Oper.semAt_eq _ _ _ (fun c hc=>hd ⟨c,hc⟩)]
 refine ⟨fun _ _=>trivial,?_⟩;rw [hs];unfold mO at h;generalize (execOp a.eval o).run P w=x at *
 cases x with
 | ok n w' =>
  cases n with
  | value v=>exact h
  | skip=>exact h
  | enter f args =>
   refine ⟨fun hh=>(by cases hh),Wi _ (Calls.mono h fun e w'' he => ?_)⟩
   cases e <;> first | exact he | exact he.elim
  | _=>exact h.elim
 | halt y _=>cases y <;> exact h.elim
theorem Ar : ∀ {l:List Oper} {a:Act} {w:World},mL P ops Q l a w->wpListIn (Fr r) 0 P ops Q l a w
 | [],_,_,h=>h
 | o::l,a,w,h=>by
  unfold mL at h;unfold wpListIn
  split at h
  ·rename_i h1;rw [if_pos h1];exact GR (PI (fun _ _=>Ar) h)
  ·rename_i h1;rw [if_neg h1];exact ⟨fun _ _=>trivial,Ar h⟩
theorem PK{i:Nat}{a:Act}{w:World}{K:Act->World->Prop}(h:eH P ops i K a w):wpOpIn (Fr r) 0 P ops Q i K a w:=by
 unfold eH at h;unfold wpOpIn
 split
 ·rename_i h1;simp only [h1] at h;exact h
 ·rename_i o h1
  simp only [h1] at h
  split at h
  ·rename_i h2;rw [if_pos h2];exact GR h
  ·rename_i h2;rw [if_neg h2];exact ⟨fun _ _=>trivial,h⟩
theorem YieldsIf.eH{S:World->Prop}{i:Nat}{o:Oper}{v:Value}{a:Act}(hi:ops[i]? = some o)(hy:YieldsIf P ops S o v a){K:Act->World->Prop}{w:World}(hS:S w)(h:K (a.put o.dst v) w):bJ.eH P ops i K a w:=by
 unfold bJ.eH;simp only [hi];rcases hy with ⟨hw,hv⟩ | ⟨hw,rfl⟩
 ·simp only [hw,if_true,mO,hv w hS];exact h
 ·simp only [hw,Bool.false_eq_true,if_false];exact h
theorem aac{S:World->Prop}{j:Nat}{oi oj:Oper}{v:Value}(hj:ops[j]? = some oj)(hap:oi.apart ops oj=true)(hsi : ∀ cs b,oi.op ≠ .select cs b)(hsj : ∀ cs b,oj.op ≠ .select cs b){K:Act->World->Prop}{a:Act}{w:World}(hy:YieldsIf P ops S oi v a)(h:eH P ops j K (a.put oi.dst v) w):eH P ops j (fun a' w'=>YieldsIf P ops S oi v a'/\K (a'.put oi.dst v) w') a w:=by
 obtain ⟨h1,h2,h3⟩:=Oper.apart_spec hap
 have keep : ∀ (a:Act),YieldsIf P ops S oi v a -> ∀ u,YieldsIf P ops S oi v (a.put oj.dst u):=fun a hy u =>
  hy.of_same (execOp_put oi hsi a oj.dst u h3) (wanted_put oi a oj.dst u h3)
 unfold eH at *;simp only [hj] at *;rw [wanted_put oj a oi.dst v h1] at h
 split
 ·rename_i hw
  simp only [hw,if_true] at h;unfold mO at *;rw [execOp_put oj hsj a oi.dst v h1] at h;generalize (execOp a.eval oj).run P w=x at *
  cases x with
  | ok n w' =>
   cases n with
   | value u=>exact ⟨keep a hy u,(Act.put_comm a v u h2) ▸ h⟩
   | skip=>exact ⟨keep a hy _,by rw [<- Act.put_comm a v undef h2];exact h⟩
   | enter f args =>
    refine Calls.mono h fun e w'' he => ?_
    cases e <;> first | exact ⟨keep a hy _,by rw [<- Act.put_comm a v _ h2];exact he⟩ | exact he.elim
   | _=>exact h.elim
  | halt _ _=>exact h
 ·rename_i hw
  simp only [hw] at h;exact ⟨keep a hy _,by rw [<- Act.put_comm a v undef h2];exact h⟩
end
section
variable {ds:List Deferred} {r:Option Nat}
variable {P:Program} {ops:Array Oper} {Q:Exit->Act->World->Prop} {N:Nat} {T:List (Nat×Value)} {W0 w w':World} {U:List Box} {Ps:List (World->Prop)}
def JL(ds:List Deferred)(P:Program)(ops:Array Oper)(Q:Exit->Act->World->Prop)(l:List Oper)(N:Nat)(T:List (Nat×Value))(w:World):Prop := ∀ a,Kn ds a N T->mL P ops Q l a w
def JC(r:Option Nat)(ds:List Deferred)(P:Program)(c:Code)(Q:Exit->Act->World->Prop)(N:Nat)(T:List (Nat×Value))(w:World):Prop := ∀ a,Kn ds a N T->c.wpIn (Fr r) 0 P Q a w
variable {o:Oper} {rest:List Oper} {d:Nat} {v:Value}
theorem JL.val(hg:o.guard=none)(hd:o.dst=some d)(hN:Nat.ble (d+1) N=true)(hrun : ∀ a,Kn ds a N T->(execOp a.eval o).run P w = .ok (.value v) w')(h:JL ds P ops Q rest N ((d,v)::T) w'):JL ds P ops Q (o::rest) N T w:=by
 intro a ha;unfold mL;rw [if_pos (by simp [Region.wanted,hg])];unfold mO;rw [hrun a ha];show mL P ops Q rest (a.put o.dst v) w';rw [hd];exact h _ (ha.put hN v)
theorem JL.pass{j:Nat}{want b:Bool}{oj:Oper}{t:Nat}(hg:o.guard=some (j,want))(hd:o.dst=some d)(hN:Nat.ble (d+1) N=true)(hj:ops[j]? = some oj)(hdj:oj.dst=some t)(dW:Nat.ble (t+1) N=true)(hv:bM T t=some (.bool b))(hb:(b==want)=false)(h:JL ds P ops Q rest N ((d,undef)::T) w):JL ds P ops Q (o::rest) N T w:=by
 intro a ha
 have hy:yielded ops a.tmps j=some b:=by
  have h1:=ha.2.2 t _ hv;have h2:t<a.tmps.size:=by rw [ha.2.1];exact aho dW
  unfold yielded;rw [hj,ah9,hdj,ah9];rw [aix,ahH h2,ai3] at h1;rw [ahH h2,h1]
 unfold mL;rw [if_neg (by simp [Region.wanted,hg,hy];cases b <;> cases want <;> simp_all)];rw [hd];exact h _ (ha.put hN undef)
theorem JL.Dn{j:Nat}{want:Bool}{oj:Oper}{t:Nat}(hg:o.guard=some (j,want))(hd:o.dst=some d)(hN:Nat.ble (d+1) N=true)(hj:ops[j]? = some oj)(hdj:oj.dst=some t)(dW:Nat.ble (t+1) N=true)(hv:bM T t=some (.bool want))(hrun : ∀ a,Kn ds a N T->(execOp a.eval o).run P w = .ok (.value v) w')(h:JL ds P ops Q rest N ((d,v)::T) w'):JL ds P ops Q (o::rest) N T w:=by
 intro a ha
 have hy:yielded ops a.tmps j=some want:=by
  have h1:=ha.2.2 t _ hv;have h2:t<a.tmps.size:=by rw [ha.2.1];exact aho dW
  unfold yielded;rw [hj,ah9,hdj,ah9];rw [aix,ahH h2,ai3] at h1;rw [ahH h2,h1]
 unfold mL;rw [if_pos (by simp [Region.wanted,hg,hy])];unfold mO;rw [hrun a ha];show mL P ops Q rest (a.put o.dst v) w';rw [hd];exact h _ (ha.put hN v)
theorem JL.alloc{t:TypeId}{z:Value}{vs:List Value}{ty:TypeId}{pos:String}{bn:Array Edge}(HS:St W0 U Ps w)(hN:Nat.ble (d+1) N=true)(hz : ∀ w,(zeroValue t).run P w = .ok z w)(hvs:z.cells.toList=vs)(hs:vs.all dO=true)(h : ∀ g w',St W0 (⟨g,t,vs⟩::U) Ps w'->JL ds P ops Q rest N ((d,.pointer (some ⟨g,0,none⟩))::T) w'):JL ds P ops Q (⟨some d,.alloc t,ty,pos,bn,none⟩::rest) N T w:=by
 subst hvs;have h2:=HS.alloc t z.cells.toList hs;rw [Array.toArray_toList] at h2;exact JL.val rfl rfl hN (fun a _=>Iz hz) (h _ _ h2)
theorem JL.box{t:TypeId}{x:Operand}{vs:List Value}{ty:TypeId}{pos:String}{bn:Array Edge}(HS:St W0 U Ps w)(hN:Nat.ble (d+1) N=true)(hx:ev T x=some v)(hvs:v.cells.toList=vs)(hs:vs.all dO=true)(h : ∀ g w',St W0 (⟨g,t,vs⟩::U) Ps w'->JL ds P ops Q rest N ((d,.pointer (some ⟨g,0,none⟩))::T) w'):JL ds P ops Q (⟨some d,.box t x,ty,pos,bn,none⟩::rest) N T w:=by
 subst hvs;have h2:=HS.alloc t v.cells.toList hs;rw [Array.toArray_toList] at h2;exact JL.val rfl rfl hN (fun a ha=>Rq (ha.ev hx)) (h _ _ h2)
theorem JL.buildSlice{t e:TypeId}{len size:Nat}{l:List (Nat×Operand)}{ps:List (Nat×Value)}{z:Value}{vs:List Value}{ty:TypeId}{pos:String}{bn:Array Edge}(HS:St W0 U Ps w)(hN:Nat.ble (d+1) N=true)(hl : ∀ a,Kn ds a N T->l.map (fun p=>(p.1,a.eval p.2))=ps)(hu : ∀ w,(underlying t).run P w = .ok (.slice e) w)(hs : ∀ w,(Go.sizeOf e).run P w = .ok size w)(hz : ∀ w,(zeroValue e).run P w = .ok z w)(hb:Nat.ble (len*size) (2^24)=true)(h0:(len*size==0)=false)(hf:Instr.fill (fun i=>some (i*size,size)) ((Array.range (len*size)).map (z.cells[· % z.cells.size]!)) ps=some vs.toArray)(iq:vs.all dO=true)(h : ∀ g w',St W0 (⟨g,e,vs⟩::U) Ps w'->JL ds P ops Q rest N ((d,.slice (some ⟨g,0,none⟩) len len)::T) w'):JL ds P ops Q (⟨some d,.buildSlice t len l.toArray,ty,pos,bn,none⟩::rest) N T w :=
 JL.val rfl rfl hN (fun a ha=>run_buildSlice (hl a ha) hu hs hz hb h0 hf) (h _ _ (HS.alloc e vs iq))
theorem JL.load{t et:TypeId}{x:Operand}{g off n:Nat}{vs:List Value}{ty:TypeId}{pos:String}{bn:Array Edge}(v:Value)(HS:St W0 U Ps w)(i:Nat)(hN:Nat.ble (d+1) N=true)(hx:ev T x=some (.pointer (some ⟨g,off,none⟩)))(hi:U[i]? = some ⟨g,et,vs⟩)(hg : ∀ w,(isAgg t).run P w = .ok true w)(hs : ∀ w,(Go.sizeOf t).run P w = .ok n w)(hn:Nat.ble (off+n) vs.length=true)(hv:Value.agg ((vs.drop off).take n).toArray=v)(h:JL ds P ops Q rest N ((d,v)::T) w):JL ds P ops Q (⟨some d,.load t x,ty,pos,bn,none⟩::rest) N T w:=by
 subst hv;exact JL.val rfl rfl hN (fun a ha=>rO (ha.ev hx) hg hs (HS.box _ (ahq hi)) (by simpa using hn)) h
theorem JL.uz{t et:TypeId}{x:Operand}{g off:Nat}{vs:List Value}{ty:TypeId}{pos:String}{bn:Array Edge}(v:Value)(HS:St W0 U Ps w)(i:Nat)(hN:Nat.ble (d+1) N=true)(hx:ev T x=some (.pointer (some ⟨g,off,none⟩)))(hi:U[i]? = some ⟨g,et,vs⟩)(hg : ∀ w,(isAgg t).run P w = .ok false w)(hv:vs[off]? = some v)(h:JL ds P ops Q rest N ((d,v)::T) w):JL ds P ops Q (⟨some d,.load t x,ty,pos,bn,none⟩::rest) N T w :=
 JL.val rfl rfl hN (fun a ha=>iY (ha.ev hx) hg (HS.box _ (ahq hi)) (by simpa using hv)) h
theorem JL.fieldAddr{s:TypeId}{x:Operand}{f n:Nat}{a:Addr}{fs:Array Field}{dN:Field}{ty:TypeId}{pos:String}{bn:Array Edge}(v:Value)(hN:Nat.ble (d+1) N=true)(hx:ev T x=some (.pointer (some a)))(hu : ∀ w,(underlying s).run P w = .ok (.struct fs) w)(hf:fs[f]? = some dN)(hs : ∀ w,(Go.sizeOf dN.type).run P w = .ok n w)(hn:(n==0)=false)(hv:Value.pointer (some (a.add dN.offset))=v)(h:JL ds P ops Q rest N ((d,v)::T) w):JL ds P ops Q (⟨some d,.fieldAddr s x f,ty,pos,bn,none⟩::rest) N T w:=by
 subst hv;exact JL.val rfl rfl hN (fun a ha=>Rw (ha.ev hx) hu hf hs hn) h
theorem JL.store{t et:TypeId}{x y:Operand}{g off n i:Nat}{vs vs':List Value}{ty:TypeId}{pos:String}{bn:Array Edge}(HS:St W0 U Ps w)(hx:ev T x=some (.pointer (some ⟨g,off,none⟩)))(hy:ev T y=some v)(hi:U[i]? = some ⟨g,et,vs⟩)(hs : ∀ w,(Go.sizeOf t).run P w = .ok n w)(hn:Nat.beq v.cells.size n=true)(hfit:Nat.ble (off+n) vs.length=true)(h1:v.cells.toList.all Value.oneCell'=true)(hw:wr vs off v.cells.toList=vs')(iq:vs'.all dO=true)(h : ∀ w',St W0 (U.set i ⟨g,et,vs'⟩) Ps w'->JL ds P ops Q rest N T w'):JL ds P ops Q (⟨none,.store t x y,ty,pos,bn,none⟩::rest) N T w:=by
 subst hw;intro a ha;obtain ⟨w',r1,r2,r3,r4,r5,r6,r7⟩:=CS (P:=P) (dst:=none) (ty:=ty) (pos:=pos) (bn:=bn) (gd:=none) (ha.ev hx) (ha.ev hy) hs hn (HS.box _ (ahq hi)) hfit h1;unfold mL;rw [if_pos (show Region.wanted _ _=true from rfl)];unfold mO;rw [r1];exact h w' (HS.write i hi iq r2 r3 r4 r5 r6 r7) _ ha
def bP(P:Program)(f:FuncId)(vs:List Value)(w:World)(R:Value->World->Prop):Prop:=Calls P f vs.toArray w fun e w' => ∃ v,e = .returned v/\R v w'
theorem JL.call{f:FuncId}{l:List Operand}{eu:Array TypeId}{vs:List Value}{R:Value->World->Prop}{ty:TypeId}{pos:String}{bn:Array Edge}(hN:Nat.ble (d+1) N=true)(hl:evs T l=some vs)(hc : ∀ args w,Sem.run P (callFunc f args) w = .ok (.enter f args) w)(hcall:bP P f vs w R)(h : ∀ v w',R v w'->JL ds P ops Q rest N ((d,v)::T) w'):JL ds P ops Q (⟨some d,.call ⟨.value (.func f),l.toArray,eu⟩,ty,pos,bn,none⟩::rest) N T w:=by
 intro a ha;unfold mL;rw [if_pos (show Region.wanted _ _=true from rfl)];unfold mO;rw [CO (ha.evs hl) hc rfl];refine Calls.mono hcall fun e w' he => ?_;obtain ⟨v,rfl,hR⟩:=he;exact h v w' hR _ (ha.put hN v)
theorem JL.iH{f:FuncId}{l:List Operand}{eu:Array TypeId}{vs:List Value}{R:Value->World->Prop}{ty:TypeId}{pos:String}{bn:Array Edge}{j:Nat}{want:Bool}{oj:Oper}{t:Nat}(hN:Nat.ble (d+1) N=true)(hj:ops[j]? = some oj)(hdj:oj.dst=some t)(dW:Nat.ble (t+1) N=true)(hv:bM T t=some (.bool want))(hl:evs T l=some vs)(hc : ∀ args w,Sem.run P (callFunc f args) w = .ok (.enter f args) w)(hcall:bP P f vs w R)(h : ∀ v w',R v w'->JL ds P ops Q rest N ((d,v)::T) w'):JL ds P ops Q (⟨some d,.call ⟨.value (.func f),l.toArray,eu⟩,ty,pos,bn,some (j,want)⟩::rest) N T w:=by
 intro a ha
 have hy:yielded ops a.tmps j=some want:=by
  have h1:=ha.2.2 t _ hv;have h2:t<a.tmps.size:=by rw [ha.2.1];exact aho dW
  unfold yielded;rw [hj,ah9,hdj,ah9];rw [aix,ahH h2,ai3] at h1;rw [ahH h2,h1]
 unfold mL;rw [if_pos (show Region.wanted _ _=true by simp [Region.wanted,hy])];unfold mO;rw [CO (ha.evs hl) hc rfl];refine Calls.mono hcall fun e w' he => ?_;obtain ⟨v,rfl,hR⟩:=he;exact h v w' hR _ (ha.put hN v)
theorem JL.nil(h : ∀ a,Kn ds a N T->Q .normal a w):JL ds P ops Q [] N T w:=h
theorem JL.next{c:Code}{T':List (Nat×Value)}(hT : ∀ t v,bM T' t=some v->bM T t=some v)(h:JC r ds P c Q N T' w):JL ds P ops (Exit.then (c.wpIn (Fr r) 0 P Q) Q) [] N T w:=fun a ha=>h a (ha.sub hT)
theorem JC.sub{c:Code}{T':List (Nat×Value)}(hT : ∀ t v,bM T' t=some v->bM T t=some v)(h:JC r ds P c Q N T' w):JC r ds P c Q N T w:=fun a ha=>h a (ha.sub hT)
theorem qo : ∀ t v,bM [] t=some v->bM T t=some v:=fun _ _ h=>by cases h
theorem gG{T':List (Nat×Value)}{k:Nat}{u:Value}(h:bM T k=some u)(hs : ∀ t v,bM T' t=some v->bM T t=some v) : ∀ t v,bM ((k,u)::T') t=some v->bM T t=some v:=fun t v hv=>by
 unfold bM at hv
 cases hb:Nat.beq k t with
 | true =>
  rw [hb] at hv;obtain rfl:=Option.some.inj hv;obtain rfl:=ahm hb;exact h
 | false=>rw [hb] at hv;exact hs t v hv
theorem JC.region{id:Nat}{l:List Oper}(h:JL ds P l.toArray Q l N T w):JC r ds P (.region id l.toArray false) Q N T w:=fun a ha=>wpIn_region_lit (Ar (h a ha))
theorem JC.seq{x y:Code}(h:JC r ds P x (Exit.then (y.wpIn (Fr r) 0 P Q) Q) N T w):JC r ds P (.seq x y) Q N T w:=fun a ha=>wpIn_seq (h a ha)
theorem JC.skip(h : ∀ a,Kn ds a N T->Q .normal a w):JC r ds P .skip Q N T w:=fun a ha=>wpIn_skip (h a ha)
theorem JC.block{id:Nat}{c:Code}(h:JC r ds P c (Exit.inBlock id Q) N T w):JC r ds P (.block id c) Q N T w:=fun a ha=>wpIn_block (h a ha)
theorem JC.cond{c:Operand}{x y:Code}{b:Bool}(hc:ev T c=some (.bool b))(ht:b=true->JC r ds P x Q N T w)(hf:b=false->JC r ds P y Q N T w):JC r ds P (.cond c x y) Q N T w:=fun a ha =>
 wpIn_cond_split (ha.ev hc) (fun hb=>ht hb a ha) (fun hb=>hf hb a ha)
theorem JC.dh{c:Operand}{x y:Code}(hc:ev T c=some (.bool true))(h:JC r ds P x Q N T w):JC r ds P (.cond c x y) Q N T w:=fun a ha=>wpIn_cond_true (ha.ev hc) (h a ha)
theorem JC.cO{c:Operand}{x y:Code}(hc:ev T c=some (.bool false))(h:JC r ds P y Q N T w):JC r ds P (.cond c x y) Q N T w:=fun a ha=>wpIn_cond_false (ha.ev hc) (h a ha)
theorem JC.ret(h : ∀ a,Kn ds a N T->Q .ret a w):JC r ds P .ret Q N T w:=fun a ha=>wpIn_ret (h a ha)
theorem yh{K:Act->World->Prop}{a:Act}(h:Q .ret a w):Exit.then K Q .ret a w:=h
theorem yg{id:Nat}{a:Act}(h:Q .ret a w):Exit.inBlock id Q .ret a w:=h
inductive RV(P:Program)(N:Nat)(T:List (Nat×Value))(w:World):ResultVar->Value->Prop where
 | tmp {t:Nat} {v:Value} (h:bM T t=some v):RV P N T w (.tmp t) v
 | agg {p g off n:Nat} {t et:TypeId} {c:Array Value} {fz:Nat×Nat} (h:bM T p=some (.pointer (some ⟨g,off,none⟩))) (hg : ∀ w,(isAgg t).run P w = .ok true w) (hs : ∀ w,(Go.sizeOf t).run P w = .ok n w) (hb:w.heap[g]? = some (.cells c et fz))
   (hn:Nat.ble (off+n) c.size=true) {v:Value} (hv:Value.agg ((c.toList.drop off).take n).toArray=v):RV P N T w (.cell p t) v
 | one {p g off:Nat} {t et:TypeId} {c:Array Value} {fz:Nat×Nat} {v:Value} (h:bM T p=some (.pointer (some ⟨g,off,none⟩))) (hg : ∀ w,(isAgg t).run P w = .ok false w) (hb:w.heap[g]? = some (.cells c et fz)) (hv:c[off]? = some v):RV P N T w (.cell p t) v
def jQ(a:Act):ResultVar->Sem Value:=fun
 | .tmp t=>pure (a.tmps.getD t undef)
 | .cell p t=>do loadVar t (<- asAddr (a.tmps.getD p undef))
theorem RV.run{r:ResultVar}(h:RV P N T w r v){a:Act}(ha:Kn ds a N T):(jQ a r).run P w = .ok v w:=by
 unfold jQ
 cases h with
 | tmp h=>simp only [ha.2.2 _ _ h,Sem.run_pure]
 | agg h hg hs hb hn hv =>
  subst hv;simp only [ha.2.2 _ _ h,asAddr,Sem.run_bind,Sem.run_pure,Result.andThen_ok,IG hg hs hb hn]
 | one h hg hb hv=>simp only [ha.2.2 _ _ h,asAddr,Sem.run_bind,Sem.run_pure,Result.andThen_ok,II hg hb hv]
theorem Q8{fn:Func}{R:Ending->World->Prop}{r:ResultVar}{a:Act}(ha:Kn [] a N T)(hr:fn.results = #[r])(h:RV P N T w r v)(hR:R (.returned v) w):bodyPost P fn R .ret a w:=by
 have key : ∀ (F:ResultVar->Sem Value),(F r).run P w = .ok v w->(do let vs <- #[r].mapM F;pure (if h:vs.size=1 then vs[0] else .tuple vs):Sem Value).run P w = .ok v w:=by
  intro F h1;simp [h1]
 refine ⟨ha.1,v,?_,hR⟩;unfold results;rw [hr];exact key (jQ a) (h.run ha)
theorem Cm{fn:Func}{R:Ending->World->Prop}{r r':ResultVar}{v':Value}{a:Act}(ha:Kn [] a N T)(hr:fn.results = #[r,r'])(h:RV P N T w r v)(h':RV P N T w r' v')(hR:R (.returned (.tuple #[v,v'])) w):bodyPost P fn R .ret a w:=by
 have key : ∀ (F:ResultVar->Sem Value),(F r).run P w = .ok v w->(F r').run P w = .ok v' w->(do let vs <- #[r,r'].mapM F;pure (if h:vs.size=1 then vs[0] else .tuple vs):Sem Value).run P w = .ok (.tuple #[v,v']) w:=by
  intro F h1 h2;simp [h1,h2]
 refine ⟨ha.1,_,?_,hR⟩;unfold results;rw [hr];exact key (jQ a) (h.run ha) (h'.run ha)
theorem enter{f:FuncId}{fn:Func}{c:Code}{vs:List Value}{R:Value->World->Prop}(hf:P.funcs[f]? = some fn)(hb:fn.body=some c)(hn:fn.ntmps=N)(hl:Nat.ble vs.length N=true)(hT : ∀ t v,bM T t=some v->vs[t]? = some v)(h:JC none [] P c (bodyPost P fn (fun e w' => ∃ v,e = .returned v/\R v w')) N T w):bP P f vs w R:=by
 refine calls_of_wp hf hb ((wpIn_wide (n:=0)).1 (h _ ⟨rfl,?_,fun t v hv => ?_⟩))
 ·have:=aho hl
  simp [hn];omega
 ·have h1:=hT t v hv
  have h2:=(ahy.1 h1).1;have h3:=(ahy.1 h1).2;simp [ajd,h2,h3]
def args:Nat->List Value->List (Nat×Value)
 | _,[]=>[]
 | i,v::l=>(i,v)::args (i+1) l
theorem Ai : ∀ {l:List Value} {i t:Nat} {v:Value},bM (args i l) t=some v -> ∃ j,t=i+j/\l[j]? = some v
 | [],_,_,_,h=>by cases h
 | u::l,i,t,v,h=>by
  unfold args bM at h
  cases hb:Nat.beq i t with
  | true=>rw [hb] at h;exact ⟨0,(ahm hb).symm,h⟩
  | false =>
   rw [hb] at h;obtain ⟨j,h1,h2⟩:=Ai h;exact ⟨j+1,af,h2⟩
theorem fD{f:FuncId}{fn:Func}{c:Code}{vs:List Value}{R:Value->World->Prop}(hf:P.funcs[f]? = some fn)(hb:fn.body=some c)(hn:fn.ntmps=N)(hl:Nat.ble vs.length N=true)(h:JC none [] P c (bodyPost P fn (fun e w' => ∃ v,e = .returned v/\R v w')) N (args 0 vs) w):bP P f vs w R :=
 enter hf hb hn hl (fun t v ht=>by obtain ⟨j,h1,h2⟩:=Ai ht;rw [ahC] at h1;rw [h1];exact h2) h
end
section
variable {ds:List Deferred} {r:Option Nat}
variable {P:Program} {ops:Array Oper} {Q:Exit->Act->World->Prop} {late:List Nat} {S:World->Prop} {N:Nat} {T:List (Nat×Value)} {W0 w w':World} {U:List Box} {Ps:List (World->Prop)}
def bY(late:List Nat)(listed:Array Bool):Prop := ∀ s∈late,listed.getD s false=false
def vC(P:Program)(ops:Array Oper)(Q:Exit->Act->World->Prop)(late:List Nat)(S:World->Prop):Nat->Array Bool->Act->World->Prop
 | 0,listed,a,w=>Region.ready .any ops listed=[]/\Q .normal a w
 | fuel+1,listed,a,w =>
  (Region.ready .any ops listed=[]->Q .normal a w) /\
  ∀ i∈Region.ready .any ops listed,eH P ops i (fun a' w'=>(bY late (listed.setIfInBounds i true)->S w')/\vC P ops Q late S fuel (listed.setIfInBounds i true) a' w') a w
theorem Dx : ∀ (fuel:Nat) (listed:Array Bool) (a:Act) (w:World),vC P ops Q late S fuel listed a w->wpAnyIn (Fr r) 0 P .any ops Q fuel listed a w
 | 0,_,_,_,h=>h
 | fuel+1,_,_,_,h=>⟨h.1,fun i hi=>PK (PM (fun a' w' h'=>Dx fuel _ a' w' h'.2) (h.2 i hi))⟩
theorem Fq{listed:Array Bool}{i s:Nat}(hne:s≠i):(listed.setIfInBounds i true).getD s false=listed.getD s false:=getD_set_ne false (Ne.symm hne)
theorem sD{i:Nat}{oi:Oper}{v:Value}{S':World->Prop}(hi:ops[i]? = some oi)(hsel : ∀ (j:Nat) (o:Oper) cs b,ops[j]? = some o->o.op ≠ .select cs b)(hQ : ∀ c a w,Q (.panic c) (a.put oi.dst v) w->Q (.panic c) a w)(hil : ∀ s∈late,s≠i)(hw:(∀ w,S' w)\/(S'=S /\ ∀ s∈late,∀ o,ops[s]? = some o -> ∃ e∈o.after,Region.binds .any e=true/\e.on=i)) :
  ∀ (fuel:Nat) (listed:Array Bool) (a:Act) (w:World),
   (∀ j oj,ops[j]? = some oj->j≠i->listed.getD j true=false->(∀ e∈oj.after,Region.binds .any e=true->e.on≠i)->oi.apart ops oj=true) ->
   i∈Region.ready .any ops listed->YieldsIf P ops S' oi v a->S' w->(bY late listed->S w)->((∀ w,S' w)\/bY late listed) ->
   vC P ops Q late S fuel (listed.setIfInBounds i true) (a.put oi.dst v) w->vC P ops Q late S (fuel+1) listed a w:=by
 have same : ∀ {listed:Array Bool},bY late (listed.setIfInBounds i true)->bY late listed:=fun h s hs=>by
  have:=h s hs
  rwa [Fq (hil s hs)] at this
 intro fuel
 induction fuel with
 | zero =>
  intro listed a w _ hr hy hS hSS _ H;refine ⟨fun h=>(by rw [h] at hr;cases hr),fun j hj => ?_⟩
  by_cases hji:j=i
  ·subst hji;exact YieldsIf.eH hi hy hS ⟨fun hn=>hSS (same hn),H⟩
  ·have:=ready_mono hj hji
   rw [H.1] at this
   cases this
 | succ fuel ih =>
  intro listed a w hfree hr hy hS hSS FD H;refine ⟨fun h=>(by rw [h] at hr;cases hr),fun j hj => ?_⟩
  by_cases hji:j=i
  ·subst hji;exact YieldsIf.eH hi hy hS ⟨fun hn=>hSS (same hn),H⟩
  ·have h1:=H.2 j (ready_mono hj hji)
   obtain ⟨hjun,oj,hoj,hall⟩:=mem_ready.1 hj
   have Y4:listed.getD i false=false:=by
    have h0:=(mem_ready.1 hr).1;rcases ahs i listed.size with h' | h'
    ·simp [h'] at h0 ⊢;exact h0
    ·simp [aiL h']
   have hnot : ∀ e∈oj.after,Region.binds .any e=true->e.on≠i:=fun e he hb heq=>by
    have h1:=hall e he hb;rw [heq,Y4] at h1
    cases h1
   have h2:=aac hoj (hfree j oj hoj hji hjun hnot) (fun cs b=>hsel i oi cs b hi) (fun cs b=>hsel j oj cs b hoj) hy h1
   have hfree' : ∀ k ok,ops[k]? = some ok->k≠i->(listed.setIfInBounds j true).getD k true=false ->
     (∀ e∈ok.after,Region.binds .any e=true->e.on≠i)->oi.apart ops ok=true:=fun k ok hk hki hun hno=>by
    refine hfree k ok hk hki ?_ hno
    by_cases hjk:j=k
    ·subst hjk;exact hjun
    ·rw [getD_set_ne true hjk] at hun;exact hun
   have hjl:(S'=S /\ ∀ s∈late,∀ o,ops[s]? = some o -> ∃ e∈o.after,Region.binds .any e=true/\e.on=i)->j ∉ late:=fun hx hm=>by
    obtain ⟨e,he,hb,ho⟩:=hx.2 j hm oj hoj;exact hnot e he hb ho
   refine PM (fun a' w' h3 => ?_) h2;obtain ⟨Yv,Yt,Yu⟩:=h3
   have hS3:bY late (listed.setIfInBounds j true)->S w':=fun hn=>Yt (fun s hs=>by
    have:=hn s hs;rw [Array.setIfInBounds_comm _ _ (Ne.symm hji),Fq (hil s hs)];exact this)
   refine ⟨hS3,?_⟩
   have key:S' w'/\((∀ w,S' w)\/bY late (listed.setIfInBounds j true)):=by
    rcases hw with hA | hx
    ·exact ⟨hA w',.inl hA⟩
    ·rcases FD with hA | FD
     ·exact ⟨hA w',.inl hA⟩
     ·have hn:bY late (listed.setIfInBounds j true):=fun s hs=>by
       rw [Fq (fun e=>hjl hx (by subst e;exact hs))];exact FD s hs
      exact ⟨by rw [hx.1];exact hS3 hn,.inr hn⟩
   refine ih (listed.setIfInBounds j true) a' w' hfree' (ready_mono hr (Ne.symm hji)) Yv key.1 hS3 key.2 ?_;rw [Array.setIfInBounds_comm _ _ hji];exact Yu
def JR(ds:List Deferred)(P:Program)(ops:Array Oper)(Q:Exit->Act->World->Prop)(late:List Nat)(S:World->Prop)(fuel:Nat)(listed:Array Bool)(N:Nat)(T:List (Nat×Value))(w:World):Prop := ∀ a,Kn ds a N T->vC P ops Q late S fuel listed a w
def Boxed(U:List Box)(w:World):Prop := ∀ b∈U,w.heap[b.g]? = some (.cells b.vs.toArray b.t (0,0))
def waits(ops:Array Oper)(late:List Nat)(i:Nat):Bool:=late.all fun s=>s != i&&(match ops[s]? with | some o=>o.after.any (fun e=>Region.binds .any e&&e.on==i) | none=>false)
def uG(late:List Nat)(i:Nat):Bool:=late.all fun s=>s != i
theorem Jt{i:Nat}(h:waits ops late i=true):(∀ s∈late,s≠i) /\ ∀ s∈late,∀ o,ops[s]? = some o -> ∃ e∈o.after,Region.binds .any e=true/\e.on=i:=by
 unfold waits at h;grind
variable {fuel d i:Nat} {listed listed':Array Bool} {o:Oper} {v:Value}
theorem JC.draw{id:Nat}{l:List Oper}(HS:St W0 U Ps w)(late:List Nat)(hm:P.follows .mixedOrders=true)(h : ∀ w',St W0 U Ps w'->JR ds P l.toArray Q late (Boxed U) l.toArray.size (Array.replicate l.toArray.size false) N T w'):JC r ds P (.region id l.toArray true) Q N T w:=fun a ha =>
 wpIn_region_any hm (Dx (late:=late) (S:=Boxed U) _ _ _ _ (h _ (HS.next (Below.refl _ w).drew) a ha))
theorem JR.val(i:Nat)(hi:ops[i]? = some o)(hs:Region.noSelect ops=true)(hf:Region.free .any ops listed i=true)(hr:(Region.ready .any ops listed).contains i=true)(hil:uG late i=true)(hq : ∀ c a w,Q (.panic c) (a.put o.dst v) w->Q (.panic c) a w)(hd:o.dst=some d)(hN:Nat.ble (d+1) N=true)(hg:o.guard=none)(hS:bY late listed->S w)(hrun : ∀ a,Kn ds a N T -> ∀ w,(execOp a.eval o).run P w = .ok (.value v) w)(hl:listed.setIfInBounds i true=listed')(h:JR ds P ops Q late S fuel listed' N ((d,v)::T) w):JR ds P ops Q late S (fuel+1) listed N T w:=by
 subst hl;intro a ha
 have rf : ∀ s∈late,s≠i:=fun s hs e=>by
  have:=ahK.1 hil s hs;rw [e] at this;simp at this
 refine sD (S':=fun _=>True) hi (Region.noSelect_spec hs) hq rf (.inl fun _=>trivial) fuel listed a w (Region.free_spec hi hf) (by simpa using hr) (.inl ⟨by simp [Region.wanted,hg],fun w _=>hrun a ha w⟩) trivial hS (.inl fun _=>trivial) ?_;have:=h _ (ha.put hN v);rw [hd];exact this
theorem JR.load{t et:TypeId}{x:Operand}{g off n:Nat}{vs:List Value}{ty:TypeId}{pos:String}{bn:Array Edge}(v:Value)(i:Nat)(j:Nat)(hi:ops[i]? = some ⟨some d,.load t x,ty,pos,bn,none⟩)(hs:Region.noSelect ops=true)(hf:Region.free .any ops listed i=true)(hr:(Region.ready .any ops listed).contains i=true)(hil:waits ops late i=true)(hq : ∀ c a w,Q (.panic c) (a.put (some d) v) w->Q (.panic c) a w)(hN:Nat.ble (d+1) N=true)(hS:bY late listed->Boxed U w)(hn:bY late listed)(hx:ev T x=some (.pointer (some ⟨g,off,none⟩)))(hj:U[j]? = some ⟨g,et,vs⟩)(hg : ∀ w,(isAgg t).run P w = .ok true w)(hsz : ∀ w,(Go.sizeOf t).run P w = .ok n w)(hfit:Nat.ble (off+n) vs.length=true)(hv:Value.agg ((vs.drop off).take n).toArray=v)(hl:listed.setIfInBounds i true=listed')(h:JR ds P ops Q late (Boxed U) fuel listed' N ((d,v)::T) w):JR ds P ops Q late (Boxed U) (fuel+1) listed N T w:=by
 subst hl hv;intro a ha;obtain ⟨h1,h2⟩:=Jt hil;refine sD (S':=Boxed U) hi (Region.noSelect_spec hs) hq h1 (.inr ⟨rfl,h2⟩) fuel listed a w (Region.free_spec hi hf) (by simpa using hr) (.inl ⟨rfl,fun w hw=>rO (ha.ev hx) hg hsz (hw _ (ahq hj)) (by simpa using hfit)⟩) (hS hn) hS (.inr hn) (h _ (ha.put hN _))
theorem JR.uz{t et:TypeId}{x:Operand}{g off:Nat}{vs:List Value}{ty:TypeId}{pos:String}{bn:Array Edge}(v:Value)(i:Nat)(j:Nat)(hi:ops[i]? = some ⟨some d,.load t x,ty,pos,bn,none⟩)(hs:Region.noSelect ops=true)(hf:Region.free .any ops listed i=true)(hr:(Region.ready .any ops listed).contains i=true)(hil:waits ops late i=true)(hq : ∀ c a w,Q (.panic c) (a.put (some d) v) w->Q (.panic c) a w)(hN:Nat.ble (d+1) N=true)(hS:bY late listed->Boxed U w)(hn:bY late listed)(hx:ev T x=some (.pointer (some ⟨g,off,none⟩)))(hj:U[j]? = some ⟨g,et,vs⟩)(hg : ∀ w,(isAgg t).run P w = .ok false w)(hv:vs[off]? = some v)(hl:listed.setIfInBounds i true=listed')(h:JR ds P ops Q late (Boxed U) fuel listed' N ((d,v)::T) w):JR ds P ops Q late (Boxed U) (fuel+1) listed N T w:=by
 subst hl;intro a ha;obtain ⟨h1,h2⟩:=Jt hil;refine sD (S':=Boxed U) hi (Region.noSelect_spec hs) hq h1 (.inr ⟨rfl,h2⟩) fuel listed a w (Region.free_spec hi hf) (by simpa using hr) (.inl ⟨rfl,fun w hw=>iY (ha.ev hx) hg (hw _ (ahq hj)) (by simpa using hv)⟩) (hS hn) hS (.inr hn) (h _ (ha.put hN _))
theorem DC{j:Nat}{b:Bool}{oj:Oper}{t:Nat}{a:Act}(ha:Kn ds a N T)(hj:ops[j]? = some oj)(hdj:oj.dst=some t)(dW:Nat.ble (t+1) N=true)(hv:bM T t=some (.bool b)):yielded ops a.tmps j=some b:=by
 have h1:=ha.2.2 t _ hv;have h2:t<a.tmps.size:=by rw [ha.2.1];exact aho dW
 unfold yielded;rw [hj,ah9,hdj,ah9];rw [aix,ahH h2,ai3] at h1;rw [ahH h2,h1]
def dF(ds:List Deferred)(P:Program)(ops:Array Oper)(Q:Exit->Act->World->Prop)(late:List Nat)(S:World->Prop)(fuel:Nat)(listed:Array Bool)(N:Nat)(T:List (Nat×Value))(w:World)(rs:List Nat):Prop :=
 ∀ i∈rs,∀ a,Kn ds a N T->eH P ops i (fun a' w'=>(bY late (listed.setIfInBounds i true)->S w')/\vC P ops Q late S fuel (listed.setIfInBounds i true) a' w') a w
theorem dF.nil:dF ds P ops Q late S fuel listed N T w []:=fun _ h=>by cases h
theorem JR.any(rs:List Nat)(hr:Region.ready .any ops listed=rs)(hne:rs.isEmpty=false)(h:dF ds P ops Q late S fuel listed N T w rs):JR ds P ops Q late S (fuel+1) listed N T w:=fun a ha=>by
 subst hr;exact ⟨fun h0=>(by rw [h0] at hne;cases hne),fun i hi=>h i hi a ha⟩
theorem JR.done(hr:Region.ready .any ops listed=[])(h : ∀ a,Kn ds a N T->Q .normal a w):JR ds P ops Q late S fuel listed N T w:=fun a ha=>by
 cases fuel with
 | zero=>exact ⟨hr,h a ha⟩
 | succ n=>exact ⟨fun _=>h a ha,by rw [hr];simp⟩
theorem dF.call{f:FuncId}{l:List Operand}{eu:Array TypeId}{vs:List Value}{R:Value->World->Prop}{ty:TypeId}{pos:String}{bn:Array Edge}{rs:List Nat}(hi:ops[i]? = some ⟨some d,.call ⟨.value (.func f),l.toArray,eu⟩,ty,pos,bn,none⟩)(hN:Nat.ble (d+1) N=true)(hl:evs T l=some vs)(hc : ∀ args w,Sem.run P (callFunc f args) w = .ok (.enter f args) w)(hcall:bP P f vs w R)(hl':listed.setIfInBounds i true=listed')(h : ∀ v w',R v w'->(bY late listed'->S w')/\JR ds P ops Q late S fuel listed' N ((d,v)::T) w')(hrest:dF ds P ops Q late S fuel listed N T w rs):dF ds P ops Q late S fuel listed N T w (i::rs):=by
 subst hl';intro j hj a ha;rcases List.mem_cons.1 hj with rfl | hj
 ·unfold eH
  simp only [hi];rw [if_pos (show Region.wanted _ _=true from rfl)];unfold mO;rw [CO (ha.evs hl) hc rfl];refine Calls.mono hcall fun e w' he => ?_;obtain ⟨v,rfl,hR⟩:=he;have:=h v w' hR;exact ⟨this.1,this.2 _ (ha.put hN v)⟩
 ·exact hrest j hj a ha
theorem dF.alloc{t:TypeId}{z:Value}{vs:List Value}{ty:TypeId}{pos:String}{bn:Array Edge}{rs:List Nat}(HS:St W0 U Ps w)(hi:ops[i]? = some ⟨some d,.alloc t,ty,pos,bn,none⟩)(hN:Nat.ble (d+1) N=true)(hz : ∀ w,(zeroValue t).run P w = .ok z w)(hvs:z.cells.toList=vs)(hs:vs.all dO=true)(hl':listed.setIfInBounds i true=listed')(h : ∀ g w',St W0 (⟨g,t,vs⟩::U) Ps w'->(bY late listed'->S w')/\JR ds P ops Q late S fuel listed' N ((d,.pointer (some ⟨g,0,none⟩))::T) w')(hrest:dF ds P ops Q late S fuel listed N T w rs):dF ds P ops Q late S fuel listed N T w (i::rs):=by
 subst hl' hvs;have h2:=HS.alloc t z.cells.toList hs;rw [Array.toArray_toList] at h2;intro j hj a ha;rcases List.mem_cons.1 hj with rfl | hj
 ·unfold eH
  simp only [hi];rw [if_pos (show Region.wanted _ _=true from rfl)];unfold mO;rw [Iz hz];have:=h _ _ h2;exact ⟨this.1,this.2 _ (ha.put hN _)⟩
 ·exact hrest j hj a ha
theorem dF.store{t et:TypeId}{x y:Operand}{g off n:Nat}{vs vs':List Value}{ty:TypeId}{pos:String}{bn:Array Edge}{rs:List Nat}(HS:St W0 U Ps w)(hi:ops[i]? = some ⟨none,.store t x y,ty,pos,bn,none⟩)(hx:ev T x=some (.pointer (some ⟨g,off,none⟩)))(hy:ev T y=some v)(k:Nat)(hk:U[k]? = some ⟨g,et,vs⟩)(hs : ∀ w,(Go.sizeOf t).run P w = .ok n w)(hn:Nat.beq v.cells.size n=true)(hfit:Nat.ble (off+n) vs.length=true)(h1:v.cells.toList.all Value.oneCell'=true)(hw:wr vs off v.cells.toList=vs')(iq:vs'.all dO=true)(hl':listed.setIfInBounds i true=listed')(h : ∀ w',St W0 (U.set k ⟨g,et,vs'⟩) Ps w'->(bY late listed'->S w')/\JR ds P ops Q late S fuel listed' N T w')(hrest:dF ds P ops Q late S fuel listed N T w rs):dF ds P ops Q late S fuel listed N T w (i::rs):=by
 subst hl' hw;intro j hj a ha;rcases List.mem_cons.1 hj with rfl | hj
 ·obtain ⟨w',r1,r2,r3,r4,r5,r6,r7⟩:=CS (P:=P) (dst:=none) (ty:=ty) (pos:=pos) (bn:=bn) (gd:=none) (ha.ev hx) (ha.ev hy) hs hn (HS.box _ (ahq hk)) hfit h1
  unfold eH;simp only [hi];rw [if_pos (show Region.wanted _ _=true from rfl)];unfold mO;rw [r1];have:=h w' (HS.write k hk iq r2 r3 r4 r5 r6 r7);exact ⟨this.1,this.2 _ ha⟩
 ·exact hrest j hj a ha
theorem least{p:Nat->Prop}(h : ∃ n,p n) : ∃ n,p n /\ ∀ m,p m->n<=m:=by
 obtain ⟨n,hn⟩:=h
 induction n using Nat.strongRecOn with
 | _ n ih =>
  grind
theorem JC.loop{c:Code}{ι:Type}(m:ι->Nat)(T':ι->List (Nat×Value))(G:ι->World->Prop)(round : ∀ i w,G i w->JC r ds P c (Exit.then (fun a' w' => ∃ j,m j<m i/\Kn ds a' N (T' j)/\G j w') Q) N (T' i) w) : ∀ i w,G i w->JC r ds P (.loop c) Q N (T' i) w:=by
 intro i w hG a ha
 let p:Act->World->Nat->Prop:=fun a w n => ∃ i,m i=n/\Kn ds a N (T' i)/\G i w
 let μ:Act->World->Nat:=fun a w=>open Classical in if h : ∃ n,p a w n then Classical.choose (least h) else 0
 have hμ : ∀ a w,(∃ n,p a w n)->p a w (μ a w) /\ ∀ k,p a w k->μ a w<=k:=fun a w h=>by
  have:μ a w=Classical.choose (least h):=dif_pos h;rw [this];exact Classical.choose_spec (least h)
 refine wpIn_loop (fun a w => ∃ n,p a w n) μ ⟨_,i,rfl,ha,hG⟩ (fun a w hI => ?_);obtain ⟨⟨i,hi,hk,hg⟩,hmin⟩:=hμ a w hI;refine Jz (fun e a' w' h => ?_) (round i w hg a hk)
 cases e with
 | normal =>
  obtain ⟨j,hj,hk',hg'⟩:=h;have hx : ∃ n,p a' w' n:=⟨_,j,rfl,hk',hg'⟩;exact ⟨hx,ahO ((hμ a' w' hx).2 _ ⟨j,rfl,hk',hg'⟩) (hi ▸ hj)⟩
 | _=>exact h
theorem JL.round{ι:Type}{m:ι->Nat}{T':ι->List (Nat×Value)}{G:ι->World->Prop}{n:Nat}(j:ι)(hm:m j<n)(hT : ∀ t v,bM (T' j) t=some v->bM T t=some v)(hG:G j w):JL ds P ops (Exit.then (fun a' w' => ∃ j,m j<n/\Kn ds a' N (T' j)/\G j w') Q) [] N T w :=
 fun _ ha=>⟨j,hm,ha.sub hT,hG⟩
theorem JR.round{ι:Type}{m:ι->Nat}{T':ι->List (Nat×Value)}{G:ι->World->Prop}{n:Nat}(hr:Region.ready .any ops listed=[])(j:ι)(hm:m j<n)(hT : ∀ t v,bM (T' j) t=some v->bM T t=some v)(hG:G j w):JR ds P ops (Exit.then (fun a' w' => ∃ j,m j<n/\Kn ds a' N (T' j)/\G j w') Q) late S fuel listed N T w :=
 JR.done hr fun _ ha=>⟨j,hm,ha.sub hT,hG⟩
theorem JC.exit{id:Nat}{c:Code}{Q':Exit->Act->World->Prop}{T':List (Nat×Value)}(hQ : ∀ a w,c.wpIn (Fr r) 0 P Q' a w->Q (.exit id) a w)(hT : ∀ t v,bM T' t=some v->bM T t=some v)(h:JC r ds P c Q' N T' w):JC r ds P (.exit id) Q N T w:=fun a ha=>wpIn_exit (hQ a w (h a (ha.sub hT)))
theorem JL.qR{id:Nat}{c:Code}{T':List (Nat×Value)}(hT : ∀ t v,bM T' t=some v->bM T t=some v)(h:JC r ds P c Q N T' w):JL ds P ops (Exit.inBlock id (Exit.then (c.wpIn (Fr r) 0 P Q) Q)) [] N T w:=fun a ha=>h a (ha.sub hT)
theorem JR.qR{id:Nat}{c:Code}{T':List (Nat×Value)}(hr:Region.ready .any ops listed=[])(hT : ∀ t v,bM T' t=some v->bM T t=some v)(h:JC r ds P c Q N T' w):JR ds P ops (Exit.inBlock id (Exit.then (c.wpIn (Fr r) 0 P Q) Q)) late S fuel listed N T w:=JR.done hr fun a ha=>h a (ha.sub hT)
theorem JR.next{c:Code}{T':List (Nat×Value)}(hr:Region.ready .any ops listed=[])(hT : ∀ t v,bM T' t=some v->bM T t=some v)(h:JC r ds P c Q N T' w):JR ds P ops (Exit.then (c.wpIn (Fr r) 0 P Q) Q) late S fuel listed N T w :=
 JR.done hr (fun a ha=>h a (ha.sub hT))
theorem JC.lI{id:Nat}{c:Code}{T':List (Nat×Value)}(hT : ∀ t v,bM T' t=some v->bM T t=some v)(h:JC r ds P c Q N T' w):JC r ds P .skip (Exit.inBlock id (Exit.then (c.wpIn (Fr r) 0 P Q) Q)) N T w:=JC.skip fun a ha=>h a (ha.sub hT)
theorem JR.meet{ι:Type}{T':ι->List (Nat×Value)}{G:ι->World->Prop}(hr:Region.ready .any ops listed=[])(i:ι)(hT : ∀ t v,bM (T' i) t=some v->bM T t=some v)(hG:G i w):JR ds P ops (Exit.then (fun a w => ∃ i,Kn ds a N (T' i)/\G i w) Q) late S fuel listed N T w :=
 JR.done hr fun _ ha=>⟨i,ha.sub hT,hG⟩
theorem JL.meet{ι:Type}{T':ι->List (Nat×Value)}{G:ι->World->Prop}(i:ι)(hT : ∀ t v,bM (T' i) t=some v->bM T t=some v)(hG:G i w):JL ds P ops (Exit.then (fun a w => ∃ i,Kn ds a N (T' i)/\G i w) Q) [] N T w :=
 fun _ ha=>⟨i,ha.sub hT,hG⟩
theorem JC.aah{ι:Type}{T':ι->List (Nat×Value)}{G:ι->World->Prop}(i:ι)(hT : ∀ t v,bM (T' i) t=some v->bM T t=some v)(hG:G i w):JC r ds P .skip (Exit.then (fun a w => ∃ i,Kn ds a N (T' i)/\G i w) Q) N T w :=
 JC.skip fun _ ha=>⟨i,ha.sub hT,hG⟩
theorem JC.PW{c:Code}{T':List (Nat×Value)}(hT : ∀ t v,bM T' t=some v->bM T t=some v)(h:JC r ds P c Q N T' w):JC r ds P .skip (Exit.then (c.wpIn (Fr r) 0 P Q) Q) N T w:=JC.skip fun a ha=>h a (ha.sub hT)
theorem JR.Dn{j:Nat}{want:Bool}{oj:Oper}{t:Nat}(i:Nat)(hi:ops[i]? = some o)(hs:Region.noSelect ops=true)(hf:Region.free .any ops listed i=true)(hr:(Region.ready .any ops listed).contains i=true)(hil:uG late i=true)(hq : ∀ c a w,Q (.panic c) (a.put o.dst v) w->Q (.panic c) a w)(hd:o.dst=some d)(hN:Nat.ble (d+1) N=true)(hg:o.guard=some (j,want))(hj:ops[j]? = some oj)(hdj:oj.dst=some t)(dW:Nat.ble (t+1) N=true)(hv:bM T t=some (.bool want))(hS:bY late listed->S w)(hrun : ∀ a,Kn ds a N T -> ∀ w,(execOp a.eval o).run P w = .ok (.value v) w)(hl:listed.setIfInBounds i true=listed')(h:JR ds P ops Q late S fuel listed' N ((d,v)::T) w):JR ds P ops Q late S (fuel+1) listed N T w:=by
 subst hl;intro a ha
 have rf : ∀ s∈late,s≠i:=fun s hs e=>by
  have:=ahK.1 hil s hs;rw [e] at this;simp at this
 have hy:=DC ha hj hdj dW hv;refine sD (S':=fun _=>True) hi (Region.noSelect_spec hs) hq rf (.inl fun _=>trivial) fuel listed a w (Region.free_spec hi hf) (by simpa using hr) (.inl ⟨by simp [Region.wanted,hg,hy],fun w _=>hrun a ha w⟩) trivial hS (.inl fun _=>trivial) ?_;have:=h _ (ha.put hN v);rw [hd];exact this
theorem JR.pass{j:Nat}{want b:Bool}{oj:Oper}{t:Nat}(i:Nat)(hi:ops[i]? = some o)(hs:Region.noSelect ops=true)(hf:Region.free .any ops listed i=true)(hr:(Region.ready .any ops listed).contains i=true)(hil:uG late i=true)(hq : ∀ c a w,Q (.panic c) (a.put o.dst undef) w->Q (.panic c) a w)(hd:o.dst=some d)(hN:Nat.ble (d+1) N=true)(hg:o.guard=some (j,want))(hj:ops[j]? = some oj)(hdj:oj.dst=some t)(dW:Nat.ble (t+1) N=true)(hv:bM T t=some (.bool b))(hb:(b==want)=false)(hS:bY late listed->S w)(hl:listed.setIfInBounds i true=listed')(h:JR ds P ops Q late S fuel listed' N ((d,undef)::T) w):JR ds P ops Q late S (fuel+1) listed N T w:=by
 subst hl;intro a ha
 have rf : ∀ s∈late,s≠i:=fun s hs e=>by
  have:=ahK.1 hil s hs;rw [e] at this;simp at this
 have hy:=DC ha hj hdj dW hv;refine sD (S':=fun _=>True) hi (Region.noSelect_spec hs) hq rf (.inl fun _=>trivial) fuel listed a w (Region.free_spec hi hf) (by simpa using hr) (.inr ⟨by simp [Region.wanted,hg,hy];cases b <;> cases want <;> simp_all,rfl⟩) trivial hS (.inl fun _=>trivial) ?_;have:=h _ (ha.put hN undef);rw [hd];exact this
theorem dF.iH{f:FuncId}{l:List Operand}{eu:Array TypeId}{vs:List Value}{R:Value->World->Prop}{ty:TypeId}{pos:String}{bn:Array Edge}{rs:List Nat}{j:Nat}{want:Bool}{oj:Oper}{t:Nat}(hi:ops[i]? = some ⟨some d,.call ⟨.value (.func f),l.toArray,eu⟩,ty,pos,bn,some (j,want)⟩)(hN:Nat.ble (d+1) N=true)(hj:ops[j]? = some oj)(hdj:oj.dst=some t)(dW:Nat.ble (t+1) N=true)(hv:bM T t=some (.bool want))(hl:evs T l=some vs)(hc : ∀ args w,Sem.run P (callFunc f args) w = .ok (.enter f args) w)(hcall:bP P f vs w R)(hl':listed.setIfInBounds i true=listed')(h : ∀ v w',R v w'->(bY late listed'->S w')/\JR ds P ops Q late S fuel listed' N ((d,v)::T) w')(hrest:dF ds P ops Q late S fuel listed N T w rs):dF ds P ops Q late S fuel listed N T w (i::rs):=by
 subst hl';intro k hk a ha;rcases List.mem_cons.1 hk with rfl | hk
 ·unfold eH
  simp only [hi];rw [if_pos (show Region.wanted _ _=true by simp [Region.wanted,DC ha hj hdj dW hv])];unfold mO;rw [CO (ha.evs hl) hc rfl];refine Calls.mono hcall fun e w' he => ?_;obtain ⟨v,rfl,hR⟩:=he;have:=h v w' hR;exact ⟨this.1,this.2 _ (ha.put hN v)⟩
 ·exact hrest k hk a ha
end
section
variable {W0 w:World} {U U':List Box} {Ps Ps':List (World->Prop)}
theorem St.iC{P Q:World->Prop}(h:St W0 U Ps w)(i:Nat)(hi:Ps[i]? = some P)(hq : ∀ w,P w->Q w):St W0 U (Q::Ps) w:=h.map (ahq hi) hq
theorem St.out{P Q:World->Prop}(HS:St W0 U' Ps' w)(n m i:Nat)(hU:U'.drop n=U)(hP:Ps'.drop m=Ps)(hi:Ps'[i]? = some P)(hq : ∀ w,P w->Q w):St W0 U (Q::Ps) w:=by
 subst hU hP;have h1:=HS.map (ahq hi) hq
 exact (h1.gone (fun b hb=>ah3 hb) (h1.nd.sublist (List.drop_sublist _ _))).facts (fun P hP=>by
  rcases List.mem_cons.1 hP with rfl | hP
  ·grind
  ·exact .tail _ (ah3 hP))
theorem St.aaz(HS:St W0 U' Ps' w)(n m:Nat)(hU:U'.drop n=U)(hP:Ps'.drop m=Ps):St W0 U Ps w:=by
 subst hU hP;exact (HS.gone (fun b hb=>ah3 hb) (HS.nd.sublist (List.drop_sublist _ _))).facts (fun P hP=>ah3 hP)
theorem St.oG{P Q P' Q':World->Prop}(HS:St W0 U' Ps' w)(n m i j:Nat)(hU:U'.drop n=U)(hP:Ps'.drop m=Ps)(hi:Ps'[i]? = some P)(hq : ∀ w,P w->Q w)(hj:Ps'[j]? = some P')(hq' : ∀ w,P' w->Q' w):St W0 U (Q::Q'::Ps) w:=by
 subst hU hP;have h1:=(HS.map (ahq hj) hq').map (.tail _ (ahq hi)) hq
 exact (h1.gone (fun b hb=>ah3 hb) (h1.nd.sublist (List.drop_sublist _ _))).facts (fun P hP=>by
  rcases List.mem_cons.1 hP with rfl | hP
  ·grind
  ·rcases List.mem_cons.1 hP with rfl | hP
   ·grind
   ·exact .tail _ (.tail _ (ah3 hP)))
end
end bJ
