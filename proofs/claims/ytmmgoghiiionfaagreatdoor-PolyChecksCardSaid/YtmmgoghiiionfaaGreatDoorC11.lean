/- Part of a proof, said shortly. -/
import Derived.Test.YtmmgoghiiionfaaGreatDoorAlz
import Derived.Test.YtmmgoghiiionfaaGreatDoorC10
import Derived.Test.YtmmgoghiiionfaaGreatDoorC9
import Derived.Test.YtmmgoghiiionfaaGreatDoorC8
import Derived.Test.YtmmgoghiiionfaaGreatDoorC7
import Derived.Test.YtmmgoghiiionfaaGreatDoorC4
import Derived.Test.YtmmgoghiiionfaaGreatDoorC2
import Derived.Test.YtmmgoghiiionfaaGreatDoorC1
import Derived.Test.YtmmgoghiiionfaaGreatDoorC3
import Derived.Test.YtmmgoghiiionfaaGreatDoorC6
import Derived.Test.YtmmgoghiiionfaaGreatDoorC5
set_option linter.unusedVariables false
set_option linter.unusedSimpArgs false
namespace bJ
open Go Go.RowKit
variable {ds:List Deferred} {r:Option Nat}
section
variable {P:Program} {ρ:Operand->Value} {w:World} {dst:Option Tmp} {ty:TypeId} {pos:String} {bn:Array Edge} {gd:Option (Nat×Bool)}
theorem acH{f:FuncId}{y:Operand}{l:List Operand}{eu:Array TypeId}{vs:List Value}(h:l.map ρ=vs)(hc : ∀ args w,Sem.run P (callFunc f args) w = .ok (.enter f args) w)(hfn:ρ y = .func (.func f) #[] #[]) :
  (execOp ρ ⟨dst,.call ⟨.value y,l.toArray,eu⟩,ty,pos,bn,gd⟩).run P w = .ok (.enter f vs.toArray) w:=by
 subst h;simp [execOp,resolve,Deferred.ofValue,hfn,invoke,hc]
end
section
variable {P:Program} {ops:Array Oper} {Q:Exit->Act->World->Prop} {late:List Nat} {S:World->Prop} {N:Nat} {T:List (Nat×Value)} {W0 w w':World} {U U':List Box} {Ps Ps':List (World->Prop)} {fuel d i:Nat} {listed:Array Bool} {rest:List Oper} {v:Value}
def iG(U:List Box)(Ps:List (World->Prop))(w:World):Prop:=Boxed U w /\ ∀ P∈Ps,P w
theorem iG.box(h:iG U Ps w)(j:Nat){b:Box}(hj:U[j]? = some b):w.heap[b.g]? = some (.cells b.vs.toArray b.t (0,0)):=h.1 b (ahq hj)
theorem iG.at_(h:iG U Ps w)(j:Nat){F:World->Prop}(hj:Ps[j]? = some F):F w:=h.2 F (ahq hj)
theorem St.bf(HS:St W0 U' Ps' w)(n m:Nat)(hU:U'.drop n=U)(hP:Ps'.drop m=Ps):bY late listed->iG U Ps w:=fun _=>by
 subst hU hP;exact ⟨fun b hb=>HS.box b (ah3 hb),fun P hp=>HS.get (ah3 hp)⟩
theorem JC.Xr{id:Nat}{l:List Oper}(HS:St W0 U Ps w)(late:List Nat)(hm:P.follows .mixedOrders=true)(h : ∀ w',St W0 U Ps w'->JR ds P l.toArray Q late (iG U Ps) l.toArray.size (Array.replicate l.toArray.size false) N T w'):JC r ds P (.region id l.toArray true) Q N T w:=fun a ha =>
 wpIn_region_any hm (Dx (late:=late) (S:=iG U Ps) _ _ _ _ (h _ (HS.next (Below.refl _ w).drew) a ha))
theorem Df{op:Op}{ty:TypeId}{pos:String}{bn:Array Edge}(v:Value)(i:Nat)(hi:ops[i]? = some ⟨some d,op,ty,pos,bn,none⟩)(hS:bY late listed->S w)(hrun : ∀ a,Kn ds a N T -> ∀ w,S w->(execOp a.eval ⟨some d,op,ty,pos,bn,none⟩).run P w = .ok (.value v) w)(h:JR ds P ops Q late S fuel (listed.setIfInBounds i true) N ((d,v)::T) w)(hc:ou ops late listed i=true:=by kernel_rfl)(hN:Nat.ble (d+1) N=true:=by rfl)(hq : ∀ c a w,Q (.panic c) (a.put (some d) v) w->Q (.panic c) a w:=by exact fun _ _ _ h=>h):JR ds P ops Q late S (fuel+1) listed N T w:=by
 obtain ⟨hs,hf,hr,hw,hn⟩:=GI hc;intro a ha;obtain ⟨h1,h2⟩:=Jt hw;exact sD (S':=S) hi (Region.noSelect_spec hs) hq h1 (.inr ⟨rfl,h2⟩) fuel listed a w (Region.free_spec hi hf) (by simpa using hr) (.inl ⟨rfl,fun w hw=>hrun a ha w hw⟩) (hS hn) hS (.inr hn) (h _ (ha.put hN _))
end
section
variable {P:Program} {ops:Array Oper} {Q:Exit->Act->World->Prop} {late:List Nat} {S:World->Prop} {N:Nat} {T:List (Nat×Value)} {w:World} {fuel:Nat} {listed:Array Bool} {ι:Type} {m:ι->Nat} {T':ι->List (Nat×Value)} {G:ι->World->Prop} {n id:Nat}
theorem JL.Ri(j:ι)(hm:m j<n)(hT : ∀ t v,bM (T' j) t=some v->bM T t=some v)(hG:G j w):JL ds P ops (Exit.inBlock id (Exit.then (fun a' w' => ∃ j,m j<n/\Kn ds a' N (T' j)/\G j w') Q)) [] N T w :=
 fun _ ha=>⟨j,hm,ha.sub hT,hG⟩
theorem JR.Ri(hr:Region.ready .any ops listed=[])(j:ι)(hm:m j<n)(hT : ∀ t v,bM (T' j) t=some v->bM T t=some v)(hG:G j w):JR ds P ops (Exit.inBlock id (Exit.then (fun a' w' => ∃ j,m j<n/\Kn ds a' N (T' j)/\G j w') Q)) late S fuel listed N T w :=
 JR.done hr fun _ ha=>⟨j,hm,ha.sub hT,hG⟩
end
section
variable {sz n c j k:Nat} {A:Option Addr} {cur vals cs:List Value}
theorem Row.at_(h:Row sz A n c cur vals)(hj:j<n) : ∃ g,A=some ⟨g,0,none⟩/\cur.length=c*sz/\cur.take (n*sz)=vals:=by
 obtain ⟨h1,h2,h3⟩:=h;grind
theorem Row.some_(h:Row sz A n c cur vals)(hj:j<n):A.isSome=true:=by
 obtain ⟨g,rfl,_⟩:=h.at_ hj;rfl
theorem aeB{m:Nat}(h:k+cs.length<=m)(hm:m<=cur.length):(wr cur k cs).take m=wr (cur.take m) k cs:=by
 apply aiw;intro i;rw [qF _ _ _ _ (by rw [aic];omega),ahQ]
 by_cases hi:i<m
 ·rw [if_pos hi,qF _ _ _ _ af,ahQ,if_pos hi]
 ·grind
theorem Row.set(h:Row sz A n c cur vals)(hj:j<n)(hl:cs.length=sz):Row sz A n c (wr cur (j*sz) cs) (wr vals (j*sz) cs):=by
 obtain ⟨g,rfl,h1,h2⟩:=h.at_ hj;have hm:(j+1)*sz<=n*sz:=ahp _ hj;rw [ahP] at hm;have hc:n*sz<=c*sz:=ahp _ h.2.1;refine ⟨by rw [yC];exact h.1,h.2.1,.inr ⟨g,rfl,by rw [yC];exact h1,?_⟩⟩;rw [aeB af af,h2]
theorem Row.mem(h:Row sz A n c cur vals)(hj:j<n)(e:TypeId) : ∃ g,A=some ⟨g,0,none⟩/\rowB A e cur=[⟨g,e,cur⟩]:=by
 obtain ⟨g,rfl,_⟩:=h.at_ hj;exact ⟨g,rfl,rfl⟩
end
section
variable {P:Program} {ρ:Operand->Value} {w:World} {dst:Option Tmp} {ty:TypeId} {pos:String} {bn:Array Edge} {gd:Option (Nat×Bool)} {sz n c j o m:Nat} {A:Option Addr} {cur vals cs:List Value} {e:TypeId}
theorem Row.chunk(h:Row sz A n c cur vals)(hj:j<n)(hcs:(vals.drop (j*sz)).take sz=cs):(cur.drop (j*sz)).take sz=cs:=by
 obtain ⟨g,rfl,h1,h2⟩:=h.at_ hj;have hm:(j+1)*sz<=n*sz:=ahp _ hj;rw [ahP] at hm;rw [<- hcs,<- h2,aiF,aiK,ahS af]
end
section
variable {P:Program} {ops:Array Oper} {Q:Exit->Act->World->Prop} {late:List Nat} {S:World->Prop} {N:Nat} {T:List (Nat×Value)} {W0 w:World} {U Ub:List Box} {Ps:List (World->Prop)} {fuel d:Nat} {listed:Array Bool} {rest:List Oper} {v:Value} {α:Type} {R:α->List Value->World->Prop} {sz n c j:Nat} {A:Option Addr} {cur vals cs:List Value} {xs:List α} {x':α} {e:TypeId}
theorem Boxed.row(hb:Boxed (Ub++(rowB A e cur++U)) w) : ∀ b∈rowB A e cur,w.heap[b.g]? = some (.cells b.vs.toArray b.t (0,0)):=fun b h=>hb b (by simp [h])
theorem Ug{t tx e:TypeId}{s x:Operand}{z xv:Value}{size bytes n c m:Nat}{A:Option Addr}{cur vals news zs:List Value}{ty:TypeId}{pos:String}{bn:Array Edge}(i:Nat)(HS:St W0 (Ub++(rowB A e cur++U)) Ps w)(hrow:Row size A n c cur vals)(hi:ops[i]? = some ⟨some d,.call ⟨.builtin .append,#[s,x],#[t,tx]⟩,ty,pos,bn,none⟩)(hs:ev T s=some (.slice A n c))(hx:ev T x=some xv)(hsrc:Src P size tx xv m news w)(hnw:news.all dO=true)(ht:P.underlying t=some (.slice e))(hin:(P.info? e).map (fun i=>(i.zero,i.size,i.bytes))=some (some z,size,bytes))(hz:z.cells=zs.toArray)(hzl:zs.length=size)(iq:zs.all dO=true)(hb:Nat.ble bytes 1000=true)(hn:n+m<=100000000)(h : ∀ A' c' cur' w',Row size A' (n+m) c' cur' (vals++news)->St W0 (Ub++(rowB A' e cur'++U)) Ps w'->(bY late (listed.setIfInBounds i true)->S w')/\JR ds P ops Q late S fuel (listed.setIfInBounds i true) N ((d,.slice A' (n+m) c')::T) w')(hr:Region.ready .any ops listed=[i]:=by kernel_rfl)(hN:Nat.ble (d+1) N=true:=by rfl):JR ds P ops Q late S (fuel+1) listed N T w :=
 J1 i hr fun i' hi' a ha=>by
  rcases List.mem_cons.1 hi' with rfl | hi'
  ·obtain ⟨A',c',cur',w',r,hs',hrun⟩:=EJ (d:=d) (N:=N) (ty:=ty) (pos:=pos) (bn:=bn) HS hrow hs hx hsrc hnw ht hin hz hzl iq hb hn
   unfold eH;simp only [hi];rw [if_pos (show Region.wanted _ _=true from rfl)];unfold mO;rw [hrun a ha];have:=h A' c' cur' w' r hs';exact ⟨this.1,this.2 _ (ha.put hN _)⟩
  ·cases hi'
end
section
variable {P:Program} {W0 w:World} {U:List Box} {Ps:List (World->Prop)} {α:Type} {R:α->List Value->World->Prop} {sz:Nat} {vs:List Value} {xs:List α}
theorem Src.box(HS:St W0 U Ps w){tx e':TypeId}{size n g:Nat}{t:TypeId}{news:List Value}(hk:P.underlying tx=some (.slice e'))(i:Nat)(hi:U[i]? = some ⟨g,t,news⟩)(hl:news.length=n*size)(h1:news.all Value.oneCell'=true)(c:Nat):Src P size tx (.slice (some ⟨g,0,none⟩) n c) n news w :=
 Src.ofSlice w hk ⟨g,0,none⟩ n c news hl (fun j u hj=>by
  rw [Addr.add_lit];unfold World.cell?;simp only [HS.box _ (ahq hi)]
  simpa using hj) (fun u hu=>ahK.1 h1 u hu)
theorem Src.list{A:Option Addr}{n c:Nat}(h:FL R sz (.slice A n c) vs xs w){tx e':TypeId}(hk:P.underlying tx=some (.slice e'))(h1:vs.all Value.oneCell'=true):Src P sz tx (.slice A n c) n vs w:=by
 have hl:=h.Jj;obtain ⟨p1,p2,p3,p4⟩:=h.parts
 cases A with
 | none =>
  rcases p3 with rfl | ⟨g,off,c',t,fz,e,_⟩
  ·exact ⟨.inl ⟨e',hk⟩,fun _=>rfl,run_firstCells_none w sz n n c,run_firstCells_none w.drew sz n n c,hl,fun _ h=>by cases h⟩
  ·cases e
 | some a =>
  refine Src.ofSlice w hk a n c vs hl (fun j u hj => ?_) (fun u hu=>ahK.1 h1 u hu);rcases p3 with rfl | ⟨g,off,c',t,fz,e,e1,e2⟩
  ·cases hj
  ·obtain rfl:=Option.some.inj e
   rw [Addr.add_lit];unfold World.cell?;grind
end
section
variable {W0 w:World} {U:List Box} {Ps:List (World->Prop)}
variable {α:Type} {R R':α->List Value->World->Prop} {sz:Nat} {vs:List Value} {xs ys:List α} {A:Option Addr} {n c:Nat}
theorem EL.to(h:EL R sz vs xs w)(hx:xs=ys)(hR : ∀ x cs,R x cs w->R' x cs w):EL R' sz vs ys w:=by
 subst hx;exact ⟨h.1,fun i x hi=>hR _ _ (h.2 i x hi)⟩
theorem FL.to{v:Value}(h:FL R sz v vs xs w)(hx:xs=ys)(hR : ∀ x cs,R x cs w->R' x cs w):FL R' sz v vs ys w:=by
 obtain ⟨A,n,c,h1,h2,h3,h4,h5⟩:=h;exact ⟨A,n,c,h1,hx ▸ h2,h3,h4,h5.to hx hR⟩
theorem St.sub{A':Option Addr}{l h:Nat}(HS:St W0 U Ps w)(p:Nat)(hp:Ps[p]? = some (FL R sz (.slice A n c) vs xs))(h1:l<=h)(h2:h<=n)(hA:A'=if c=l then A else A.map (·.add (l*sz))) :
  St W0 U (EL R sz ((vs.drop (l*sz)).take ((h-l)*sz)) ((xs.drop l).take (h-l))::FL R sz (.slice A' (h-l) (c-l)) ((vs.drop (l*sz)).take ((h-l)*sz)) ((xs.drop l).take (h-l))::Ps) w:=by
 have hc:=(HS.at_ p hp).parts.2.1
 have fH:=HS.iC p hp (fun _ hh=>hh.sub l (h-l) (c-l) af af (A':=A') (by
  by_cases e:c=l
  ·exact .inl af
  ·rw [if_neg e] at hA;exact .inr hA))
 exact fH.iC 0 rfl (fun _ hh=>hh.el)
end
section
variable {P:Program} {ρ:Operand->Value} {w:World} {dst:Option Tmp} {ty:TypeId} {pos:String} {bn:Array Edge} {gd:Option (Nat×Bool)}
theorem iP{z:Int}{n:Nat}(h:z=(n:Int))(hn:n<9223372036854775808):IntKind.i64.wrap z=(n:Int):=by
 rw [IntKind.wrap_i64,h];omega
theorem ac3{t t':TypeId}{x y:Operand}{a b:Nat}(hx:ρ x=aj a)(hy:ρ y=aj b)(hb:Nat.ble 1 b=true)(ha:a<9223372036854775808):(execOp ρ ⟨dst,.binOp .quo t x y t',ty,pos,bn,gd⟩).run P w = .ok (.value (.int .i64 ((a/b:Nat):Int))) w:=by
 have hb':1<=b:=aho hb;have h0:¬ b=0:=af;have h3:a/b<=a:=ah0 _ _;have h4:IntKind.i64.wrap ((a:Int)/(b:Int))=((a/b:Nat):Int):=iP (by simp) af;simp [execOp,hx,hy,eqGuard,binOp,Op.intDiv,h0,h4]
theorem RJ{t e:TypeId}{x:Operand}{lo hi:Option Operand}{A A':Option Addr}{n c l h size:Nat}(hA:A'=if c=l then A else A.map (·.add (l*size)))(hx:ρ x = .slice A n c)(hu : ∀ w,(underlying t).run P w = .ok (.slice e) w)(hs : ∀ w,(Go.sizeOf e).run P w = .ok size w)(hlo:(lo=none/\l=0) \/ ∃ y k,lo=some y/\ρ y = .int k (l:Int))(hhi:(hi=none/\h=n) \/ ∃ y k,hi=some y/\ρ y = .int k (h:Int))(h1:l<=h)(h2:h<=c) :
  (execOp ρ ⟨dst,.slice t x lo hi none,ty,pos,bn,gd⟩).run P w = .ok (.value (.slice A' (h-l) (c-l))) w:=hA ▸ adg hx hu hs hlo hhi h1 h2
end
end bJ
namespace bJ
open Go Go.RowKit
variable {ds:List Deferred} {r:Option Nat}
section
variable {P:Program} {ops:Array Oper} {Q:Exit->Act->World->Prop} {late:List Nat} {S:World->Prop} {N d i:Nat} {fuel:Nat} {T:List (Nat×Value)} {w:World} {listed:Array Bool} {rest:List Oper} {x y z:Operand} {v:Value} {ty t t':TypeId} {pos:String} {bn:Array Edge} {k:IntKind} {a b n c j:Nat} {A:Option Addr} {id:Nat} {l:List Oper} {m u:Code}
theorem Jn(h:JC r ds P m Q N T w):JL ds P ops (Exit.then (m.wpIn (Fr r) 0 P Q) Q) [] N T w:=JL.next (fun _ _ h=>h) h
theorem Jk(h:JC r ds P m Q N T w):JC r ds P .skip (Exit.then (m.wpIn (Fr r) 0 P Q) Q) N T w:=JC.PW (fun _ _ h=>h) h
theorem Js(h:JL ds P l.toArray (Exit.then (u.wpIn (Fr r) 0 P Q) Q) l N T w):JC r ds P (.seq (.region id l.toArray false) u) Q N T w:=JC.seq (JC.region h)
theorem Lm(hx:ev T x=some v)(h:JL ds P ops Q rest N ((d,v)::T) w)(hN:Nat.ble (d+1) N=true:=by rfl):JL ds P ops Q (⟨some d,.move x,ty,pos,bn,none⟩::rest) N T w:=JL.val rfl rfl hN (fun _ ha=>run_move (ha.ev hx)) h
theorem La(hx:ev T x=some v)(h:JL ds P ops Q rest N ((d,v)::T) w)(hN:Nat.ble (d+1) N=true:=by rfl):JL ds P ops Q (⟨some d,.assign x,ty,pos,bn,none⟩::rest) N T w:=JL.val rfl rfl hN (fun _ ha=>run_assign (ha.ev hx)) h
theorem Lx{vs:Array Value}(hx:ev T x=some (.tuple vs))(hv:vs[i]? = some v)(h:JL ds P ops Q rest N ((d,v)::T) w)(hN:Nat.ble (d+1) N=true:=by rfl):JL ds P ops Q (⟨some d,.extract x i,ty,pos,bn,none⟩::rest) N T w:=JL.val rfl rfl hN (fun _ ha=>IA (ha.ev hx) hv) h
theorem Ll{e:TypeId}(hx:ev T x=some (.slice A n c))(hu : ∀ w,(underlying t).run P w = .ok (.slice e) w)(h:JL ds P ops Q rest N ((d,.int .i64 n)::T) w)(hN:Nat.ble (d+1) N=true:=by rfl):JL ds P ops Q (⟨some d,.call ⟨.builtin .len,#[x],#[t]⟩,ty,pos,bn,none⟩::rest) N T w:=JL.val rfl rfl hN (fun _ ha=>iL (ha.ev hx) hu) h
theorem Lb{p q:Int}(hx:ev T x=some (.int k p))(hy:ev T y=some (.int k q))(h:JL ds P ops Q rest N ((d,.bool (decide (p<q)))::T) w)(hN:Nat.ble (d+1) N=true:=by rfl):JL ds P ops Q (⟨some d,.binOp .lss t x y t',ty,pos,bn,none⟩::rest) N T w:=JL.val rfl rfl hN (fun _ ha=>rP (ha.ev hx) (ha.ev hy) rfl) h
theorem Lt(hx:ev T x=some (.bool true))(hy:ev T y=some v)(h:JL ds P ops Q rest N ((d,v)::T) w)(hN:Nat.ble (d+1) N=true:=by rfl):JL ds P ops Q (⟨some d,.pick x y z,ty,pos,bn,none⟩::rest) N T w:=JL.val rfl rfl hN (fun _ ha=>yu (ha.ev hx) (ha.ev hy)) h
theorem Lf(hx:ev T x=some (.bool false))(hy:ev T z=some v)(h:JL ds P ops Q rest N ((d,v)::T) w)(hN:Nat.ble (d+1) N=true:=by rfl):JL ds P ops Q (⟨some d,.pick x y z,ty,pos,bn,none⟩::rest) N T w:=JL.val rfl rfl hN (fun _ ha=>yt (ha.ev hx) (ha.ev hy)) h
theorem Lz{op:Op}{w':World}(v:Value)(hrun : ∀ a,Kn ds a N T->(execOp a.eval ⟨some d,op,ty,pos,bn,none⟩).run P w = .ok (.value v) w')(h:JL ds P ops Q rest N ((d,v)::T) w')(hN:Nat.ble (d+1) N=true:=by rfl):JL ds P ops Q (⟨some d,op,ty,pos,bn,none⟩::rest) N T w:=JL.val rfl rfl hN hrun h
theorem bK{op:Op}{w':World}{want:Bool}{oj:Oper}{g:Nat}(v:Value)(hrun : ∀ a,Kn ds a N T->(execOp a.eval ⟨some d,op,ty,pos,bn,some (j,want)⟩).run P w = .ok (.value v) w')(h:JL ds P ops Q rest N ((d,v)::T) w')(hN:Nat.ble (d+1) N=true:=by rfl)(hj:ops[j]? = some oj:=by rfl)(hdj:oj.dst=some g:=by rfl)(dW:Nat.ble (g+1) N=true:=by rfl)(hv:bM T g=some (.bool want):=by rfl):JL ds P ops Q (⟨some d,op,ty,pos,bn,some (j,want)⟩::rest) N T w:=JL.Dn rfl rfl hN hj hdj dW hv hrun h
theorem Lq{op:Op}{want r:Bool}{oj:Oper}{g:Nat}(h:JL ds P ops Q rest N ((d,undef)::T) w)(hN:Nat.ble (d+1) N=true:=by rfl)(hj:ops[j]? = some oj:=by rfl)(hdj:oj.dst=some g:=by rfl)(dW:Nat.ble (g+1) N=true:=by rfl)(hv:bM T g=some (.bool r):=by rfl)(hb:(r==want)=false:=by rfl):JL ds P ops Q (⟨some d,op,ty,pos,bn,some (j,want)⟩::rest) N T w:=JL.pass rfl rfl hN hj hdj dW hv hb h
theorem dX{op:Op}{want:Bool}{oj:Oper}{g:Nat}(h:JL ds P ops Q rest N ((d,undef)::T) w)(hN:Nat.ble (d+1) N=true:=by rfl)(hj:ops[j]? = some oj:=by rfl)(hdj:oj.dst=some g:=by rfl)(dW:Nat.ble (g+1) N=true:=by rfl)(hv:bM T g=some undef:=by rfl):JL ds P ops Q (⟨some d,op,ty,pos,bn,some (j,want)⟩::rest) N T w:=JL.Qi rfl rfl hN hj hdj dW hv h
theorem dI{want:Bool}{oj:Oper}{g:Nat}(hx:ev T x=some v)(h:JL ds P ops Q rest N ((d,v)::T) w)(hN:Nat.ble (d+1) N=true:=by rfl)(hj:ops[j]? = some oj:=by rfl)(hdj:oj.dst=some g:=by rfl)(dW:Nat.ble (g+1) N=true:=by rfl)(hv:bM T g=some (.bool want):=by rfl):JL ds P ops Q (⟨some d,.move x,ty,pos,bn,some (j,want)⟩::rest) N T w:=JL.Dn rfl rfl hN hj hdj dW hv (fun _ ha=>run_move (ha.ev hx)) h
theorem Dm(i:Nat)(hi:ops[i]? = some ⟨some d,.move x,ty,pos,bn,none⟩)(hS:bY late listed->S w)(hx:ev T x=some v)(h:JR ds P ops Q late S fuel (listed.setIfInBounds i true) N ((d,v)::T) w)(hc:pM ops late listed i=true:=by kernel_rfl)(hN:Nat.ble (d+1) N=true:=by rfl)(hq : ∀ c a w,Q (.panic c) (a.put (some d) v) w->Q (.panic c) a w:=by exact fun _ _ _ h=>h):JR ds P ops Q late S (fuel+1) listed N T w:=Dv v i hi hS (fun _ ha _=>run_move (ha.ev hx)) h hc hN hq
theorem Ds(i:Nat)(hi:ops[i]? = some ⟨some d,.assign x,ty,pos,bn,none⟩)(hS:bY late listed->S w)(hx:ev T x=some v)(h:JR ds P ops Q late S fuel (listed.setIfInBounds i true) N ((d,v)::T) w)(hc:pM ops late listed i=true:=by kernel_rfl)(hN:Nat.ble (d+1) N=true:=by rfl)(hq : ∀ c a w,Q (.panic c) (a.put (some d) v) w->Q (.panic c) a w:=by exact fun _ _ _ h=>h):JR ds P ops Q late S (fuel+1) listed N T w:=Dv v i hi hS (fun _ ha _=>run_assign (ha.ev hx)) h hc hN hq
class Rt(P:Program)(fn:outParam Func)(R:outParam (Ending->World->Prop))(Q:Exit->Act->World->Prop):Prop where
 r : ∀ a w,bodyPost P fn R .ret a w->Q .ret a w
instance Rt.base{fn:Func}{R:Ending->World->Prop} : Rt P fn R (bodyPost P fn R):=⟨fun _ _ h=>h⟩
instance Rt.afP{fn:Func}{R:Ending->World->Prop}{K:Act->World->Prop}[h:Rt P fn R Q]:Rt P fn R (Exit.then K Q):=⟨fun a w e=>yh (h.r a w e)⟩
instance Rt.aeN{fn:Func}{R:Ending->World->Prop}[h:Rt P fn R Q]:Rt P fn R (Exit.inBlock id Q):=⟨fun a w e=>yg (h.r a w e)⟩
theorem Ja{fn:Func}{R:Value->World->Prop}{r:ResultVar}[q:Rt P fn (fun e w' => ∃ v,e = .returned v/\R v w') Q](hr:fn.results = #[r])(h:RV P N T w r v)(hR:R v w):JC none [] P .ret Q N T w:=JC.ret fun a ha=>q.r a w (Q8 ha hr h ⟨_,rfl,hR⟩)
theorem Jb{fn:Func}{R:Value->World->Prop}{r r':ResultVar}{v':Value}[q:Rt P fn (fun e w' => ∃ v,e = .returned v/\R v w') Q](hr:fn.results = #[r,r'])(h:RV P N T w r v)(h':RV P N T w r' v')(hR:R (.tuple #[v,v']) w):JC none [] P .ret Q N T w:=JC.ret fun a ha=>q.r a w (Cm ha hr h h' ⟨_,rfl,hR⟩)
theorem kL{ι:Type}{U:List Box}{Ps:List (World->Prop)}(_:Tg U Ps)(p:ι->Nat)(T':ι->List (Nat×Value))(G:ι->World->List Box->List (World->Prop)->Prop)(round : ∀ i w,G i w U Ps->JC r ds P m (Exit.then (fun a' w' => ∃ j,p j<p i/\Kn ds a' N (T' j)/\G j w' U Ps) Q) N (T' i) w)(i:ι)(w:World)(hG:G i w U Ps)(hT:kP T (T' i):=by (repeat refine ⟨rfl,?_⟩);trivial):JC r ds P (.loop m) Q N T w:=JC.sub hT.out (JC.loop p T' (fun i w=>G i w U Ps) round i w hG)
theorem Ky{s:TypeId}{f g o q:Nat}{fs:Array Field}{dN:Field}(e:Nat)(hx:ev T x=some (.pointer (some ⟨g,o,none⟩)))(hu : ∀ w,(underlying s).run P w = .ok (.struct fs) w)(hf:fs[f]? = some dN)(hs : ∀ w,(Go.sizeOf dN.type).run P w = .ok q w)(h:JL ds P ops Q rest N ((d,.pointer (some ⟨g,e,none⟩))::T) w)(hv:Value.pointer (some (Addr.add ⟨g,o,none⟩ dN.offset)) = .pointer (some ⟨g,e,none⟩):=by rfl)(hn:(q==0)=false:=by rfl)(hN:Nat.ble (d+1) N=true:=by rfl):JL ds P ops Q (⟨some d,.fieldAddr s x f,ty,pos,bn,none⟩::rest) N T w:=JL.val rfl rfl hN (fun _ ha=>mX (ha.ev hx) hu hf hs hn hv) h
theorem kM{e:TypeId}{q:Nat}{kj:IntKind}{J:Int}(hx:ev T x=some (.slice A n c))(hy:ev T y=some (.int kj J))(hu : ∀ w,(underlying t).run P w = .ok (.slice e) w)(hs : ∀ w,(Go.sizeOf e).run P w = .ok q w)(hJ:J=(j:Int))(hj:j<n)(hA:A.isSome=true)(h:JL ds P ops Q rest N ((d,.pointer (some (eaddr A (j*q))))::T) w)(hN:Nat.ble (d+1) N=true:=by rfl):JL ds P ops Q (⟨some d,.indexAddr t x y,ty,pos,bn,none⟩::rest) N T w:=JL.val rfl rfl hN (fun _ ha=>oK (ha.ev hx) (ha.ev hy) hu hs hJ hj hA rfl) h
theorem DY{s:TypeId}{f g o q:Nat}{fs:Array Field}{dN:Field}(e:Nat)(i:Nat)(hi:ops[i]? = some ⟨some d,.fieldAddr s x f,ty,pos,bn,none⟩)(hS:bY late listed->S w)(hx:ev T x=some (.pointer (some ⟨g,o,none⟩)))(hu : ∀ w,(underlying s).run P w = .ok (.struct fs) w)(hf:fs[f]? = some dN)(hs : ∀ w,(Go.sizeOf dN.type).run P w = .ok q w)(h:JR ds P ops Q late S fuel (listed.setIfInBounds i true) N ((d,.pointer (some ⟨g,e,none⟩))::T) w)(hv:Value.pointer (some (Addr.add ⟨g,o,none⟩ dN.offset)) = .pointer (some ⟨g,e,none⟩):=by rfl)(hn:(q==0)=false:=by rfl)(hc:pM ops late listed i=true:=by kernel_rfl)(hN:Nat.ble (d+1) N=true:=by rfl)(hq : ∀ c a w,Q (.panic c) (a.put (some d) (.pointer (some ⟨g,e,none⟩))) w->Q (.panic c) a w:=by exact fun _ _ _ h=>h):JR ds P ops Q late S (fuel+1) listed N T w:=Dv _ i hi hS (fun _ ha _=>mX (ha.ev hx) hu hf hs hn hv) h hc hN hq
theorem JS{e:TypeId}{q:Nat}{kj:IntKind}{J:Int}(i:Nat)(hi:ops[i]? = some ⟨some d,.indexAddr t x y,ty,pos,bn,none⟩)(hS:bY late listed->S w)(hx:ev T x=some (.slice A n c))(hy:ev T y=some (.int kj J))(hu : ∀ w,(underlying t).run P w = .ok (.slice e) w)(hs : ∀ w,(Go.sizeOf e).run P w = .ok q w)(hJ:J=(j:Int))(hj:j<n)(hA:A.isSome=true)(h:JR ds P ops Q late S fuel (listed.setIfInBounds i true) N ((d,.pointer (some (eaddr A (j*q))))::T) w)(hc:pM ops late listed i=true:=by kernel_rfl)(hN:Nat.ble (d+1) N=true:=by rfl)(hq : ∀ c a w,Q (.panic c) (a.put (some d) (.pointer (some (eaddr A (j*q))))) w->Q (.panic c) a w:=by exact fun _ _ _ h=>h):JR ds P ops Q late S (fuel+1) listed N T w:=Dv _ i hi hS (fun _ ha _=>oK (ha.ev hx) (ha.ev hy) hu hs hJ hj hA rfl) h hc hN hq
section
variable {U:List Box} {Ps:List (World->Prop)} {g o q:Nat} {et:TypeId} {vs:List Value}
theorem Uk(e:Nat)(i:Nat)(hi:ops[i]? = some ⟨some d,.load t x,ty,pos,bn,none⟩)(hS:bY late listed->iG U Ps w)(hx:ev T x=some (.pointer (some ⟨g,o,none⟩)))(hj:U[e]? = some ⟨g,et,vs⟩)(hv:vs[o]? = some v)(hg : ∀ w,(isAgg t).run P w = .ok false w)(h:JR ds P ops Q late (iG U Ps) fuel (listed.setIfInBounds i true) N ((d,v)::T) w)(hc:ou ops late listed i=true:=by kernel_rfl)(hN:Nat.ble (d+1) N=true:=by rfl)(hq : ∀ c a w,Q (.panic c) (a.put (some d) v) w->Q (.panic c) a w:=by exact fun _ _ _ h=>h):JR ds P ops Q late (iG U Ps) (fuel+1) listed N T w:=Df v i hi hS (fun _ ha _ hb=>iY (ha.ev hx) hg (hb.box e hj) (by simpa using hv)) h hc hN hq
theorem Uj(v:Value)(e:Nat)(i:Nat)(hi:ops[i]? = some ⟨some d,.load t x,ty,pos,bn,none⟩)(hS:bY late listed->iG U Ps w)(hx:ev T x=some (.pointer (some ⟨g,o,none⟩)))(hj:U[e]? = some ⟨g,et,vs⟩)(hg : ∀ w,(isAgg t).run P w = .ok true w)(hs : ∀ w,(Go.sizeOf t).run P w = .ok q w)(h:JR ds P ops Q late (iG U Ps) fuel (listed.setIfInBounds i true) N ((d,v)::T) w)(hn:Nat.ble (o+q) vs.length=true:=by rfl)(hv:Value.agg ((vs.drop o).take q).toArray=v:=by rfl)(hc:ou ops late listed i=true:=by kernel_rfl)(hN:Nat.ble (d+1) N=true:=by rfl)(hq : ∀ c a w,Q (.panic c) (a.put (some d) v) w->Q (.panic c) a w:=by exact fun _ _ _ h=>h):JR ds P ops Q late (iG U Ps) (fuel+1) listed N T w:=Df v i hi hS (fun _ ha _ hb=>Rz (ha.ev hx) hg hs (hb.box e hj) (by simpa using hn) hv) h hc hN hq
end
theorem St.f{W0:World}{U U':List Box}{Ps Ps':List (World->Prop)}(HS:St W0 U' Ps' w)(n m:Nat)(hU:U'.drop n=U:=by rfl)(hP:Ps'.drop m=Ps:=by rfl):bY late listed->iG U Ps w:=HS.bf n m hU hP
theorem St.arg{α:Type}{W0:World}{U:List Box}{Ps:List (World->Prop)}{R:α->List Value->World->Prop}{sz:Nat}{vs:List Value}{xs:List α}(HS:St W0 U Ps w)(f:fC U w (FL R sz (.slice A n c) vs xs)):St W0 U (EL R sz vs xs::FL R sz (.slice A n c) vs xs::Ps) w/\xs.length=n:=⟨(HS.jq f).iC 0 rfl (fun _ h=>h.el),FL.len ((HS.jq f).at_ 0 rfl)⟩
theorem St.fe{α:Type}{W0:World}{U:List Box}{Ps:List (World->Prop)}{R:α->List Value->World->Prop}{sz:Nat}{vs:List Value}{xs:List α}(HS:St W0 U (FL R sz (.slice A n c) vs xs::Ps) w):St W0 U (EL R sz vs xs::FL R sz (.slice A n c) vs xs::Ps) w:=HS.iC 0 rfl (fun _ h=>h.el)
def jE(T:List (Nat×Value)):List (Nat×Operand)->Option (List (Nat×Value))
 | []=>some []
 | (i,x)::l=>match ev T x,jE T l with
  | some v,some vs=>some ((i,v)::vs)
  | _,_=>none
theorem Kn.jE{a:Act}(h:Kn ds a N T) : ∀ {l:List (Nat×Operand)} {vs:List (Nat×Value)},bJ.jE T l=some vs->l.map (fun p=>(p.1,a.eval p.2))=vs
 | [],vs,hl=>Option.some.inj hl
 | (i,x)::l,vs,hl=>by
  unfold bJ.jE at hl
  cases h1:bJ.ev T x with
  | none=>rw [h1] at hl;cases hl
  | some u =>
   cases h2:bJ.jE T l with
   | none=>rw [h1,h2] at hl;cases hl
   | some us =>
    rw [h1,h2] at hl;obtain rfl:=Option.some.inj hl;rw [List.map_cons,h.ev h1,h.jE h2]
section
variable {ι:Type} {p:ι->Nat} {T':ι->List (Nat×Value)} {G:ι->World->Prop} {j:Nat}
theorem Jr(i:ι)(hG:G i w)(hm:p i<j:=by first | omega | (dsimp only;omega))(hT:kP T (T' i):=by (repeat refine ⟨rfl,?_⟩);trivial):JL ds P ops (Exit.then (fun a' w' => ∃ i,p i<j/\Kn ds a' N (T' i)/\G i w') Q) [] N T w:=JL.round i hm hT.out hG
theorem Kw(i:ι)(hG:G i w)(hm:p i<j:=by first | omega | (dsimp only;omega))(hT:kP T (T' i):=by (repeat refine ⟨rfl,?_⟩);trivial):JL ds P ops (Exit.inBlock id (Exit.then (fun a' w' => ∃ i,p i<j/\Kn ds a' N (T' i)/\G i w') Q)) [] N T w:=JL.Ri i hm hT.out hG
end
theorem St.ot{W0:World}{U U':List Box}{Ps Ps':List (World->Prop)}{F:World->Prop}(HS:St W0 U' Ps' w)(n m k:Nat)(hi:Ps'[k]? = some F:=by rfl)(hU:U'.drop n=U:=by rfl)(hP:Ps'.drop m=Ps:=by rfl):St W0 U (F::Ps) w:=HS.out n m k hU hP hi (fun _ h=>h)
theorem St.o0{W0:World}{U U':List Box}{Ps Ps':List (World->Prop)}(HS:St W0 U' Ps' w)(n m:Nat)(hU:U'.drop n=U:=by rfl)(hP:Ps'.drop m=Ps:=by rfl):St W0 U Ps w:=HS.aaz n m hU hP
theorem St.oh{W0:World}{U U':List Box}{Ps Ps':List (World->Prop)}{F F':World->Prop}(HS:St W0 U' Ps' w)(n m k:Nat)(hi:Ps'[k]? = some F)(hq : ∀ w,F w->F' w)(hU:U'.drop n=U:=by rfl)(hP:Ps'.drop m=Ps:=by rfl):St W0 U (F'::Ps) w:=HS.out n m k hU hP hi hq
end
end bJ
namespace Go.Proofs.AZQ
open Go Go.RowKit Lw
theorem bu.start{w:World}(ht:Tz w)(hb:Tab w):bu w w [] [] [] []:=⟨⟨fun _ h=>by simp at h,fun _ h=>by simp at h,Below.refl _ _⟩,fun _ h=>by simp at h,fun _ h=>by simp at h,ht,hb,fun _ h=>by simp at h,fun _ h=>by simp at h⟩
end Go.Proofs.AZQ
namespace Lw
open Go Go.RowKit
structure Fh where
 s:Bool
 A:Option Addr
 n:Nat
 c:Nat
 A':Option Addr
 n':Nat
 c':Nat
def Fh.cells(a:Fh):List Value:=[.bool a.s,.slice a.A a.n a.c,.slice a.A' a.n' a.c']
end Lw
namespace Lw
theorem ZV{a b:List Nat}(hl:a.length=b.length)(h : ∀ j,j<a.length->dg a j=dg b j):a=b:=by
 refine List.ext_getElem hl fun j h1 h2 => ?_;rw [<- lU h1,<- lU h2];grind
theorem fields_eq{q r:Rat} : q=r↔rs q=rs r/\rn q=rn r/\rd q=rd r:=by
 constructor
 ·grind
 ·rintro ⟨h1,h2,h3⟩
  rw [<- x9 q,<- x9 r,h1,h2,h3]
end Lw
namespace Go.Proofs.AZQ
open Go Go.RowKit Lw
set_option maxRecDepth 100000 in
set_option maxHeartbeats 1600000 in
theorem TL(A A':Option Addr)(ns ms:List Nat)(n m c c' B B':Nat)(w:World)(h:Rd w B A ns)(h':Rd w B' A' ms)(hn:ns.length=n)(hm:ms.length=m)(hl:n<=4294967296)(hl':m<=4294967296) :
  Calls Tryz.prog 174 #[.slice A n c,.slice A' m c'] w fun e w'=>e = .returned (.bool (decide (ns=ms))) /\ ∃ q,w'=w.drewN q:=by
 have Hn:=Lib.hid hn;have Hm:=Lib.hid hm;clear hn hm
 by_cases hnm:n=m
 ·subst hnm
  have hb0:((n:Int) != (n:Int))=false:=by simp
  go_enter Tryz.func174,Tryz.ntmps174
  go_wp2_with fail
  go_loopw [5] (fun i wr => ∃ (k q:Nat),k<=n/\i = .int .i64 k/\wr=w.drewN q/\Hid (∀ j,j<k->dg ns j=dg ms j)) (fun i _=>n-(intOf i).toNat)
  case atStart=>exact ⟨0,0,ahl _,rfl,rfl,Lib.hid (fun j hj=>absurd hj af)⟩
  case round =>
   obtain ⟨k,q,hk,rfl,rfl,hall⟩:=hrel
   by_cases hkn:k<n
   ·obtain ⟨b,off,rfl,hbb,hcell,hlt⟩:=h.at_ (k:=k) (by rw [Hn.out];omega)
    obtain ⟨b',off',rfl,ae6,hcell',hlt'⟩:=h'.at_ (k:=k) (by rw [Hm.out];omega)
    by_cases he:dg ns k=dg ms k
    ·have hbq:((dg ns k:Int) != (dg ms k:Int))=false:=by simp [he]
     have HA2:=Lib.hid (fun j (hj:j<k+1)=>show dg ns j=dg ms j by
      rcases ahs j k with h1 | h1
      ·exact hall.out j h1
      ·obtain rfl:j=k:=af
       exact he)
     clear he
     go_wp2
     go_quiet (fail)
     go_wp2
     go_roundw
     case rel=>exact ⟨k+1,q+nq,af,by go_num,rfl,HA2⟩
     case measure=>simp [intOf];omega
    ·have hbq:((dg ns k:Int) != (dg ms k:Int))=true:=by rw [bne_iff_ne];omega
     have HF:=Lib.hid (show decide (ns=ms)=false from decide_eq_false (fun e=>he (by rw [e])));clear he
     go_wp2
     go_quiet (fail)
     go_wp2
     go_ret
     exact ⟨iW HF.out.symm,q+nq,by first | rfl | (rw [World.drewN_drewN])⟩
   ·obtain rfl:k=n:=af
    have HF:=Lib.hid (show decide (ns=ms)=true from decide_eq_true (ZV (Hn.out.trans Hm.out.symm) (fun j hj=>hall.out j (by rw [<- Hn.out];exact hj))))
    go_wp2
    go_ret
    exact ⟨iW HF.out.symm,_,rfl⟩
 ·have hb0:((n:Int) != (m:Int))=true:=by rw [bne_iff_ne];omega
  have HF:=Lib.hid (show decide (ns=ms)=false from decide_eq_false (fun e=>hnm (by rw [<- Hn.out,<- Hm.out,e])));clear hnm
  go_enter Tryz.func174,Tryz.ntmps174
  go_wp2_with fail
  go_ret
  exact ⟨iW HF.out.symm,0,rfl⟩
section
variable {W0 w:World} {bs:List Bx} {L:List En} {ts:List Bt} {M:List Qn} {s s':Bool} {A A' B B':Option Addr} {n c n' c' m d m' d' k k':Nat} {q r:Rat}
set_option maxRecDepth 100000 in
set_option maxHeartbeats 1600000 in
theorem VX(HE:bu W0 w bs L ts M)(h:⟨.agg #[.bool s,.slice A n c,.slice A' n' c'],q,k,true⟩∈M)(h':⟨.agg #[.bool s',.slice B m d,.slice B' m' d'],r,k',true⟩∈M)(hk:k+k'<=100000) :
  Calls Tryz.prog 107 #[.agg #[.bool s,.slice A n c,.slice A' n' c'],.agg #[.bool s',.slice B m d,.slice B' m' d']] w fun e w'=>e = .returned (.bool (decide (q=r)))/\bu W0 w' bs L ts M:=by
 refine Calls.mono (R:=fun e w'=>e = .returned (.bool (decide (q=r)))/\bu w w' [] L [] M) ?_ fun _ _ hh=>⟨hh.1,HE.back hh.2⟩;replace HE:=(HE.here.jc (.bool s) (.slice A n c) (.slice A' n' c')).jc (.bool s') (.slice B m d) (.slice B' m' d');simp only [World.size_alloc] at HE;obtain ⟨g1,g2,g3,r1,r2,l1,l2,-⟩:=(HE.fr _ h).own;obtain ⟨f1,f2,f3,r3,r4,l3,l4,-⟩:=(HE.fr _ h').own;have C1:=Lib.hid (TL A B (rn q) (rn r) n m c d _ _ _ r1 r3 g2.symm f2.symm af af);have C2:=Lib.hid (fun W (hb:Below _ _ W)=>TL A' B' (rd q) (rd r) n' m' c' d' _ _ W (r2.next hb (ahj _)) (r4.next hb (ahj _)) g3.symm f3.symm af af);obtain ⟨q0,q1,q2,q3,q4,q5⟩:=HE.c3 au;obtain ⟨q6,q7,q8,q9,q10,q11⟩:=HE.c3 ak
 by_cases hs:s=s'
 ·have hb0:(s==s')=true:=by rw [hs];simp
  by_cases hn:rn q=rn r
  ·have H1:=Lib.hid (decide_eq_true hn)
   have H2:=Lib.hid (show decide (rd q=rd r)=decide (q=r) by
    rw [decide_eq_decide,fields_eq];exact ⟨fun e=>⟨by rw [<- g1,<- f1,hs],hn,e⟩,fun e=>e.2.2⟩)
   clear hs hn g1 g2 g3 f1 f2 f3 r1 r2 r3 r4 l1 l2 l3 l4
   go_enter Tryz.func107,Tryz.ntmps107
   go_wp2_with fail
   refine C1.out.mono ?_;rw [H1.out];rintro e w1 ⟨rfl,p,rfl⟩
   go_wp2_with fail
   refine (C2.out _ (below_drewN' _ _ p)).mono ?_;rw [H2.out];rintro e w2 ⟨rfl,p2,rfl⟩
   go_wp2_with fail
   go_ret
   first | exact ⟨rfl,(HE.next (below_drewN' _ _ (p+p2))).bare⟩ | exact ⟨rfl,((HE.next (below_drewN' _ _ p)).next (below_drewN' _ _ p2)).bare⟩
  ·have H1:=Lib.hid (decide_eq_false hn)
   have HF:=Lib.hid (show decide (q=r)=false from decide_eq_false (fun e=>hn (by rw [e])));clear hs hn g1 g2 g3 f1 f2 f3 r1 r2 r3 r4 l1 l2 l3 l4
   go_enter Tryz.func107,Tryz.ntmps107
   go_wp2_with fail
   refine C1.out.mono ?_;rw [H1.out];rintro e w1 ⟨rfl,p,rfl⟩
   go_wp2_with fail
   go_ret
   exact ⟨iW HF.out.symm,(HE.next (below_drewN' _ _ p)).bare⟩
 ·have hb0:(s==s')=false:=by simpa using hs
  have HF:=Lib.hid (show decide (q=r)=false from decide_eq_false (fun e=>hs (by rw [g1,f1,e])));clear hs g1 g2 g3 f1 f2 f3 r1 r2 r3 r4 l1 l2 l3 l4
  go_enter Tryz.func107,Tryz.ntmps107
  go_wp2_with fail
  go_ret
  exact ⟨iW HF.out.symm,HE.bare⟩
end
end Go.Proofs.AZQ
namespace Lw
open Go Go.RowKit
theorem dn.shape{w:World}{e:Qn}(h:dn w e) : ∃ (s:Bool) (A:Option Addr) (n c:Nat) (A':Option Addr) (n' c':Nat),e.v = .agg #[.bool s,.slice A n c,.slice A' n' c']:=by
 obtain ⟨s,A,n,c,A',n',c',_,_,h1,_⟩:=h;grind
end Lw
namespace Go.Proofs.AZQ
open Go Go.RowKit Lw
section
variable {W0 w:World} {bs:List Bx} {L:List En} {ts:List Bt} {M:List Qn} {v v':Value} {q r:Rat} {k k':Nat} {b b':Bool}
def vU(W0:World)(bs:List Bx)(L:List En)(ts:List Bt)(M:List Qn)(q:Rat)(k:Nat)(e:Ending)(w':World):Prop :=
 ∃ u,e = .returned u/\bu W0 w' bs L ts (⟨u,q,k,true⟩::M)
theorem vU.of{e:Ending}(hh:kJ W0 bs L ts M q k e w):vU W0 bs L ts M q k e w:=by
 obtain ⟨s,A,n,c,A',n',c',rfl,he⟩:=hh;exact ⟨_,rfl,he⟩
theorem X3(HE:bu W0 w bs L ts M)(h:⟨v,q,k,b⟩∈M)(hk:k<=100000) :
  Calls Tryz.prog 137 #[v] w fun e w'=>e = .returned (.bool b)/\bu W0 w' bs L ts M:=by
 obtain ⟨s,A,n,c,A',n',c',ns,ms,e1,r1,r2,e2,e3,e4,e5,e6,e7,e8,e9⟩:=HE.fr _ h;dsimp only at e1 e4 e5 e9;subst e1 e9;exact (Nh s A A' ns ms n n' c c' _ _ w r1 r2 (ahj _) (ahj _) e2 e3 af af e6 e7 (HE.tz.next HE.below)).mono fun e w' hh=>⟨hh.1,HE.next hh.2⟩
theorem bu.c9{g1 g2 g3:Nat}{x1 y1 z1 x2 y2 z2 x3 y3 z3:Value}(h:bu W0 w bs L ts M)(h1:⟨g1,x1,y1,z1⟩∈ts)(h2:⟨g2,x2,y2,z2⟩∈ts)(h3:⟨g3,x3,y3,z3⟩∈ts) :
  w.cell? ⟨g1,0,none⟩=some x1/\w.cell? ⟨g1,1,none⟩=some y1/\w.cell? ⟨g1,2,none⟩=some z1/\w.cell? ⟨g2,0,none⟩=some x2/\w.cell? ⟨g2,1,none⟩=some y2/\w.cell? ⟨g2,2,none⟩=some z2/\w.cell? ⟨g3,0,none⟩=some x3/\w.cell? ⟨g3,1,none⟩=some y3/\w.cell? ⟨g3,2,none⟩=some z3 :=
 ⟨(h.c3 h1).1,(h.c3 h1).2.1,(h.c3 h1).2.2.1,(h.c3 h2).1,(h.c3 h2).2.1,(h.c3 h2).2.2.1,(h.c3 h3).1,(h.c3 h3).2.1,(h.c3 h3).2.2.1⟩
theorem bu.V9{g1:Nat}{x1 y1 z1:Value}(h:bu W0 w bs L ts M)(h1:⟨g1,x1,y1,z1⟩∈ts) :
  w.cell? ⟨g1,0,none⟩=some x1/\w.cell? ⟨g1,1,none⟩=some y1/\w.cell? ⟨g1,2,none⟩=some z1:=⟨(h.c3 h1).1,(h.c3 h1).2.1,(h.c3 h1).2.2.1⟩
end
end Go.Proofs.AZQ
