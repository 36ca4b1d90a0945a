/- Part of a proof, said shortly. -/
import Derived.Laws.IdiomStrings
import Derived.Test.YtmmgoghiiionfaaGreatDoorAlz
import Derived.Test.YtmmgoghiiionfaaGreatDoorC21
import Derived.Test.YtmmgoghiiionfaaGreatDoorC10
import Derived.Test.YtmmgoghiiionfaaGreatDoorC9
import Derived.Test.YtmmgoghiiionfaaGreatDoorC18
set_option linter.unusedVariables false
set_option linter.unusedSimpArgs false
namespace Run
open Go Go.RowKit bJ
section
variable {M:Mp} {P:Program} {ρ:Operand->Value} {w:World} {dst:Option Tmp} {ty:TypeId} {pos:String} {bn:Array Edge} {gd:Option (Nat×Bool)} {Gl:List VB} {T:Tm} {v:V}
theorem tK{op:BinOp}{b:Bool}(h:oZ op b=some v):(op = .eql/\v = .one (.bool b))\/(op = .neq/\v = .one (.bool (!b))):=by
 unfold oZ at h
 split at h
 ·exact .inl ⟨rfl,jS h⟩
 ·exact .inr ⟨rfl,jS h⟩
 ·cases h
theorem PR{x:Operand}(h:ev T x=some v)(ht:Ops M T ρ [x]):Yl P ρ (.move x) w dst ty pos bn gd M v/\Yl P ρ (.assign x) w dst ty pos bn gd M v:=⟨⟨_,ht.hd h,run_move rfl⟩,⟨_,ht.hd h,run_assign rfl⟩⟩
theorem un{d:TypeDesc}{t:TypeId}(h:P.underlying t=some d) : ∀ w,(underlying t).run P w = .ok d w:=fun w=>run_underlying h w
theorem V4{t:TypeId}{fs:Array Field}{pl:List (Nat×Nat)}{z:List C}{vs:List (Nat×List C)}{ps:Array (Nat×Operand)}{c:List C}(hu:P.underlying t=some (.struct fs))(hz:zero P t=some z)(hp:places P fs=some pl)(hvs:LR (fun p q=>p.1=q.1/\lJ M p.2 q.2) vs (ps.toList.map fun p=>(p.1,ρ p.2)))(h:fill (fun i=>nth i pl) z vs=some c):Yl P ρ (.build t ps) w dst ty pos bn gd M (.agg c):=by
 obtain ⟨i,zv,h1,h2,h3,_⟩:=vJ (M:=M) hz;have hf:(fun i=>nth i pl)=fun i=>pl[i]? := funext fun _=>rE;rw [hf] at h;obtain ⟨cr,h4,h5⟩:=zF hvs h3 h;refine ⟨_,⟨cr.toList,h5,rfl⟩,?_⟩
 have hb:P.built t (ps.map fun (i,x)=>(i,ρ x)).toList=some cr:=by
  unfold places at hp;unfold Program.built;simp only [h1,hu,h2,hp]
  simpa using h4
 simp [execOp,run_build w t _ cr hb]
theorem VZ{t e:TypeId}{n q:Nat}{z:List C}{vs:List (Nat×List C)}{ps:Array (Nat×Operand)}{c:List C}(hu:P.underlying t=some (.array n e))(hz:zero P t=some z)(hq:sz P e=some q)(hvs:LR (fun p q=>p.1=q.1/\lJ M p.2 q.2) vs (ps.toList.map fun p=>(p.1,ρ p.2)))(h:fill (fun i=>some (i*q,q)) z vs=some c):Yl P ρ (.build t ps) w dst ty pos bn gd M (.agg c):=by
 obtain ⟨i,zv,h1,h2,h3,_⟩:=vJ (M:=M) hz;obtain ⟨ie,h6,rfl⟩:=Option.map_eq_some_iff.1 hq;obtain ⟨cr,h4,h5⟩:=zF hvs h3 h;refine ⟨_,⟨cr.toList,h5,rfl⟩,?_⟩
 have hb:P.built t (ps.map fun (i,x)=>(i,ρ x)).toList=some cr:=by
  unfold Program.built;simp only [h1,hu,h2,h6]
  simpa using h4
 simp [execOp,run_build w t _ cr hb]
theorem CX{a:ByteArray}{h:(Value.string a).oneCell'=true}{r:Value}(k:VR M (.one (.bU (.string a) h)) r):r = .string ⟨a.data.toList.toArray⟩:=by
 have k:r = .string a:=k;rw [k]
theorem XG{t e:TypeId}{A:Option Addr}{n c:Nat}(hu:P.underlying t=some (.slice e)):(Op.equal t (.slice A n c) (.slice none 0 0)).run P w = .ok A.isNone w:=by
 unfold Op.equal Op.maxDepth Op.equalIn
 cases A <;> simp [run_underlying hu]
theorem VO{op:BinOp}{t t':TypeId}{x y:Operand}{f:Tm->Option V}(ho:dw P Gl (.binOp op t x y t') = .pv f)(hv:f T=some v)(ht:Ops M T ρ [x,y]):Yl P ρ (.binOp op t x y t') w dst ty pos bn gd M v:=by
 unfold dw at ho;dsimp only at ho
 split at ho
 ·rename_i hu
  cases ho;obtain ⟨a,h1,hv⟩:=bC.1 hv;obtain ⟨b,h2,hv⟩:=bC.1 hv;obtain ⟨a',h3,hv⟩:=AP hv (ht.hd h1);obtain ⟨b',h4,hv⟩:=AP hv (ht.tl.hd h2);rcases tK hv with ⟨rfl,rfl⟩ | ⟨rfl,rfl⟩
  ·exact ⟨_,rfl,acI h3 h4 (un hu) rfl⟩
  ·exact ⟨_,rfl,acY h3 h4 (un hu) rfl⟩
 ·cases ho
  obtain ⟨a,h1,hv⟩:=bC.1 hv;obtain ⟨b,h2,hv⟩:=bC.1 hv;have k1:=ht.hd h1;have k2:=ht.tl.hd h2;unfold Le at hv
  split at hv
  ·replace k1:=CX k1
   replace k2:=CX k2
   split at hv
   ·obtain ⟨h5,hv⟩:=bZ.1 hv
    cases hv;have:=aho h5;exact ⟨_,rfl,iw k1 k2 af rfl⟩
   ·rcases tK hv with ⟨rfl,rfl⟩ | ⟨rfl,rfl⟩
    ·exact ⟨_,rfl,yw k1 k2 rfl⟩
    ·refine ⟨_,rfl,?_⟩
     have h6:=yw (P:=P) (w:=w) (dst:=dst) (ty:=ty) (pos:=pos) (bn:=bn) (gd:=gd) (t:=t) (t':=t') k1 k2 rfl;simp [execOp,k1,k2,eqGuard,binOp,Op.stringOp] at h6 ⊢;simp [h6]
  ·cases hv
 ·rename_i hu
  cases ho;obtain ⟨a,h1,hv⟩:=bC.1 hv;have k1:=ht.hd h1;unfold O0 at hv
  split at hv
  ·rcases tK hv with ⟨rfl,rfl⟩ | ⟨rfl,rfl⟩
   ·exact ⟨_,rfl,acK k1 (ht.tl.hd (u := .one (.bU .nilIface rfl)) rfl) (un hu)⟩
   ·exact ⟨_,rfl,RG k1 (ht.tl.hd (u := .one (.bU .nilIface rfl)) rfl) (un hu)⟩
  ·rcases tK hv with ⟨rfl,rfl⟩ | ⟨rfl,rfl⟩
   ·exact ⟨_,rfl,acJ k1 (ht.tl.hd (u := .one (.bU .nilIface rfl)) rfl) (un hu)⟩
   ·exact ⟨_,rfl,RF k1 (ht.tl.hd (u := .one (.bU .nilIface rfl)) rfl) (un hu)⟩
  ·cases hv
 ·rename_i hu
  cases ho;obtain ⟨a,h1,hv⟩:=bC.1 hv;have k1:=ht.hd h1;have k2:ρ (.const (.slice none 0 0)) = .slice none 0 0:=ht.tl.hd (u := .one (.bU (.slice none 0 0) rfl)) rfl
  have key : ∀ A n c,ρ x = .slice A n c -> ∀ op,(op = .eql->(execOp ρ ⟨dst,.binOp op t x (.const (.slice none 0 0)) t',ty,pos,bn,gd⟩).run P w = .ok (.value (.bool A.isNone)) w)/\(op = .neq->(execOp ρ ⟨dst,.binOp op t x (.const (.slice none 0 0)) t',ty,pos,bn,gd⟩).run P w = .ok (.value (.bool (!A.isNone))) w):=fun A n c hx op=>by
   constructor <;> rintro rfl <;> simp [execOp,hx,k2,eqGuard,binOp,XG hu]
  unfold isS at hv
  split at hv
  ·rcases tK hv with ⟨rfl,rfl⟩ | ⟨rfl,rfl⟩
   ·exact ⟨_,rfl,(key _ _ _ k1 _).1 rfl⟩
   ·exact ⟨_,rfl,(key _ _ _ k1 _).2 rfl⟩
  ·obtain ⟨g,κ,_,k1⟩:=k1
   rcases tK hv with ⟨rfl,rfl⟩ | ⟨rfl,rfl⟩
   ·exact ⟨_,rfl,(key _ _ _ k1 _).1 rfl⟩
   ·exact ⟨_,rfl,(key _ _ _ k1 _).2 rfl⟩
  ·cases hv
 ·cases ho
  simp only [abK] at hv;obtain ⟨a,h1,hv⟩:=bC.1 hv;obtain ⟨b,h2,hv⟩:=bC.1 hv;have k1:=ht.hd h1;have k2:=ht.tl.hd h2;rcases pR hv k1 with ⟨k,n,e1,_,hv⟩ | hv
  ·rcases pR hv k2 with ⟨l,m,e2,_,hv⟩ | hv
   ·exact VL hv e1 e2
   ·exact Ld hv k1 k2
  ·exact Ld hv k1 k2
 ·cases ho
theorem acW{t:TypeId}{x:Operand}{k:IntKind}{a:Int}(hx:ρ x = .int k a):(execOp ρ ⟨dst,.unOp .neg t x,ty,pos,bn,gd⟩).run P w = .ok (.value (.int k (k.wrap (-a)))) w:=by
 simp [execOp,hx,Op.unary,Op.intArith]
theorem acU{x y:Operand}{eu:Array TypeId}{k l:IntKind}{a b:Nat}(hx:ρ x = .int k (a:Int))(hy:ρ y = .int l (b:Int)):(execOp ρ ⟨dst,.call ⟨.builtin .max,#[x,y],eu⟩,ty,pos,bn,gd⟩).run P w = .ok (.value (.int k ((max a b:Nat):Int))) w:=by
 simp [execOp,resolve,invoke,builtin,Builtin.max_,Builtin.max2,hx,hy]
 split <;> omega
theorem acV{x y:Operand}{eu:Array TypeId}{k l:IntKind}{a b:Nat}(hx:ρ x = .int k (a:Int))(hy:ρ y = .int l (b:Int)):(execOp ρ ⟨dst,.call ⟨.builtin .min,#[x,y],eu⟩,ty,pos,bn,gd⟩).run P w = .ok (.value (.int k ((min a b:Nat):Int))) w:=by
 simp [execOp,resolve,invoke,builtin,Builtin.min_,Builtin.min2,hx,hy]
 split <;> omega
theorem abk{o:Op}{f:Tm->Option V}(ho:dw P Gl o = .pv f)(hv:f T=some v)(ht:Ops M T ρ o.operands.toList):Yl P ρ o w dst ty pos bn gd M v:=by
 cases o with
 | move x=>cases ho;exact (PR hv ht).1
 | assign x=>cases ho;exact (PR hv ht).2
 | pick c a b =>
  cases ho;obtain ⟨u,h1,hv⟩:=bC.1 hv;obtain ⟨b',h2,hv⟩:=AP hv (ht.hd h1);rcases dH.1 hv with ⟨rfl,hv⟩ | ⟨rfl,hv⟩
  ·exact ⟨_,ht.tl.hd hv,yu h2 rfl⟩
  ·exact ⟨_,ht.tl.tl.hd hv,yt h2 rfl⟩
 | build t ps =>
  have ht:Ops M T ρ (ps.toList.map (·.2)):=by simpa [Op.operands] using ht
  unfold dw at ho;dsimp only at ho
  split at ho
  ·split at ho <;> cases ho
   obtain ⟨vs,h1,hv⟩:=bC.1 hv;obtain ⟨c,h2,hv⟩:=bC.1 hv
   cases hv;exact V4 (by assumption) (by assumption) (by assumption) (zx ht h1) h2
  ·split at ho <;> cases ho
   obtain ⟨vs,h1,hv⟩:=bC.1 hv;obtain ⟨c,h2,hv⟩:=bC.1 hv
   cases hv;exact VZ (by assumption) (by assumption) (by assumption) (zx ht h1) h2
  ·cases ho
 | nilCheck x =>
  cases ho;obtain ⟨u,h1,hv⟩:=bC.1 hv;obtain ⟨b,o,g,κ,rfl,h2,h3,hv⟩:=oW hv (ht.hd h1)
  cases hv;exact ⟨_,⟨g,κ,h2,rfl⟩,by simp [execOp,h3]⟩
 | binOp op t x y t'=>exact VO ho hv ht
 | unOp op t x =>
  unfold dw at ho
  cases op <;> cases ho
  ·obtain ⟨u,h1,hv⟩:=bC.1 hv
   split at hv
   ·obtain ⟨⟨k,a⟩,h2,hv⟩:=bC.1 hv
    exact ⟨_,rY hv,acW (toI_ok h2 (ht.hd h1))⟩
   ·cases hv
  ·obtain ⟨u,h1,hv⟩:=bC.1 hv
   obtain ⟨b,h2,hv⟩:=AP hv (ht.hd h1);have h3:=kE (P:=P) (w:=w) (dst:=dst) (ty:=ty) (pos:=pos) (bn:=bn) (gd:=gd) (t:=t) h2;rcases dH.1 hv with ⟨rfl,hv⟩ | ⟨rfl,hv⟩ <;> cases hv
   ·exact ⟨_,rfl,h3⟩
   ·exact ⟨_,rfl,h3⟩
 | convert s d x =>
  unfold dw at ho;dsimp only at ho
  split at ho
  ·cases ho
   obtain ⟨u,h1,hv⟩:=bC.1 hv;rcases pR hv (ht.hd h1) with ⟨k,n,e1,_,hv⟩ | hv
   ·exact ⟨_,qx hv,Ru e1 (un (by assumption)) (un (by assumption)) rfl⟩
   ·split at hv
    ·exact ⟨_,rY hv,Ru (ht.hd h1) (un (by assumption)) (un (by assumption)) rfl⟩
    ·cases hv
  ·split at ho <;> cases ho
  ·cases ho
 | makeInterface t x =>
  unfold dw at ho;rcases dH.1 ho with ⟨hc,ho⟩ | ⟨_,ho⟩ <;> cases ho
  obtain ⟨u,h1,hv⟩:=bC.1 hv;have k1:=ht.hd h1
  split at hv
  ·cases hv;exact ⟨_,rfl,yj k1 hc⟩
  ·cases hv;exact ⟨_,rfl,yj k1 hc⟩
  ·cases hv
 | fieldAddr t x fi =>
  unfold dw at ho;dsimp only at ho
  split at ho <;> try cases ho
  split at ho <;> try cases ho
  split at ho <;> cases ho
  rename_i hu _ _ hf _ _ hs
  obtain ⟨u,h1,hv⟩:=bC.1 hv;obtain ⟨b,o,g,κ,rfl,h2,h3,hv⟩:=oW hv (ht.hd h1);rw [jF] at hv
  cases hv;refine ⟨_,⟨g,κ,h2,rfl⟩,mX h3 (un hu) hf (jC hs) (by simp) ?_⟩;unfold Addr.add
  split
  ·rename_i h0;simp [h0]
  ·rfl
 | field t x fi =>
  unfold dw at ho;dsimp only at ho
  split at ho <;> try cases ho
  split at ho <;> try cases ho
  split at ho <;> cases ho
  ·rename_i hu _ _ hf _ _ _ hg hs
   obtain ⟨u,h1,hv⟩:=bC.1 hv;have k1:=ht.hd h1
   split at hv
   ·obtain ⟨l,h2,hv⟩:=bC.1 hv
    cases hv;obtain ⟨rs,e1,e2⟩:=k1;rw [lV] at h2;obtain ⟨rfl,_⟩:=ni.1 h2;refine ⟨_,⟨_,(e1.drop _).take _,rfl⟩,acM e2 (un hu) hf (oV hg) (jC hs) ?_⟩
    congr 1
    apply Array.ext';simp [List.extract]
   ·cases hv
  ·rename_i hu _ _ hf _ _ hg
   obtain ⟨u,h1,hv⟩:=bC.1 hv;have k1:=ht.hd h1
   split at hv
   ·obtain ⟨l,h2,hv⟩:=bC.1 hv
    cases hv;obtain ⟨rs,e1,e2⟩:=k1;rw [rE] at h2;obtain ⟨b,h3,h4⟩:=e1.get h2;exact ⟨_,h4,acO e2 (un hu) hf (oV hg) (by simpa using h3)⟩
   ·cases hv
 | indexAddr t x y =>
  unfold dw at ho;dsimp only at ho
  split at ho
  ·split at ho <;> cases ho
   obtain ⟨u,h1,hv⟩:=bC.1 hv;obtain ⟨j,h2,hv⟩:=bC.1 hv;obtain ⟨k,h3⟩:=rD h2 (fun _ h=>ht.tl.hd h);have k1:=ht.hd h1
   split at hv
   ·obtain ⟨h4,hv⟩:=bZ.1 hv
    rw [jF] at hv
    cases hv;obtain ⟨g,κ,e1,e2⟩:=k1;exact ⟨_,⟨g,κ,e1,rfl⟩,Ry e2 h3 (un (by assumption)) (jC (by assumption)) rfl (by simpa using h4) rfl⟩
   ·cases hv
  ·split at ho <;> cases ho
   obtain ⟨u,h1,hv⟩:=bC.1 hv;obtain ⟨j,h2,hv⟩:=bC.1 hv;obtain ⟨k,h3⟩:=rD h2 (fun _ h=>ht.tl.hd h);obtain ⟨b,o,g,κ,rfl,e1,e2,hv⟩:=oW hv (ht.hd h1);obtain ⟨h4,hv⟩:=bZ.1 hv;rw [jF] at hv
   cases hv;exact ⟨_,⟨g,κ,e1,rfl⟩,acP e2 h3 (un (by assumption)) (jC (by assumption)) rfl (by simpa using h4) rfl⟩
  ·cases ho
 | index t x y =>
  unfold dw at ho;dsimp only at ho
  split at ho <;> cases ho
  obtain ⟨u,h1,hv⟩:=bC.1 hv;obtain ⟨j,h2,hv⟩:=bC.1 hv;obtain ⟨k,h3⟩:=rD h2 (fun _ h=>ht.tl.hd h);have k1:=ht.hd h1
  split at hv
  ·obtain ⟨c,h4,hv⟩:=bC.1 hv
   cases hv;rw [rE] at h4;exact ⟨_,rfl,ac7 (CX k1) h3 (un (by assumption)) rfl h4 rfl⟩
  ·cases hv
 | extract x i =>
  cases ho;obtain ⟨u,h1,hv⟩:=bC.1 hv;have k1:=ht.hd h1
  split at hv
  ·obtain ⟨c,h4,hv⟩:=bC.1 hv
   rw [rE] at h4;obtain ⟨rs,e1,e2⟩:=k1;obtain ⟨b,h5,h6⟩:=e1.get h4
   split at hv <;> cases hv
   ·exact ⟨_,h6,IA e2 (by simpa using h5)⟩
   ·exact ⟨_,h6,IA e2 (by simpa using h5)⟩
  ·cases hv
 | call c =>
  obtain ⟨ce,xs,eu⟩:=c
  cases ce with
  | builtin b =>
   unfold dw at ho;dsimp only at ho
   split at ho
   ·rename_i x t hx Zt
    obtain ⟨rfl⟩:xs = #[x]:=by rw [<- hx]
    obtain ⟨rfl⟩:eu = #[t]:=by rw [<- Zt]
    split at ho <;> cases ho
    ·obtain ⟨u,h1,hv⟩:=bC.1 hv
     have k1:=(show Ops M T ρ [x] by simpa [Op.operands,Call.operands] using ht).hd h1
     split at hv <;> cases hv
     ·obtain ⟨g,κ,_,e2⟩:=k1
      exact ⟨_,rfl,iL e2 (un (by assumption))⟩
     ·exact ⟨_,rfl,iL k1 (un (by assumption))⟩
    ·obtain ⟨u,h1,hv⟩:=bC.1 hv
     have k1:=(show Ops M T ρ [x] by simpa [Op.operands,Call.operands] using ht).hd h1
     split at hv
     ·rw [jF] at hv
      cases hv;exact ⟨_,rfl,adf (CX k1) (un (by assumption)) rfl⟩
     ·cases hv
   ·rename_i x y hx
    obtain ⟨rfl⟩:xs = #[x,y]:=by rw [<- hx]
    have ht:Ops M T ρ [x,y]:=by simpa [Op.operands,Call.operands] using ht
    cases ho;obtain ⟨u,h1,hv⟩:=bC.1 hv;obtain ⟨u',h2,hv⟩:=bC.1 hv;rcases pR hv (ht.hd h1) with ⟨k,n,e1,_,hv⟩ | hv
    ·rcases pR hv (ht.tl.hd h2) with ⟨l,m,e2,_,hv⟩ | hv
     ·exact ⟨_,Di hv,acU e1 e2⟩
     ·cases hv
    ·cases hv
   ·rename_i x y hx
    obtain ⟨rfl⟩:xs = #[x,y]:=by rw [<- hx]
    have ht:Ops M T ρ [x,y]:=by simpa [Op.operands,Call.operands] using ht
    cases ho;obtain ⟨u,h1,hv⟩:=bC.1 hv;obtain ⟨u',h2,hv⟩:=bC.1 hv;rcases pR hv (ht.hd h1) with ⟨k,n,e1,_,hv⟩ | hv
    ·rcases pR hv (ht.tl.hd h2) with ⟨l,m,e2,_,hv⟩ | hv
     ·exact ⟨_,Di hv,acV e1 e2⟩
     ·cases hv
    ·cases hv
   ·split at ho
    ·split at ho
     ·rcases dH.1 ho with ⟨_,ho⟩ | ⟨_,ho⟩
      ·split at ho <;> cases ho
      ·cases ho
     ·cases ho
    ·cases ho
   ·split at ho
    ·split at ho <;> cases ho
    ·cases ho
   ·cases ho
  | value y=>cases ho
  | invoke y z=>cases ho
 | makeFunc fn xs ys =>
  unfold dw at ho;dsimp only at ho
  split at ho <;> cases ho
  rename_i g x e1 e2
  obtain ⟨u,h1,hv⟩:=bC.1 hv;have ht:Ops M T ρ (xs.toList++ys.toList):=by simpa [Op.operands] using ht
  rw [e1,e2,air] at ht;obtain ⟨b,o,g',κ,rfl,h2,h3,hv⟩:=oW hv (ht.hd h1);obtain ⟨h4,hv⟩:=bZ.1 hv;obtain rfl:=ahm h4
  cases hv;refine ⟨_,⟨g',κ,h2,rfl⟩,?_⟩;have e3:xs = #[]:=by rw [<- Array.toList_inj];exact e1
  have e4:ys = #[x]:=by rw [<- Array.toList_inj];exact e2
  subst e3 e4;simp [execOp,Instr.makeFunc,h3]
 | slice t x lo hi mx=>unfold dw at ho;rcases dH.1 ho with ⟨_,ho⟩ | ⟨_,ho⟩ <;> cases ho
 | alloc t=>unfold dw at ho;dsimp only at ho;split at ho <;> cases ho
 | box t x=>cases ho
 | buildSlice t l ps =>
  unfold dw at ho;dsimp only at ho
  split at ho
  ·split at ho
   ·rcases dH.1 ho with ⟨_,ho⟩ | ⟨_,ho⟩ <;> cases ho
   ·cases ho
  ·cases ho
 | load t a=>unfold dw at ho;dsimp only at ho;split at ho <;> cases ho
 | store t a x=>unfold dw at ho;dsimp only at ho;split at ho <;> cases ho
 | makeSlice t l c =>
  unfold dw at ho;dsimp only at ho
  split at ho
  ·split at ho
   ·rcases dH.1 ho with ⟨_,ho⟩ | ⟨_,ho⟩ <;> cases ho
   ·cases ho
  ·cases ho
 | _=>cases ho
end
end Run
namespace Run
open Go Go.RowKit bJ
def Bk(P:Program)(B:Nat)(M:Mp)(w:World)(b:VB):Prop:=b.st<2 -> ∃ g κ rs ext,M b.id=some (g,κ)/\B<=g/\LR (CR M) b.vs rs/\w.heap[g]? = some (.cells (rs++ext).toArray b.t (0,0)) /\
 (b.st=0->κ=0/\ext=[])/\(b.st≠0 -> ∃ q,sz P b.t=some q/\ext.length=κ*q)
def Tabs(Gl:List VB)(B:Nat)(M:Mp)(w:World):Prop := ∀ i b,get Gl i=some b->i<nm/\i<B /\ ∃ rs ext t fz,LR (CR M) b.vs rs/\w.heap[i]? = some (.cells (rs++ext).toArray t fz)
structure dm(P:Program)(B:Nat)(h:List VB)(M M':Mp)(n n':Nat)(R:List Nat)(D:List VB)(w w':World):Prop where
 le:n<=n'
 ext : ∀ i,¬ (n<=i/\i<n')->M' i=M i
 bel:Below B w w'
 keep : ∀ k,k<w.heap.size->(∀ b∈D,b.id<n -> ∀ g κ,M b.id=some (g,κ)->g≠k)->w'.heap[k]? = w.heap[k]?
 blk : ∀ b∈D,Bk P B M' w' b
 old : ∀ b∈D,b.id<n->b.id∈R /\ ∃ b0,get h b.id=some b0/\b0.st<2
 new : ∀ b∈D,¬ b.id<n->b.id<n'/\(b.st<2 -> ∀ g κ,M' b.id=some (g,κ)->w.heap.size<=g \/ ∃ c∈D,c.id<n /\ ∃ κ',M c.id=some (g,κ'))
 inj : ∀ b∈D,∀ c∈D,b.st<2->c.st<2 -> ∀ g κ κ',M' b.id=some (g,κ)->M' c.id=some (g,κ')->b.id=c.id
section
variable {P:Program} {B n n':Nat} {M M':Mp} {w w':World} {h:List VB} {R:List Nat} {Gl:List VB}
theorem ZP(hn : ∀ i,n<=i->i<n'->M i=none)(he : ∀ i,¬ (n<=i/\i<n')->M' i=M i):M.le M':=fun i p hp=>by
 by_cases hi:n<=i/\i<n'
 ·rw [hn i hi.1 hi.2] at hp;cases hp
 ·rw [he i hi];exact hp
theorem Bk.mono{b:VB}(hb:Bk P B M w b)(hM:M.le M')(hw : ∀ g κ,b.st<2->M b.id=some (g,κ)->w'.heap[g]? = w.heap[g]?):Bk P B M' w' b:=fun hs=>by
 obtain ⟨g,κ,rs,ext,h1,h2,h3,h4,h5⟩:=hb hs;exact ⟨g,κ,rs,ext,hM _ _ h1,h2,h3.mono fun _ _=>CR.mono hM,(hw g κ hs h1).trans h4,h5⟩
theorem dm.same:dm P B h M M n n R [] w w :=
 ⟨ahj _,fun _ _=>rfl,Below.refl _ _,fun _ _ _=>rfl,fun _ hb=>(by cases hb),fun _ hb=>(by cases hb),fun _ hb=>(by cases hb),fun _ hb=>(by cases hb)⟩
def iF(M:Mp)(n:Nat)(p:Nat×Nat):Mp:=fun i=>if i=n then some p else M i
theorem RQ{p:Nat×Nat}(hM:M n=none):M.le (iF M n p):=fun i q hq=>by
 unfold iF
 by_cases hi:i=n
 ·subst hi;rw [hM] at hq;cases hq
 ·rw [if_neg hi];exact hq
theorem dm.make{t:TypeId}{st κ:Nat}{vs:List C}{rs ext:List Value}(hM:M n=none)(hB:B<=w.heap.size)(hbel:Below B w w')(hold : ∀ k,k<w.heap.size->w'.heap[k]? = w.heap[k]?)(hnew:w'.heap[w.heap.size]? = some (.cells (rs++ext).toArray t (0,0)))(hr:LR (CR M) vs rs)(h0:st=0->κ=0/\ext=[])(h1:st≠0 -> ∃ q,sz P t=some q/\ext.length=κ*q):dm P B h M (iF M n (w.heap.size,κ)) n (Nat.succ n) R [⟨n,t,st,vs⟩] w w':=by
 have hs:iF M n (w.heap.size,κ) n=some (w.heap.size,κ):=by simp [iF]
 refine ⟨aiH _,fun i hi => ?_,hbel,fun k hk _=>hold k hk,fun b hb => ?_,fun b hb hl => ?_,fun b hb _ => ?_,fun b hb c hc _ _ _ _ _ _ _ => ?_⟩
 ·unfold iF;rw [if_neg af]
 ·cases ahG.1 hb
  exact fun _=>⟨_,κ,rs,ext,hs,hB,hr.mono fun _ _=>CR.mono (RQ hM),hnew,h0,h1⟩
 ·cases ahG.1 hb;exact absurd hl (aia _)
 ·cases ahG.1 hb
  refine ⟨ahU _,fun _ g κ' hg => .inl ?_⟩;rw [show (iF M n (w.heap.size,κ)) n=_ from hs] at hg
  cases hg;exact ahj _
 ·cases ahG.1 hb;cases ahG.1 hc;rfl
theorem dm.write{b:VB}{g κ:Nat}{vs:List C}{rs ext:List Value}(hb:get h b.id=some b)(hid:b.id<n)(hst:b.st<2)(hR:b.id∈R)(Nz:M b.id=some (g,κ))(hg:B<=g)(hbel:Below B w w')(hsame : ∀ k,k≠g->w'.heap[k]? = w.heap[k]?)(hbox:w'.heap[g]? = some (.cells (rs++ext).toArray b.t (0,0)))(hr:LR (CR M) vs rs)(h0:b.st=0->κ=0/\ext=[])(h1:b.st≠0 -> ∃ q,sz P b.t=some q/\ext.length=κ*q):dm P B h M M n n R [⟨b.id,b.t,b.st,vs⟩] w w':=by
 refine ⟨ahj _,fun i hi=>rfl,hbel,fun k hk hD=>hsame k ?_,fun c hc => ?_,fun c hc hl => ?_,fun c hc hl => ?_,fun c hc d hd _ _ _ _ _ _ _ => ?_⟩
 ·exact fun e=>hD _ ak hid g κ Nz e.symm
 ·cases ahG.1 hc
  exact fun _=>⟨g,κ,rs,ext,Nz,hg,hr,hbox,h0,h1⟩
 ·cases ahG.1 hc;exact ⟨hR,b,hb,hst⟩
 ·cases ahG.1 hc;exact absurd hid hl
 ·cases ahG.1 hc;cases ahG.1 hd;rfl
def Does(P:Program)(B:Nat)(ρ:Operand->Value)(o:Op)(h:List VB)(M:Mp)(n:Nat)(out:Out)(w:World):Prop :=
 ∀ dst ty pos bn gd,∃ r M' w',VR M' out.v r/\dm P B h M M' n out.n out.R out.D w w'/\((execOp ρ ⟨dst,o,ty,pos,bn,gd⟩).run P w = .ok (.value r) w'\/(r=undef/\(execOp ρ ⟨dst,o,ty,pos,bn,gd⟩).run P w = .ok .skip w'))
theorem xM{i:Nat}{b:VB}(ho:own h i=some b):get h i=some b/\b.st<2:=by
 unfold own at ho
 cases hg:get h i with
 | none=>rw [hg] at ho;cases ho
 | some c =>
  rw [hg] at ho;obtain ⟨h1,h2⟩:=bZ.1 (show bf (Nat.blt c.st 2) (some c) none=some b from ho)
  cases h2;exact ⟨rfl,by simpa using h1⟩
theorem je : ∀ {h:List VB} {i:Nat} {b:VB},get h i=some b->b.id=i/\b∈h
 | [],_,_,hg=>by cases hg
 | c::h,i,b,hg=>by
  have hg:bf (Nat.beq c.id i) (some c) (get h i)=some b:=hg;rcases dH.1 hg with ⟨h1,h2⟩ | ⟨_,h2⟩
  ·cases h2;exact ⟨ahm h1,ak⟩
  ·exact ⟨(je h2).1,.tail _ (je h2).2⟩
theorem live_eq{i:Nat}{vs:List C}(hl:live Gl h i=some vs):(∃ b,get h i=some b/\b.st<2/\b.vs=vs)\/(get h i=none /\ ∃ b,get Gl i=some b/\b.vs=vs):=by
 unfold live at hl
 cases hg:get h i with
 | none =>
  rw [hg] at hl
  cases hG:get Gl i with
  | none=>rw [hG] at hl;cases hl
  | some c=>rw [hG] at hl;cases hl;exact .inr ⟨rfl,c,rfl,rfl⟩
 | some c =>
  rw [hg] at hl;obtain ⟨h1,h2⟩:=bZ.1 (show bf (Nat.blt c.st 2) (some c.vs) none=some vs from hl)
  cases h2;exact .inl ⟨c,rfl,by simpa using h1,rfl⟩
structure Cx(P:Program)(Gl:List VB)(B:Nat)(h:List VB)(M:Mp)(n:Nat)(out:Out)(w:World):Prop where
 reads : ∀ i∈out.R,∀ b,get h i=some b->Bk P B M w b
 fresh : ∀ i,n<=i->i<out.n->M i=none
 size:B<=w.heap.size
 tabs:Tabs Gl B M w
 gm:GM M
 nn:nm<=n
 lt : ∀ i b,get h i=some b->i<n
 inj : ∀ i b j c,i∈out.R->j∈out.R->get h i=some b->get h j=some c->b.st<2->c.st<2 -> ∀ g κ κ',M i=some (g,κ)->M j=some (g,κ')->i=j
theorem Pv{out:Out}(hx:Cx P Gl B h M n out w){i g κ:Nat}{vs:List C}(hl:live Gl h i=some vs)(hi:i∈out.R)(hM:M i=some (g,κ)) : ∃ rs ext t fz,LR (CR M) vs rs/\w.heap[g]? = some (.cells (rs++ext).toArray t fz):=by
 rcases live_eq hl with ⟨b,h1,h2,rfl⟩ | ⟨_,b,h1,rfl⟩
 ·obtain ⟨g',κ',rs,ext,e1,_,e3,e4,_⟩:=hx.reads i hi b h1 h2
  rw [(je h1).1,hM] at e1
  cases e1;exact ⟨rs,ext,_,_,e3,e4⟩
 ·obtain ⟨h2,_,rs,ext,t,fz,h3,h4⟩:=hx.tabs i b h1
  rw [hx.gm i h2] at hM
  cases hM;exact ⟨rs,ext,t,fz,h3,h4⟩
theorem part_eq{α:Type}{rs ext:List α}{o q:Nat}(h:o+q<=rs.length):((rs++ext).drop o).take q=(rs.drop o).take q:=by
 rw [ai4 af,ai5 (by simp;omega)]
variable {ρ:Operand->Value} {T:Tm} {out:Out} {call:eX}
theorem Vq{t:TypeId}{z:List C}(hz:zero P t=some z)(hx:Cx P Gl B h M n ⟨.one (.ptr n 0),[⟨n,t,0,z⟩],Nat.succ n,[]⟩ w):Does P B ρ (.alloc t) h M n ⟨.one (.ptr n 0),[⟨n,t,0,z⟩],Nat.succ n,[]⟩ w:=fun dst ty pos bn gd=>by
 obtain ⟨i,v,h1,h2,h3,h4⟩:=vJ (M:=M) hz;refine ⟨_,iF M n (w.heap.size,0),_,⟨w.heap.size,0,if_pos rfl,rfl⟩,dm.make (rs:=v.cells.toList) (ext:=[]) (hx.fresh n (ahj _) (ahU _)) hx.size ((Below.refl _ _).alloc hx.size _) (fun k hk=>Below.heap_alloc _ _ _ hk) ?_ h3 (fun _=>⟨rfl,rfl⟩) (fun e=>absurd rfl e),.inl (Iz h4)⟩;show (w.heap.push _)[w.heap.size]? = _;rw [aiU,if_pos rfl];simp
theorem VW{t:TypeId}{x:Operand}{l:List C}{r:Value}(hv:lJ M l r)(hr:ρ x=r)(hx:Cx P Gl B h M n ⟨.one (.ptr n 0),[⟨n,t,0,l⟩],Nat.succ n,[]⟩ w):Does P B ρ (.box t x) h M n ⟨.one (.ptr n 0),[⟨n,t,0,l⟩],Nat.succ n,[]⟩ w:=fun dst ty pos bn gd=>by
 refine ⟨_,iF M n (w.heap.size,0),_,⟨w.heap.size,0,if_pos rfl,rfl⟩,dm.make (rs:=r.cells.toList) (ext:=[]) (hx.fresh n (ahj _) (ahU _)) hx.size ((Below.refl _ _).alloc hx.size _) (fun k hk=>Below.heap_alloc _ _ _ hk) ?_ hv (fun _=>⟨rfl,rfl⟩) (fun e=>absurd rfl e),.inl (Rq hr)⟩;show (w.heap.push _)[w.heap.size]? = _;rw [aiU,if_pos rfl];simp
theorem Io{z:List C}{zr:List Value}(hz:LR (CR M) z zr) : ∀ k,LR (CR M) (rJ k z) (eU k zr)
 | 0 => .nil
 | k+1=>by rw [DI];exact hz.app (Io hz k)
theorem VY{t e:TypeId}{l q:Nat}{ps:Array (Nat×Operand)}{z c:List C}{vs:List (Nat×List C)}(hu:P.underlying t=some (.slice e))(hz:zero P e=some z)(hq:sz P e=some q)(hb:Nat.ble (l*q) 1000=true)(pK:len z=q)(hvs:LR (fun p q=>p.1=q.1/\lJ M p.2 q.2) vs (ps.toList.map fun p=>(p.1,ρ p.2)))(hf:fill (fun i=>some (i*q,q)) (rJ l z) vs=some c)(hx:Cx P Gl B h M n ⟨.one (.slc n 0 l l),[⟨n,e,0,c⟩],Nat.succ n,[]⟩ w):Does P B ρ (.buildSlice t l ps) h M n ⟨.one (.slc n 0 l l),[⟨n,e,0,c⟩],Nat.succ n,[]⟩ w:=fun dst ty pos bn gd=>by
 obtain ⟨i,v,h1,h2,h3,h4⟩:=vJ (M:=M) hz;have hl:=h3.len;rw [len_eq] at pK;have hvq:v.cells.size=q:=by rw [<- pK,hl];simp
 obtain ⟨cr,e1,e2⟩:=zF hvs (Io h3 l) hf;have hb':=aho hb;refine ⟨_,iF M n (w.heap.size,0),w.alloc (.cells cr e),⟨w.heap.size,0,if_pos rfl,rfl⟩,dm.make (rs:=cr.toList) (ext:=[]) (hx.fresh n (ahj _) (ahU _)) hx.size ((Below.refl _ _).alloc hx.size _) (fun k hk=>Below.heap_alloc _ _ _ hk) ?_ e2 (fun _=>⟨rfl,rfl⟩) (fun e=>absurd rfl e),.inl ?_⟩
 ·show (w.heap.push _)[w.heap.size]? = _
  rw [aiU,if_pos rfl];simp
 ·have hm:=Aw v.cells l
  unfold madeCells at hm;rw [hvq] at hm;have hps:List.map (fun x=>(x.1,ρ x.2)) ps.toList=ps.toList.map fun p=>(p.1,ρ p.2):=rfl
  have hno:¬ (2^24<l*q):=by
                    have:2^24=16777216:=ai;omega
  by_cases h0:l*q=0
  ·have hr0:eU l v.cells.toList=[]:=ahT.1 (by rw [DF];simp [hvq,h0])
   rw [hr0] at e1
   have e1':Instr.fill (fun i=>some (i*q,q)) (Array.map (fun _=>(default:Value)) (Array.range 0)) (List.map (fun x=>(x.1,ρ x.2)) ps.toList)=some cr:=by
    rw [show Array.map (fun _=>(default:Value)) (Array.range 0) = #[] by simp];exact e1
   simp [execOp,Instr.buildSlice,un hu,jC hq,h0,newRow,e1']
  ·rw [<- hm] at e1
   simp only [Nat.reducePow] at hno;simp [execOp,Instr.buildSlice,un hu,jC hq,h4,h0,newRow,hno,hvq,e1]
theorem ZY{t:TypeId}{x:Operand}{q i o g κ:Nat}{vs l:List C}(hg:qM P t=some true)(hq:sz P t=some q)(hp:ρ x = .pointer (some ⟨g,o,none⟩))(hM:M i=some (g,κ))(hl:live Gl h i=some vs)(ht:jm q (jr o vs)=some l)(hx:Cx P Gl B h M n ⟨.agg l,[],n,[i]⟩ w):Does P B ρ (.load t x) h M n ⟨.agg l,[],n,[i]⟩ w:=fun dst ty pos bn gd=>by
 obtain ⟨rs,ext,t',fz,h1,h2⟩:=Pv hx hl ak hM;rw [lV] at ht;obtain ⟨rfl,h3⟩:=ni.1 ht
 by_cases h0:q=0
 ·subst h0
  refine ⟨.agg #[],M,w,⟨[],by simpa using LR.nil,rfl⟩,dm.same,.inl ?_⟩;have hl0:=run_loadCells_list (P:=P) w ⟨g,o,none⟩ [] (fun j v hv=>by simp at hv);simp [execOp,hp,Instr.loadAt,Instr.sureAddr,loadVar,oV hg,jC hq] at hl0 ⊢;simp [hl0]
 ·have hlen:=h1.len
  rw [ahI] at h3;refine ⟨_,M,w,⟨_,(h1.drop o).take q,rfl⟩,dm.same,.inl ?_⟩;have:=rO (P:=P) (dst:=dst) (ty:=ty) (pos:=pos) (bn:=bn) (gd:=gd) hp (oV hg) (jC hq) h2 (by simp;omega);rw [this];rw [part_eq af]
theorem ZZ{t:TypeId}{x:Operand}{i o g κ:Nat}{vs:List C}{c:C}(hg:qM P t=some false)(hp:ρ x = .pointer (some ⟨g,o,none⟩))(hM:M i=some (g,κ))(hl:live Gl h i=some vs)(ht:nth o vs=some c)(hx:Cx P Gl B h M n ⟨.one c,[],n,[i]⟩ w):Does P B ρ (.load t x) h M n ⟨.one c,[],n,[i]⟩ w:=fun dst ty pos bn gd=>by
 obtain ⟨rs,ext,t',fz,h1,h2⟩:=Pv hx hl ak hM;rw [rE] at ht;obtain ⟨r,h3,h4⟩:=h1.get ht;have hlt:=(ahy.1 h3).1;exact ⟨r,M,w,h4,dm.same,.inl (iY hp (oV hg) h2 (by rw [aik,ah4 hlt];exact h3))⟩
theorem lC(hx:Cx P Gl B h M n out w){i g κ:Nat}{b:VB}(ho:own h i=some b)(hi:i∈out.R)(hM:M i=some (g,κ)):b.id=i/\get h i=some b/\b.st<2/\i<n /\ ∃ rs ext,B<=g/\LR (CR M) b.vs rs/\w.heap[g]? = some (.cells (rs++ext).toArray b.t (0,0))/\(b.st=0->κ=0/\ext=[])/\(b.st≠0 -> ∃ q,sz P b.t=some q/\ext.length=κ*q):=by
 obtain ⟨h1,h2⟩:=xM ho;obtain ⟨g',κ',rs,ext,e1,e2,e3,e4,e5,e6⟩:=hx.reads i hi b h1 h2;have hid:=(je h1).1;rw [hid,hM] at e1
 cases e1;exact ⟨hid,h1,h2,hx.lt i b h1,rs,ext,e2,e3,e4,e5,e6⟩
theorem adH{t:TypeId}{x y:Operand}{q i o g κ:Nat}{b:VB}{l vs:List C}{r:Value}(hq:sz P t=some q)(hp:ρ x = .pointer (some ⟨g,o,none⟩))(hy:ρ y=r)(hv:lJ M l r)(hM:M i=some (g,κ))(hb:own h i=some b)(hl:Nat.beq (len l) q=true)(hw:sF b.vs o l=some vs)(hx:Cx P Gl B h M n ⟨.iZ [],[⟨i,b.t,b.st,vs⟩],n,[i]⟩ w):Does P B ρ (.store t x y) h M n ⟨.iZ [],[⟨i,b.t,b.st,vs⟩],n,[i]⟩ w:=fun dst ty pos bn gd=>by
 obtain ⟨hid,h1,h2,hlt,rs,ext,h3,h4,h5,h6,h7⟩:=lC hx hb ak hM;obtain ⟨rfl,h8⟩:=Dz.1 hw;have hl':=ahm hl;rw [len_eq] at hl';have hv':=hv.len;have h4':=h4.len;simp only [aiy] at hv';obtain ⟨w',r1,r2,r3,r4,r5,r6,r7⟩:=CS (P:=P) (dst:=dst) (ty:=ty) (pos:=pos) (bn:=bn) (gd:=gd) hp hy (jC hq) (by rw [<- hv',hl'];exact Nat.beq_refl _) h5 (by rw [<- hl'];simp;omega) (by rw [ahK];exact LR.one hv);rw [wr_eq (by simp;omega)] at r7;rw [ai5 af,ai4 (by simp;omega)] at r7;refine ⟨undef,M,w',⟨[],.nil,rfl⟩,?_,.inr ⟨rfl,r1⟩⟩;subst hid;exact dm.write (rs:=rs.take o++(r.cells.toList++rs.drop (o+r.cells.toList.length))) (ext:=ext) h1 hlt h2 ak hM h3 ⟨r2,r3,r4,af,fun k hk=>r6 k af⟩ r6 (by rw [r7];simp) (h4.wr hv) h6 h7
end
end Run
namespace Run
open Go Go.RowKit bJ
section
variable {P:Program} {B n n':Nat} {M M':Mp} {w w':World} {h:List VB} {R:List Nat} {Gl:List VB} {ρ:Operand->Value} {T:Tm} {out:Out} {call:eX}
section
variable {bn:Array Edge} {k l m q:Nat} {x:Operand} {gd:Option (Nat×Bool)} {hi lo mx:Option Operand} {pos:String} {e t ty:TypeId}
theorem aaf{y:Operand}{b:Nat}{z:List C}{kl kc:IntKind}(hu:P.underlying t=some (.slice e))(hz:zero P e=some z)(hq:sz P e=some q)(hb:sZ P e=some b)(pK:len z=q)(hb2:b<=1000)(hx1:ρ x = .int kl (k:Int))(hy:ρ y = .int kc (m:Int))(hkm:k<=m)(hm:m<=100000)(hx:Cx P Gl B h M n ⟨.one (.slc n 0 k m),[⟨n,e,0,rJ m z⟩],Nat.succ n,[]⟩ w):Does P B ρ (.makeSlice t x y) h M n ⟨.one (.slc n 0 k m),[⟨n,e,0,rJ m z⟩],Nat.succ n,[]⟩ w:=fun dst ty pos bn gd=>by
 obtain ⟨i,v,h1,h2,h3,h4⟩:=vJ (M:=M) hz;have hb3:i.bytes=b:=by simpa [sZ,h1] using hb
 have hq3:i.size=q:=by simpa [sz,h1] using hq
 have hl:=h3.len;rw [len_eq] at pK;have hvq:v.cells.size=i.size:=by rw [hq3,<- pK,hl];simp
 have hbm:(i.bytes:Int)*(m:Int)<=281474976710656:=by
  have h5:b*m<=1000*100000:=ahY hb2 hm;have:((b*m:Nat):Int)<=281474976710656:=af;rw [hb3];simpa using this
 have hrun:=run_make (P:=P) w t e i v hu h1 h2 kl kc (k:Int) (m:Int) af af hbm af;rw [aie,aie,<- hvq,Aw] at hrun;refine ⟨_,iF M n (w.heap.size,0),w.alloc (.cells (eU m v.cells.toList).toArray e),⟨w.heap.size,0,if_pos rfl,rfl⟩,dm.make (rs:=eU m v.cells.toList) (ext:=[]) (hx.fresh n (ahj _) (ahU _)) hx.size ((Below.refl _ _).alloc hx.size _) (fun k hk=>Below.heap_alloc _ _ _ hk) ?_ (Io h3 m) (fun _=>⟨rfl,rfl⟩) (fun e=>absurd rfl e),.inl (by simp [execOp,hx1,hy,hrun])⟩;show (w.heap.push _)[w.heap.size]? = _;rw [aiU,if_pos rfl];simp
def Bd(ρ:Operand->Value)(lo:Option Operand)(d l:Nat):Prop:=(lo=none/\l=d) \/ ∃ y k,lo=some y/\ρ y = .int k (l:Int)
theorem lT{d:Nat}(hb:bound T lo d=some l)(ht:Ops M T ρ lo.toList):Bd ρ lo d l:=by
 cases lo with
 | none=>cases hb;exact .inl ⟨rfl,rfl⟩
 | some y=>obtain ⟨k,h1⟩:=rD (M:=M) hb (fun u hu=>ht.hd hu);exact .inr ⟨y,k,rfl,h1⟩
theorem IE{A:Option Addr}{c u:Nat}{dst:Option Tmp}(_hx:ρ x = .slice A m c)(hu:P.underlying t=some (.slice e))(hq:sz P e=some q)(hlo:Bd ρ lo 0 l)(hhi:Bd ρ hi m k)(hmx:Bd ρ mx c u)(hm:mx=none\/hi≠none)(h1:l<=k)(h2:k<=u)(h3:u<=c) :
  (execOp ρ ⟨dst,.slice t x lo hi mx,ty,pos,bn,gd⟩).run P w = .ok (.value (.slice (if u=l then A else A.map (·.add (l*q))) (k-l) (u-l))) w:=by
 have hq:=jC hq;have hu:=un hu;rcases hlo with ⟨rfl,rfl⟩ | ⟨y,k1,rfl,hy⟩ <;> rcases hhi with ⟨rfl,rfl⟩ | ⟨y',k2,rfl,hy'⟩ <;> rcases hmx with ⟨rfl,rfl⟩ | ⟨vH,k3,rfl,afx⟩ <;> first | (simp [execOp, *,Instr.sliceAt,Instr.slice,Instr.sliceBounds,Instr.sliceBound,asIntOf];done) | (simp at hm)
theorem ac0{g o:Nat}{dst:Option Tmp}(_hx:ρ x = .pointer (some ⟨g,o,none⟩))(hu:P.underlying t=some (.array m e))(hq:sz P e=some q)(hlo:Bd ρ lo 0 l)(hhi:Bd ρ hi m k)(h1:l<=k)(h2:k<=m) :
  (execOp ρ ⟨dst,.slice t x lo hi none,ty,pos,bn,gd⟩).run P w = .ok (.value (.slice (some (if m=l then ⟨g,o,none⟩ else (⟨g,o,none⟩:Addr).add (l*q))) (k-l) (m-l))) w:=by
 have hq:=jC hq;have hu:=un hu;rcases hlo with ⟨rfl,rfl⟩ | ⟨y,k1,rfl,hy⟩ <;> rcases hhi with ⟨rfl,rfl⟩ | ⟨y',k2,rfl,hy'⟩ <;> simp [execOp, *,Instr.sliceAt,Instr.sureAddr,Instr.sliceBounds,Instr.sliceBound,asIntOf]
theorem add_lit(g o k:Nat):(⟨g,o,none⟩:Addr).add k=⟨g,o+k,none⟩:=by
 unfold Addr.add
 by_cases h:k=0
 ·simp [h]
 ·simp [h]
theorem ac1{b:ByteArray}{dst:Option Tmp}(_hx:ρ x = .string b)(hu:P.underlying t=some .string)(hlo:Bd ρ lo 0 l)(hhi:Bd ρ hi b.data.toList.length k)(h1:l<=k)(h2:k<=b.data.toList.length) :
  (execOp ρ ⟨dst,.slice t x lo hi none,ty,pos,bn,gd⟩).run P w = .ok (.value (.string ⟨((b.data.toList.drop l).take (k-l)).toArray⟩)) w:=by
 have hu:=un hu
 have hs:b.size=b.data.toList.length:=by
  rw [aiy];rfl
 have he:b.extract l k=⟨((b.data.toList.drop l).take (k-l)).toArray⟩:=by
  apply ByteArray.ext;rw [ByteArray.data_extract];apply Array.ext';rw [Array.toList_extract]
 rw [<- hs] at h2 hhi;rw [<- he];clear he hs;rcases hlo with ⟨rfl,rfl⟩ | ⟨y,k1,rfl,hy⟩ <;> rcases hhi with ⟨rfl,rfl⟩ | ⟨y',k2,rfl,hy'⟩ <;> simp [execOp, *,Instr.sliceAt,Instr.slice,Instr.sliceBounds,Instr.sliceBound,asIntOf]
theorem Jg{c:C}{out:Out}(hv:vO n c=some out):out=⟨.one c,[],n,[]⟩:=(Option.some.inj hv).symm
theorem adA(hv:Ff P T h n t x lo hi mx=some out)(htx:Ops M T ρ [x])(htl:Ops M T ρ lo.toList)(hth:Ops M T ρ hi.toList)(pJ:Ops M T ρ mx.toList)(hmx:mx=none\/hi≠none)(hx:Cx P Gl B h M n out w):Does P B ρ (.slice t x lo hi mx) h M n out w:=fun dst ty pos bn gd=>by
 unfold Ff at hv
 split at hv
 ·rename_i hu he
  obtain ⟨l,h1,hv⟩:=bC.1 hv;obtain ⟨k,h2,hv⟩:=bC.1 hv;obtain ⟨h3,hv⟩:=bZ.1 hv;obtain ⟨h4,hv⟩:=bZ.1 hv
  cases Jg hv;exact ⟨_,M,w,rfl,dm.same,.inl (ac1 (htx.hd he) hu (lT h1 htl) (lT h2 hth) (aho h3) (aho h4))⟩
 ·rename_i e i0 o m c hu he
  obtain ⟨l,h1,hv⟩:=bC.1 hv;obtain ⟨k,h2,hv⟩:=bC.1 hv;obtain ⟨q,hq,hv⟩:=bC.1 hv;obtain ⟨h3,hv⟩:=bZ.1 hv;obtain ⟨h4,hv⟩:=bZ.1 hv;have h3:=aho h3;have h4:=aho h4;obtain ⟨g,κ,e1,e2⟩:=htx.hd he;have hrun:=fun (hh:k<=c+κ)=>IE (P:=P) (w:=w) (dst:=dst) (ty:=ty) (pos:=pos) (bn:=bn) (gd:=gd) e2 hu hq (lT h1 htl) (lT h2 hth) (.inl ⟨rfl,rfl⟩) (.inl rfl) h3 hh (ahj _);rcases dH.1 hv with ⟨h5,hv⟩ | ⟨h5,hv⟩
  ·cases Jg hv
   have h5:l<c:=by simpa [Nat.blt_eq] using h5
   have hr:=hrun af;rw [if_neg af,Option.map_some,add_lit] at hr;exact ⟨_,M,w,⟨g,κ,e1,rfl⟩,dm.same,.inl (hr.trans (by congr 3;omega))⟩
  ·obtain ⟨b,h6,hv⟩:=bC.1 hv
   obtain ⟨h7,hv⟩:=bZ.1 hv
   cases hv;obtain ⟨_,_,_,_,rs,ext,_,_,_,h8,_⟩:=lC hx h6 ak e1;obtain ⟨rfl,_⟩:=h8 (ahm h7);have hr:=hrun af;refine ⟨_,M,w,⟨g,0,e1,rfl⟩,dm.same,.inl (hr.trans ?_)⟩;rw [ahF,ahF]
   congr 3
   rcases dH.1 (rfl:bf (Nat.beq l c) o (o+l*q)=bf (Nat.beq l c) o (o+l*q)) with ⟨h9,h10⟩ | ⟨h9,h10⟩
   ·rw [if_pos (ahm h9).symm,<- h10]
   ·rw [if_neg (fun e=>ah' h9 e.symm),<- h10,Option.map_some,add_lit]
 ·rename_i hu he
  obtain ⟨l,h1,hv⟩:=bC.1 hv;obtain ⟨k,h2,hv⟩:=bC.1 hv;obtain ⟨q,hq,hv⟩:=bC.1 hv;obtain ⟨h3,hv⟩:=bZ.1 hv;obtain ⟨h4,hv⟩:=bZ.1 hv
  cases Jg hv;have hr:=IE (P:=P) (w:=w) (dst:=dst) (ty:=ty) (pos:=pos) (bn:=bn) (gd:=gd) (htx.hd he) hu hq (lT h1 htl) (lT h2 hth) (.inl ⟨rfl,rfl⟩) (.inl rfl) (aho h3) (aho h4) (ahj _);refine ⟨_,M,w,rfl,dm.same,.inl (hr.trans ?_)⟩
  congr 3
  split <;> rfl
 ·rename_i e i0 o m c mo hu he
  obtain ⟨l,h1,hv⟩:=bC.1 hv;obtain ⟨k,h2,hv⟩:=bC.1 hv;obtain ⟨u,h0,hv⟩:=bC.1 hv;obtain ⟨q,hq,hv⟩:=bC.1 hv;obtain ⟨b,h6,hv⟩:=bC.1 hv;obtain ⟨h7,hv⟩:=bZ.1 hv;obtain ⟨h3,hv⟩:=bZ.1 hv;obtain ⟨h4,hv⟩:=bZ.1 hv;obtain ⟨h5,hv⟩:=bZ.1 hv
  cases hv;obtain ⟨g,κ,e1,e2⟩:=htx.hd he;obtain ⟨_,_,_,_,rs,ext,_,_,_,h8,_⟩:=lC hx h6 ak e1;obtain ⟨rfl,_⟩:=h8 (ahm h7);obtain ⟨k0,h9⟩:=rD (M:=M) h0 (fun u hu=>pJ.hd hu);have hr:=IE (P:=P) (w:=w) (dst:=dst) (ty:=ty) (pos:=pos) (bn:=bn) (gd:=gd) e2 hu hq (lT h1 htl) (lT h2 hth) (.inr ⟨_,k0,rfl,h9⟩) hmx (aho h3) (aho h4) (aho h5);refine ⟨_,M,w,⟨g,0,e1,rfl⟩,dm.same,.inl (hr.trans ?_)⟩;rw [ahF]
  congr 3
  rcases dH.1 (rfl:bf (Nat.beq l u) o (o+l*q)=bf (Nat.beq l u) o (o+l*q)) with ⟨h9,h10⟩ | ⟨h9,h10⟩
  ·rw [if_pos (ahm h9).symm,<- h10]
  ·rw [if_neg (fun e=>ah' h9 e.symm),<- h10,Option.map_some,add_lit]
 ·rename_i m e i0 o hu he
  obtain ⟨l,h1,hv⟩:=bC.1 hv;obtain ⟨k,h2,hv⟩:=bC.1 hv;obtain ⟨q,hq,hv⟩:=bC.1 hv;obtain ⟨b,h6,hv⟩:=bC.1 hv;obtain ⟨h7,hv⟩:=bZ.1 hv;obtain ⟨h3,hv⟩:=bZ.1 hv;obtain ⟨h4,hv⟩:=bZ.1 hv
  cases hv;obtain ⟨g,κ,e1,e2⟩:=htx.hd he;obtain ⟨_,_,_,_,rs,ext,_,_,_,h8,_⟩:=lC hx h6 ak e1;obtain ⟨rfl,_⟩:=h8 (ahm h7);have hr:=ac0 (P:=P) (w:=w) (dst:=dst) (ty:=ty) (pos:=pos) (bn:=bn) (gd:=gd) e2 hu hq (lT h1 htl) (lT h2 hth) (aho h3) (aho h4);refine ⟨_,M,w,⟨g,0,e1,rfl⟩,dm.same,.inl (hr.trans ?_)⟩;rw [ahF]
  congr 3
  rcases dH.1 (rfl:bf (Nat.beq l m) o (o+l*q)=bf (Nat.beq l m) o (o+l*q)) with ⟨h9,h10⟩ | ⟨h9,h10⟩
  ·rw [if_pos (ahm h9).symm,<- h10]
  ·rw [if_neg (fun e=>ah' h9 e.symm),<- h10,add_lit]
 ·cases hv
theorem Lr : ∀ {l:List C} {r:List Value} {bs:List UInt8},LR (CR M) l r->yX l=some bs->r=bs.map fun b=>Value.int .u8 (b.toNat:Int)
 | [],_,_,.nil,h=>by cases h;rfl
 | c::l,v::r,bs,.cons h1 h2,h=>by
  unfold yX at h
  split at h
  ·cases ‹_=[]›
  ·rename_i hc
   obtain ⟨h3,h⟩:=bZ.1 h;obtain ⟨u,h4,h⟩:=bC.1 h
   cases h
   cases hc;have h1:v=_:=h1;have h3:=aho h3;rw [h1,Lr h2 h4];simp;omega
  ·cases h
theorem WM{s d:TypeId}{f:eX->Tm->List VB->Nat->Option Out}(ho:dw P Gl (.convert s d x) = .me f)(hv:f call T h n=some out)(ht:Ops M T ρ [x])(hx:Cx P Gl B h M n out w):Does P B ρ (.convert s d x) h M n out w:=fun dst ty pos bn gd=>by
 unfold dw at ho;dsimp only at ho
 split at ho
 ·cases ho
 ·rename_i hs hd
  split at ho <;> cases ho
  rename_i he hq
  obtain ⟨u,h1,hv⟩:=bC.1 hv;have k1:=ht.hd h1
  split at hv
  ·rename_i i o k c
   obtain ⟨b,h2,hv⟩:=bC.1 hv;obtain ⟨l,h3,hv⟩:=bC.1 hv;obtain ⟨bs,h4,hv⟩:=bC.1 hv
   cases hv;obtain ⟨g,κ,e1,e2⟩:=k1;obtain ⟨_,_,_,_,rs,ext,_,h5,h6,_⟩:=lC hx h2 ak e1;rw [lV] at h3;obtain ⟨rfl,h7⟩:=ni.1 h3;rw [ahI] at h7;have h8:=Lr ((h5.drop o).take k) h4;have h9:=h5.len
   have h10:bs.length=k:=by
    have:=congrArg List.length h8;simp at this;omega
   refine ⟨_,M,w,rfl,dm.same,.inl ?_⟩
   have hr:=run_convert_bytes_back (P:=P) w s d _ ⟨g,o,none⟩ (c+κ) bs hs he hd (fun j hj=>by
    rw [add_lit];unfold World.cell?;simp only [h6];have h11:=congrArg (fun l=>l[j]?) h8;simp only [ahQ,aib,aiv,ahR hj] at h11;rw [if_pos af] at h11;simp only [aik];rw [ah4 af];exact h11)
   rw [h10] at hr;simp [execOp,e2,hr]
  ·cases hv
 ·cases ho
end
end
end Run
