/- Part of a proof, said shortly. -/
import Derived.Test.YtmmgoghiiionfaaGreatDoorAlz
import Derived.Test.YtmmgoghiiionfaaGreatDoorC23
import Derived.Test.YtmmgoghiiionfaaGreatDoorC22
import Derived.Test.YtmmgoghiiionfaaGreatDoorC21
import Derived.Test.YtmmgoghiiionfaaGreatDoorC10
import Derived.Test.YtmmgoghiiionfaaGreatDoorC9
import Derived.Test.YtmmgoghiiionfaaGreatDoorC18
import Derived.Test.YtmmgoghiiionfaaGreatDoorC11
import Derived.Test.YtmmgoghiiionfaaGreatDoorC17
set_option linter.unusedVariables false
set_option linter.unusedSimpArgs false
namespace Run
open Go Go.RowKit bJ
section
variable {P:Program} {B n n' N m:Nat} {M M':Mp} {w w':World} {w0:World×(Nat->Option VB)×World×List Deferred} {h:List VB} {R:List Nat} {Gl:List VB} {T:Tm} {out:Out} {call:eX} {a:Act} {D:List VB} {ops:Array Oper} {s s':Z} {o:Oper} {dr:Bool}
def Rx:Option Out->List Nat
 | some o=>o.R
 | none=>[]
noncomputable def Wx:Option Out->List Nat
 | some o=>ids o.D
 | none=>[]
def sJ(ops:Array Oper)(i:Nat)(x:Option Out)(e:Nat×List Nat×List Nat):Prop:=((∀ y∈e.2.2,y∈Rx x->False)/\(∀ y∈Wx x,y∈e.2.1->False) /\ ∀ y∈Wx x,y∈e.2.2->False)\/kR ops (len ops.toList) e.1 i=true
theorem KP{i:Nat} : ∀ {L:Lg},sV ops i out.R (ids out.D) L=true -> ∀ e∈L,sJ ops i (some out) e
 | [],_,_,he=>by cases he
 | (j,R',W')::L,hh,e,he=>by
  obtain ⟨h1,h2⟩:(bf (gU W' out.R) (bf (gU (ids out.D) R') (gU (ids out.D) W') false) false||kR ops (len ops.toList) j i)=true/\sV ops i out.R (ids out.D) L=true:=by
   have hh:bf (bf (gU W' out.R) (bf (gU (ids out.D) R') (gU (ids out.D) W') false) false||kR ops (len ops.toList) j i) (sV ops i out.R (ids out.D) L) false=true:=hh;rcases dH.1 hh with hh | ⟨_,hh⟩
   ·exact hh
   ·cases hh
  rcases List.mem_cons.1 he with rfl | he
  ·rcases Bool.or_eq_true_iff.1 h1 with h1 | h1
   ·rcases dH.1 h1 with ⟨h3,h1⟩ | ⟨_,h1⟩
    ·rcases dH.1 h1 with ⟨h4,h1⟩ | ⟨_,h1⟩
     ·exact .inl ⟨tJ.1 h3,tJ.1 h4,tJ.1 h1⟩
     ·cases h1
    ·cases h1
   ·exact .inr h1
  ·exact KP h2 e he
theorem XP{W:List Nat}{k:List Nat->Option Out} : fW W k=k W:=by cases W <;> rfl
theorem adE{i:Nat}{cl:Cl}{d:Option Nat}{k:Rg}{L:Lg}{K:KS}{r:Out}(hv:(step ops dr i cl d k).f call m L s.T s.h s.n s.W K=some r) :
  ∃ out L',KD call cl s out/\s.n<=out.n/\(∀ b∈out.D,b.id<out.n)/\k.f call m L' (fA d out.v s.T) (puts s.h out.D) out.n (fZ m out.D s.W) K=some r/\(dr=true->(L'=L/\out.R=[]/\out.D=[])\/(sV ops i out.R (ids out.D) L=true/\L'=(i,out.R,ids out.D)::L)):=by
 obtain ⟨k⟩:=k
 cases cl with
 | pv f =>
  cases d with
  | some d =>
   obtain ⟨v,h1,hv⟩:=bC.1 (show ob (f s.T) _=some r from hv);exact ⟨⟨v,[],s.n,[]⟩,L,.inl ⟨f,v,rfl,h1,rfl⟩,ahj _,fun _ hb=>(by cases hb),hv,fun _ => .inl ⟨rfl,rfl,rfl⟩⟩
  | none =>
   obtain ⟨v,h1,hv⟩:=bC.1 (show ob (f s.T) _=some r from hv);exact ⟨⟨v,[],s.n,[]⟩,L,.inl ⟨f,v,rfl,h1,rfl⟩,ahj _,fun _ hb=>(by cases hb),hv,fun _ => .inl ⟨rfl,rfl,rfl⟩⟩
 | me f =>
  have hv:ob (f call s.T s.h s.n) (fun o=>bf (Nat.ble s.n o.n) (PN ops dr i L o.R (ids o.D) fun L=>(List.rec (motive:=fun _=>Option Out) (k call m L (fA d o.v s.T) s.h o.n s.W K) (fun b t _=>fN o.n fun n=>bf (qN (b::t) n) (fW (fZ m (b::t) s.W) fun W=>k call m L (fA d o.v s.T) (puts s.h (b::t)) n W K) none) o.D:Option Out)) none)=some r:=by cases d <;> exact hv
  obtain ⟨⟨v,D,n',R⟩,h1,hv⟩:=bC.1 hv;obtain ⟨h2,hv⟩:=bZ.1 hv;have h2:=aho h2
  have key : ∀ L',(List.rec (motive:=fun _=>Option Out) (k call m L' (fA d v s.T) s.h n' s.W K) (fun b t _=>fN n' fun n=>bf (qN (b::t) n) (fW (fZ m (b::t) s.W) fun W=>k call m L' (fA d v s.T) (puts s.h (b::t)) n W K) none) D:Option Out)=some r->(∀ b∈D,b.id<n')/\k call m L' (fA d v s.T) (puts s.h D) n' (fZ m D s.W) K=some r:=fun L' hh=>by
   cases D with
   | nil=>exact ⟨fun _ hb=>(by cases hb),hh⟩
   | cons b t =>
    have hh:fN n' (fun n=>bf (qN (b::t) n) (fW (fZ m (b::t) s.W) fun W=>k call m L' (fA d v s.T) (puts s.h (b::t)) n W K) none)=some r:=hh;rw [jF] at hh;obtain ⟨h3,hh⟩:=bZ.1 hh;rw [XP] at hh;exact ⟨Vo h3,hh⟩
  rcases dH.1 hv with ⟨rfl,hv⟩ | ⟨rfl,hv⟩
  ·obtain ⟨h3,hv⟩:=bZ.1 hv
   obtain ⟨h4,h5⟩:=key _ hv;exact ⟨_,_,.inr ⟨f,rfl,h1⟩,h2,h4,h5,fun _ => .inr ⟨h3,rfl⟩⟩
  ·obtain ⟨h4,h5⟩:=key _ hv
   exact ⟨_,_,.inr ⟨f,rfl,h1⟩,h2,h4,h5,fun e=>by cases e⟩
 | no=>cases d <;> cases hv
def Trace(P:Program)(Gl:List VB)(N m:Nat)(ops:Array Oper)(call:eX)(dr:Bool)(l:List Oper)(i:Nat)(L:Lg)(s:Z)(K:KS)(r:Out):Prop := ∃ (S:Nat->Z) (X:Nat->Option Out),S i=s/\K (S (i+l.length)).T (S (i+l.length)).h (S (i+l.length)).n (S (i+l.length)).W=some r /\
  (∀ k o,l[k]? = some o->Stp P Gl N m ops call o (S (i+k)) (X (i+k)) (S (i+k+1)))/\(dr=true->(∀ k,k<l.length -> ∀ e∈L,sJ ops (i+k) (X (i+k)) e) /\ ∀ j k,j<k->k<l.length->sJ ops (i+k) (X (i+k)) (i+j,Rx (X (i+j)),Wx (X (i+j))))
theorem MP : ∀ (l:List Oper) (i:Nat) (L:Lg) (s:Z) (K:KS) (r:Out),(iR P Gl N ops dr l i).f call m L s.T s.h s.n s.W K=some r->Trace P Gl N m ops call dr l i L s K r
 | [],i,L,s,K,r,hv=>⟨fun _=>s,fun _=>none,rfl,hv,fun k o ho=>(by cases ho),fun _=>⟨fun k hk=>absurd hk (ah2 _),fun j k _ hk=>absurd hk (ah2 _)⟩⟩
 | o::l,i,L,s,K,r,hv=>by
  unfold iR at hv
  obtain ⟨hd,hv⟩:(∀ d,o.dst=some d->d<N)/\(zI (qC ops o) o.dst (step ops dr i (dw P Gl o.op) o.dst (iR P Gl N ops dr l (i+1))) (iR P Gl N ops dr l (i+1))).f call m L s.T s.h s.n s.W K=some r:=by
   cases hd:o.dst with
   | none=>rw [hd] at hv;exact ⟨fun d e=>(by cases e),hv⟩
   | some d =>
    rw [hd] at hv
    cases hb:Nat.blt d N with
    | true =>
     have hv:(bf (Nat.blt d N) (zI (qC ops o) (some d) (step ops dr i (dw P Gl o.op) (some d) (iR P Gl N ops dr l (i+1))) (iR P Gl N ops dr l (i+1))) ⟨fun _ _ _ _ _ _ _ _=>none⟩).f call m L s.T s.h s.n s.W K=some r:=hv;rw [hb] at hv;exact ⟨fun d' e=>(by cases e;simpa using hb),hv⟩
    | false =>
     have hv:(bf (Nat.blt d N) (zI (qC ops o) (some d) (step ops dr i (dw P Gl o.op) (some d) (iR P Gl N ops dr l (i+1))) (iR P Gl N ops dr l (i+1))) ⟨fun _ _ _ _ _ _ _ _=>none⟩).f call m L s.T s.h s.n s.W K=some r:=hv;rw [hb] at hv;cases hv
  have glue : ∀ (s1:Z) (x:Option Out) (L':Lg),(iR P Gl N ops dr l (i+1)).f call m L' s1.T s1.h s1.n s1.W K=some r->Stp P Gl N m ops call o s x s1->(dr=true->(∀ e∈L,e∈L')/\(∀ e∈L,sJ ops i x e)/\((i,Rx x,Wx x)∈L'\/(Rx x=[]/\Wx x=[])))->Trace P Gl N m ops call dr (o::l) i L s K r:=fun s1 x L' h1 h2 h3=>by
   obtain ⟨S,X,e1,e2,e3,e4⟩:=MP l (i+1) L' s1 K r h1
   obtain ⟨S',hS0,hS⟩ : ∃ S':Nat->Z,S' i=s /\ ∀ k,S' (i+(k+1))=S (i+1+k):=⟨fun j=>if j=i then s else S j,if_pos rfl,fun k=>by
    show (if _ then _ else _)=_;rw [if_neg af];congr 1;omega⟩
   obtain ⟨X',hX0,hX⟩ : ∃ X':Nat->Option Out,X' i=x /\ ∀ k,X' (i+(k+1))=X (i+1+k):=⟨fun j=>if j=i then x else X j,if_pos rfl,fun k=>by
    show (if _ then _ else _)=_;rw [if_neg af];congr 1;omega⟩
   refine ⟨S',X',hS0,?_,fun k o' ho => ?_,fun hdr=>⟨fun k hk e he => ?_,fun j k hjk hk => ?_⟩⟩
   ·rw [List.length_cons,hS];exact e2
   ·cases k with
    | zero =>
     cases ho;have:=hS 0;rw [ahF,ahF] at this;rw [ahF,hS0,hX0,this,e1];exact h2
    | succ k =>
     have h5:=e3 k o' ho;have h6:=hS (k+1);rw [hS,hX,show i+(k+1)+1=i+(k+1+1) from af,h6];exact h5
   ·obtain ⟨k1,k2,k3⟩:=h3 hdr
    cases k with
    | zero=>rw [ahF,hX0];exact k2 e he
    | succ k =>
     have:=(e4 hdr).1 k (by simp at hk;omega) e (k1 e he);rw [hX,show i+(k+1)=i+1+k by omega];exact this
   ·obtain ⟨k1,k2,k3⟩:=h3 hdr
    cases k with
    | zero=>omega
    | succ k =>
     simp only [List.length_cons] at hk;rw [hX,show i+(k+1)=i+1+k by omega]
     cases j with
     | zero =>
      rw [show i+0=i from rfl,hX0];rcases k3 with k3 | ⟨k4,k5⟩
      ·exact (e4 hdr).1 k af _ k3
      ·rw [k4,k5]
       exact .inl ⟨fun _ hy=>(by cases hy),fun _ _ hy=>(by cases hy),fun _ _ hy=>(by cases hy)⟩
     | succ j =>
      rw [hX,show i+(j+1)=i+1+j by omega];exact (e4 hdr).2 j k af af
  have SN : ∀ x:Option Out,Rx x=[]->Wx x=[] -> ∀ e:Nat×List Nat×List Nat,sJ ops i x e:=fun x h1 h2 e => .inl ⟨fun _ _ hy=>(by rw [h1] at hy;cases hy),fun _ hy=>(by rw [h2] at hy;cases hy),fun _ hy=>(by rw [h2] at hy;cases hy)⟩
  have run:Wt ops o s.T true->(step ops dr i (dw P Gl o.op) o.dst (iR P Gl N ops dr l (i+1))).f call m L s.T s.h s.n s.W K=some r->Trace P Gl N m ops call dr (o::l) i L s K r:=fun hw hv=>by
   obtain ⟨out,L',h1,h2,h3,h4,h5⟩:=adE hv
   exact glue ⟨fA o.dst out.v s.T,puts s.h out.D,out.n,fZ m out.D s.W⟩ (some out) L' h4 ⟨hd,hw,h1,h2,h3,rfl⟩ fun hdr=>by
    rcases h5 hdr with ⟨rfl,h6,h7⟩ | ⟨h6,rfl⟩
    ·have h8:Wx (some out)=[]:=by show ids out.D=[];rw [h7];rfl
     exact ⟨fun _ he=>he,fun e _=>SN (some out) h6 h8 e,.inr ⟨h6,h8⟩⟩
    ·exact ⟨fun _ he => .tail _ he,KP h6,.inl ak⟩
  have hwt:Wt ops o s.T=fun b=>match qC ops o with | .yes=>b=true | .uo g=>g s.T=some b:=rfl
  cases hg:qC ops o with
  | yes =>
   rw [hg] at hv hwt;exact run (by rw [hwt]) hv
  | uo g =>
   rw [hg] at hv hwt;obtain ⟨b,h1,hv⟩:=bC.1 (show ob (g s.T) _=some r from hv);rcases dH.1 hv with ⟨rfl,hv⟩ | ⟨rfl,hv⟩
   ·exact run (by rw [hwt];exact h1) hv
   ·exact glue ⟨fA o.dst (.iZ []) s.T,s.h,s.n,s.W⟩ none L hv ⟨hd,by rw [hwt];exact h1,rfl⟩ fun hdr=>⟨fun _ he=>he,fun e _=>SN _ rfl rfl e,.inr ⟨rfl,rfl⟩⟩
end
end Run
namespace Run
open Go Go.RowKit bJ
section
variable {P:Program} {B N m:Nat} {M M':Mp} {w w':World} {w0:World×(Nat->Option VB)×World×List Deferred} {Gl:List VB} {call:eX} {a:Act} {ops:Array Oper} {s s':Z} {o:Oper} {dr:Bool} {S:Nat->Z} {X:Nat->Option Out} {l:List Oper}
abbrev At(P:Program)(Gl:List VB)(B N m:Nat)(w0:World×(Nat->Option VB)×World×List Deferred)(M:Mp)(s:Z)(a:Act)(w:World):Prop:=Rel P Gl B N m w0 M (dP s.T) (get s.h) (· ∈ s.W) a w
theorem adK{x:Option Out}(h:Stp P Gl N m ops call o s x s'):s.n<=s'.n:=by
 obtain ⟨_,h⟩:=h
 cases x with
 | none=>obtain ⟨_,rfl⟩:=h;exact ahj _
 | some out=>obtain ⟨_,_,h,_,rfl⟩:=h;exact h
theorem adI{x:Option Out}(h:Stp P Gl N m ops call o s x s')(hl:HL s.h s.n):HL s'.h s'.n:=by
 obtain ⟨_,h⟩:=h
 cases x with
 | none=>obtain ⟨_,rfl⟩:=h;exact hl
 | some out =>
  obtain ⟨_,_,h,h2,rfl⟩:=h;intro i b hb;rcases AZ hb with ⟨h3,rfl⟩ | ⟨_,h3⟩
  ·exact h2 b h3
  ·exact ahr (hl i b h3) h
theorem VD{v:V}{r:Value}(hr:At P Gl B N m w0 M s a w)(hd : ∀ d,o.dst=some d->d<N)(hv:VR M v r):At P Gl B N m w0 M ⟨fA o.dst v s.T,s.h,s.n,s.W⟩ (a.put o.dst r) w :=
 hr.step (dm.same (h:=[]) (n:=m) (R:=[])) (ahj m) (fun i hi hi'=>absurd hi' af) (fun i hi=>by cases hi) hv hd (fun t u hu=>by
  rw [oz] at hu
  split at hu
  ·rename_i e;cases hu;exact .inl ⟨e,rfl⟩
  ·rename_i e;exact .inr ⟨e,hu⟩) (fun i b hb => .inr ⟨fun _ h=>(by cases h),hb⟩) (fun i b hb=>⟨b,hb⟩) (fun _ h=>(by cases h)) (fun j=>⟨.inl,fun h=>h.resolve_right fun ⟨_,_,h,_⟩=>(by cases h)⟩)
theorem Tf:VR M (.iZ []) undef:=⟨[],.nil,rfl⟩
theorem jZ(hst : ∀ k o,l[k]? = some o->Stp P Gl N m ops call o (S k) (X k) (S (k+1))){k:Nat} : ∀ {j:Nat},k<=j->j<=l.length->(S k).n<=(S j).n
 | 0,h,_=>by
         obtain rfl:k=0:=af;exact ahj _
 | j+1,h,hj=>by
  by_cases e:k=j+1
  ·rw [e];exact ahj _
  ·exact ahk (jZ hst af af) (adK (hst j _ (ahR (show j<l.length from af))))
theorem yQ(hst : ∀ k o,l[k]? = some o->Stp P Gl N m ops call o (S k) (X k) (S (k+1)))(h0:HL (S 0).h (S 0).n) : ∀ {j:Nat},j<=l.length->HL (S j).h (S j).n
 | 0,_=>h0
 | j+1,hj=>adI (hst j _ (ahR (show j<l.length from af))) (yQ hst h0 af)
theorem seq_ok(hst : ∀ k o,l[k]? = some o->Stp P Gl N m ops call o (S k) (X k) (S (k+1)))(hc:lK P Gl B call)(h0:HL (S 0).h (S 0).n)(hn:nm<=(S 0).n)(hm:m<=(S 0).n){Q:Exit->Act->World->Prop} : ∀ (d k:Nat),k+d=l.length -> ∀ M a w,At P Gl B N m w0 M (S k) a w->(∀ i,(S k).n<=i->i<(S l.length).n->M i=none) ->
  (∀ M' a' w',(∀ i,¬ ((S k).n<=i/\i<(S l.length).n)->M' i=M i)->At P Gl B N m w0 M' (S l.length) a' w'->Q .normal a' w')->mL P ops Q (l.drop k) a w
 | 0,k,hk,M,a,w,hr,_,hQ=>by
  obtain rfl:k=l.length:=af;rw [List.drop_length];exact hQ M a w (fun _ _=>rfl) hr
 | d+1,k,hk,M,a,w,hr,hfr,hQ=>by
  have hlt:k<l.length:=af;have ho:=ahR hlt;have hs:=hst k _ ho;rw [aiq hlt];generalize l[k]=o at ho hs;have ih:=seq_ok hst hc h0 hn hm (Q:=Q) d (k+1) af;have hm1:=jZ hst (ahl k) af;have hm2:=jZ hst (show k+1<=l.length from af) (ahj _);have Gh:=jZ hst (aiH k) (show k+1<=l.length from af);unfold mL
  cases hx:X k with
  | none =>
   rw [hx] at hs;obtain ⟨hd,hw,he⟩:=hs;rw [if_neg (by rw [Ju hw fun t _ u hu=>hr.tm t u hu];simp)];have h3:=VD (o:=o) hr hd Tf;rw [<- he] at h3;have hne:(S (k+1)).n=(S k).n:=by rw [he]
   exact ih M _ w h3 (by rw [hne];exact hfr) (by rw [hne];exact hQ)
  | some out =>
   rw [hx] at hs;have hs':=hs;obtain ⟨hd,hw,_,hle,hD,he⟩:=hs;have hne:(S (k+1)).n=out.n:=by rw [he]
   rw [if_pos (Ju hw fun t _ u hu=>hr.tm t u hu)];refine (P7 hs' hc hr af af (yQ hst h0 af) (fun i hi hi'=>hfr i hi af) (fun _ _ _ h=>h) (fun _ _ _ h=>h) (τ':=dP (S (k+1)).T) (η':=get (S (k+1)).h) (ω':=(· ∈ (S (k+1)).W)) (fun t u hu => ?_) (fun i b hb => ?_) (fun i b hb => ?_) (fun b hb => ?_) (fun j => ?_) fun M' a' w' h4 h5 => ?_)
   ·rw [he] at hu
    rw [show (Z.mk (fA o.dst out.v (S k).T) (puts (S k).h out.D) out.n (fZ m out.D (S k).W)).T=fA o.dst out.v (S k).T from rfl,oz] at hu
    split at hu
    ·rename_i e;cases hu;exact .inl ⟨e,rfl⟩
    ·rename_i e;exact .inr ⟨e,hu⟩
   ·rw [he] at hb;exact AZ hb
   ·rw [he];exact xO (.inr ⟨b,hb⟩)
   ·rw [he];exact xO (.inl ⟨b,hb,rfl⟩)
   ·rw [he];exact EG
   ·exact ih M' a' w' h5 (fun i hi hi'=>by rw [h4 i af];exact hfr i af hi') (fun M'' a'' w'' h7 h8=>hQ M'' a'' w'' (fun i hi=>by rw [h7 i af,h4 i af]) h8)
end
end Run
namespace Run
open Go Go.RowKit bJ
def lst(p:Nat->Bool):Nat->Option Nat
 | 0=>none
 | n+1=>if p n then some n else lst p n
theorem Ap{p q:Nat->Bool} : ∀ {n:Nat},(∀ j,j<n->p j=q j)->lst p n=lst q n
 | 0,_=>rfl
 | n+1,h=>by unfold lst;rw [h n (ahU _),Ap fun j hj=>h j af]
theorem xC{p:Nat->Bool}{i:Nat} : ∀ {n:Nat},i<=n->(∀ j,i<=j->j<n->p j=false)->lst p n=lst p i
 | 0,h,_=>by
         obtain rfl:i=0:=af
         rfl
 | n+1,h,hp=>by
  by_cases e:i=n+1
  ·rw [e]
  ·unfold lst
   rw [if_neg (by rw [hp n af af];simp)];have:=xC (p:=p) (i:=i) (n:=n) af fun j h1 h2=>hp j h1 af;rw [this]
   cases i <;> rfl
section
variable {α:Type} {val:Nat->α} {wr D D':Nat->Bool} {len i:Nat}
def vd(val:Nat->α)(p:Nat->Bool)(len:Nat):α:=match lst p len with
 | some j=>val (j+1)
 | none=>val 0
theorem Ji(hf : ∀ k,k<len->wr k=false->val (k+1)=val k) : ∀ {k:Nat},k<=len->vd val wr k=val k
 | 0,_=>rfl
 | k+1,hk=>by
  unfold vd lst
  cases hw:wr k with
  | true=>simp
  | false=>simp only [Bool.false_eq_true,if_false];exact (Ji hf (k:=k) af).trans (hf k af hw).symm
theorem Tv(hf : ∀ k,k<len->wr k=false->val (k+1)=val k)(hi:i<=len)(h : ∀ j,j<len->wr j=true->(D j=true↔j<i)):vd val (fun j=>D j&&wr j) len=val i:=by
 have h1:lst (fun j=>D j&&wr j) len=lst wr i:=by
  rw [xC hi fun j h1 h2 => ?_]
  ·exact Ap fun j hj=>by
    cases hw:wr j with
    | true=>rw [(h j af hw).2 hj];rfl
    | false=>simp
  ·cases hw:wr j with
   | true =>
    cases hd:D j with
    | true=>exact absurd ((h j h2 hw).1 hd) af
    | false=>rfl
   | false=>simp
 rw [<- Ji hf hi];unfold vd;rw [h1]
theorem TA(hi:i<len)(hw:wr i=true)(hD:D' i=true)(h : ∀ j,j<len->i<j->wr j=true->D' j=false):vd val (fun j=>D' j&&wr j) len=val (i+1):=by
 unfold vd
 rw [xC (i:=i+1) hi fun j h1 h2=>by
  cases hw:wr j with
  | true=>rw [h j h2 af hw];rfl
  | false=>simp]
 unfold lst;rw [if_pos (by rw [hD,hw];rfl)]
theorem Tu(hw:wr i=false)(hD : ∀ j,j≠i->D' j=D j):vd val (fun j=>D' j&&wr j) len=vd val (fun j=>D j&&wr j) len:=by
 unfold vd;rw [Ap fun j _ => ?_]
 by_cases e:j=i
 ·rw [e,hw,Bool.and_false,Bool.and_false]
 ·rw [hD j e]
theorem Tt(hf : ∀ k,k<len->wr k=false->val (k+1)=val k)(h : ∀ j,j<len->D j=true):vd val (fun j=>D j&&wr j) len=val len:=by
 rw [<- Ji hf (ahj len)];unfold vd;rw [Ap fun j hj=>by rw [h j hj,Bool.true_and]]
end
def cnt(p:Nat->Bool):Nat->Nat
 | 0=>0
 | n+1=>cnt p n+if p n then 1 else 0
theorem cnt_le{p q:Nat->Bool} : ∀ {n:Nat},(∀ j,j<n->q j=true->p j=true)->cnt q n<=cnt p n
 | 0,_=>ahj _
 | n+1,h=>by
  have h1:=cnt_le (n:=n) fun j hj=>h j af;have h2:=h n (ahU _);unfold cnt
  cases hq:q n with
  | true=>rw [h2 hq];simp;exact h1
  | false=>simp;omega
theorem cnt_lt{p q:Nat->Bool}{i:Nat}(hp:p i=true)(hq:q i=false) : ∀ {n:Nat},(∀ j,j<n->q j=true->p j=true)->i<n->cnt q n<cnt p n
 | 0,_,hi=>absurd hi (ah2 _)
 | n+1,h,hi=>by
  unfold cnt
  by_cases e:i=n
  ·subst e
   rw [hp,hq];have:=cnt_le (n:=i) fun j hj=>h j af;simp;omega
  ·have h1:=cnt_lt hp hq (n:=n) (fun j hj=>h j af) af
   have h2:=h n (ahU _)
   cases hq:q n with
   | true=>rw [h2 hq];simp;exact h1
   | false=>simp;omega
theorem LP{p:Nat->Bool} : ∀ {n:Nat},cnt p n=0 -> ∀ j,j<n->p j=false
 | 0,_,j,hj=>absurd hj (ah2 _)
 | n+1,h,j,hj=>by
  unfold cnt at h
  by_cases e:j=n
  ·subst e
   cases hp:p j with
   | true=>rw [hp] at h;simp at h
   | false=>rfl
  ·exact LP (n:=n) af j af
section
variable {P:Program} {B N m:Nat} {M M' M0:Mp} {w w':World} {Gl:List VB} {call:eX} {a:Act} {ops:Array Oper} {S:Nat->Z} {X:Nat->Option Out} {D:Nat->Bool}
theorem KN{i j:Nat}{o:Oper}(ho:ops[i]? = some o):j∈bn ops i ↔ ∃ e∈o.after,Region.binds .any e=true/\e.on=j:=by
 unfold bn;rw [ho];simp only [ahZ,List.mem_filter];constructor
 ·rintro ⟨e,⟨h1,h2⟩,h3⟩;exact ⟨e,by simpa using h1,h2,h3⟩
 ·rintro ⟨e,h1,h2,h3⟩;exact ⟨e,⟨by simpa using h1,h2⟩,h3⟩
def vT(ops:Array Oper)(D:Nat->Bool):Prop := ∀ i,D i=true -> ∀ j∈bn ops i,D j=true
theorem wC(hc:vT ops D) : ∀ {f j i:Nat},kR ops f j i=true->(∀ k∈bn ops i,D k=true)->D j=true
 | 0,_,_,h,_=>by cases h
 | f+1,j,i,h,hi=>by
  unfold kR at h;rcases Bool.or_eq_true_iff.1 h with h | h
  ·exact hi j (mem_eq.1 h)
  ·obtain ⟨k,h1,h2⟩:=List.any_eq_true.1 h
   exact wC hc h2 (hc k (hi k h1))
theorem I5{i:Nat}{o:Oper} : ∀ {l:List Oper} {k:Nat},rW ops i o k l=true -> ∀ j p,l[j]? = some p->k+j<i->((∀ y∈gI p,y∈reads ops o->False)/\(∀ y∈gI o,y∈reads ops p->False) /\ ∀ y∈gI o,y∈gI p->False)\/kR ops (len ops.toList) (k+j) i=true
 | [],_,_,j,p,hp,_=>by cases hp
 | q::l,k,h,j,p,hp,hlt=>by
  have h:bf (Nat.blt k i) (bf (bf (gU (gI q) (reads ops o)) (bf (gU (gI o) (reads ops q)) (gU (gI o) (gI q)) false) false||kR ops (len ops.toList) k i) (rW ops i o (k+1) l) false) true=true:=h;rw [show Nat.blt k i=true by simpa using (show k<i from af)] at h;rcases dH.1 (show bf (bf (gU (gI q) (reads ops o)) (bf (gU (gI o) (reads ops q)) (gU (gI o) (gI q)) false) false||kR ops (len ops.toList) k i) (rW ops i o (k+1) l) false=true from h) with ⟨h1,h2⟩ | ⟨_,h2⟩
  ·cases j with
   | zero =>
    cases hp;rcases Bool.or_eq_true_iff.1 h1 with h1 | h1
    ·rcases dH.1 h1 with ⟨h3,h1⟩ | ⟨_,h1⟩
     ·rcases dH.1 h1 with ⟨h4,h1⟩ | ⟨_,h1⟩
      ·exact .inl ⟨tJ.1 h3,tJ.1 h4,tJ.1 h1⟩
      ·cases h1
     ·cases h1
    ·exact .inr h1
   | succ j =>
    have:=I5 h2 j p hp af;rw [show k+(j+1)=k+1+j by omega];exact this
  ·cases h2
theorem Cj : ∀ {l:List Oper} {k:Nat},oH ops k l=true -> ∀ j o,l[j]? = some o->rW ops (k+j) o 0 ops.toList=true /\ ∀ i∈bn ops (k+j),i<k+j
 | [],_,_,j,p,hp=>by cases hp
 | q::l,k,h,j,p,hp=>by
  rcases dH.1 (show bf (rW ops k q 0 ops.toList) (bf ((bn ops k).all fun j=>Nat.blt j k) (oH ops (k+1) l) false) false=true from h) with ⟨h1,h⟩ | ⟨_,h⟩
  ·rcases dH.1 h with ⟨h2,h⟩ | ⟨_,h⟩
   ·cases j with
    | zero=>cases hp;exact ⟨h1,fun i hi=>by simpa using ahK.1 h2 i hi⟩
    | succ j =>
     rw [show k+(j+1)=k+1+j by omega];exact Cj h j p hp
   ·cases h
  ·cases h
end
end Run
namespace Run
open Go Go.RowKit bJ
variable {r:Option Nat}
section
variable {P:Program} {B N m:Nat} {M M' M0:Mp} {w w':World} {w0:World×(Nat->Option VB)×World×List Deferred} {Gl:List VB} {call:eX} {a:Act} {ops:Array Oper} {S:Nat->Z} {X:Nat->Option Out} {D D':Nat->Bool} {K:Nat}
noncomputable def wt (ops:Array Oper) (t j:Nat):Bool:=match ops[j]? with
 | some o=>mem t (gI o)
 | none=>false
noncomputable def wb (X:Nat->Option Out) (i j:Nat):Bool:=mem i (Wx (X j))
noncomputable def τD (ops:Array Oper) (S:Nat->Z) (D:Nat->Bool) (t:Nat):Option V:=vd (fun k=>dP (S k).T t) (fun j=>D j&&wt ops t j) ops.size
noncomputable def ηD (ops:Array Oper) (S:Nat->Z) (X:Nat->Option Out) (D:Nat->Bool) (i:Nat):Option VB:=vd (fun k=>get (S k).h i) (fun j=>D j&&wb X i j) ops.size
def ωD(ops:Array Oper)(m:Nat)(S:Nat->Z)(X:Nat->Option Out)(D:Nat->Bool)(j:Nat):Prop:=j∈(S 0).W\/(j<m /\ ∃ k,k<ops.size/\D k=true/\j∈Wx (X k))
theorem zh{o:Oper}{t:Nat} : t∈gI o↔o.dst=some t:=by
 unfold gI
 cases o.dst with
 | none=>simp
 | some d=>simp [eq_comm]
section
variable (hst : ∀ k o,ops[k]? = some o->Stp P Gl N m ops call o (S k) (X k) (S (k+1))) (hap : ∀ j k,j<k->k<ops.size->sJ ops k (X k) (j,Rx (X j),Wx (X j))) (lq:oH ops 0 ops.toList=true)
include hst in
theorem TR{t k:Nat}(hk:k<ops.size)(hw:wt ops t k=false):dP (S (k+1)).T t=dP (S k).T t:=by
 have ho:=ahH hk;have hs:=hst k _ ho;unfold wt at hw;rw [ho] at hw;generalize ops[k]=o at ho hs hw
 have hd:o.dst≠some t:=fun e=>by
  have:=mem_eq.2 (zh.2 e);simp only [] at hw;rw [this] at hw;cases hw
 obtain ⟨_,hs⟩:=hs
 cases hx:X k with
 | none=>rw [hx] at hs;rw [hs.2];exact oz.trans (if_neg hd)
 | some out=>rw [hx] at hs;rw [hs.2.2.2.2];exact oz.trans (if_neg hd)
include hst in
theorem TI{i k:Nat}(hk:k<ops.size)(hw:wb X i k=false):get (S (k+1)).h i=get (S k).h i:=by
 have hs:=hst k _ (ahH hk);unfold wb at hw;obtain ⟨_,hs⟩:=hs
 cases hx:X k with
 | none=>rw [hx] at hs;rw [hs.2]
 | some out =>
  rw [hx] at hs hw;rw [hs.2.2.2.2]
  exact QA fun c hc e=>by
   have:=mem_eq.2 (show i∈Wx (some out) from ids_eq.2 ⟨c,hc,e⟩);rw [this] at hw;cases hw
include hst in
theorem KI{j:Nat} : ∀ {n:Nat},n<=ops.size->(j∈(S n).W↔j∈(S 0).W\/(j<m /\ ∃ k,k<n/\j∈Wx (X k)))
 | 0,_=>⟨.inl,fun h=>h.resolve_right fun ⟨_,_,h,_⟩=>absurd h (ah2 _)⟩
 | n+1,hn=>by
  have ih:=KI (j:=j) (n:=n) af;obtain ⟨_,hs⟩:=hst n _ (ahH (show n<ops.size from af))
  have hw:j∈(S (n+1)).W↔j∈(S n).W\/(j<m/\j∈Wx (X n)):=by
   cases hx:X n with
   | none=>rw [hx] at hs;rw [hs.2];exact ⟨.inl,fun h=>h.resolve_right fun ⟨_,h⟩=>(by cases h)⟩
   | some out =>
    rw [hx] at hs;rw [hs.2.2.2.2];exact EG.trans (or_congr_right (and_congr_right fun _=>ids_eq.symm))
  rw [hw,ih];constructor
  ·rintro ((h | ⟨h1,k,h2,h3⟩) | ⟨h1,h2⟩)
   ·exact .inl h
   ·exact .inr ⟨h1,k,af,h3⟩
   ·exact .inr ⟨h1,n,af,h2⟩
  ·rintro (h | ⟨h1,k,h2,h3⟩)
   ·exact .inl (.inl h)
   ·by_cases e:k=n
    ·subst e;exact .inr ⟨h1,h3⟩
    ·exact .inl (.inr ⟨h1,k,af,h3⟩)
include hap in
theorem LU(hK:K<ops.size)(jf:D K=false)(hrd : ∀ j∈bn ops K,D j=true)(hc:vT ops D){y j:Nat}(hj:j<ops.size)(hy:wb X y j=true)(hyk:y∈Rx (X K)\/y∈Wx (X K)):D j=true↔j<K:=by
 have hy:=mem_eq.1 hy;rcases aiV j K with h | h | h
 ·refine ⟨fun _=>h,fun _ => ?_⟩
  rcases hap j K h hK with ⟨h1,_,h3⟩ | h1
  ·rcases hyk with hyk | hyk
   ·exact (h1 y hy hyk).elim
   ·exact (h3 y hyk hy).elim
  ·exact wC hc h1 hrd
 ·subst h;exact ⟨fun h=>(by rw [jf] at h;cases h),fun h=>absurd h (aia _)⟩
 ·refine ⟨fun hd => ?_,fun h'=>af⟩
  rcases hap K j h hj with ⟨_,h2,h3⟩ | h1
  ·rcases hyk with hyk | hyk
   ·exact (h2 y hy hyk).elim
   ·exact (h3 y hy hyk).elim
  ·have:=wC hc h1 (hc j hd)
   rw [jf] at this;cases this
include lq in
theorem LV{o:Oper}(hK:ops[K]? = some o)(jf:D K=false)(hrd : ∀ j∈bn ops K,D j=true)(hc:vT ops D){t j:Nat}(hj:j<ops.size)(hy:wt ops t j=true)(hyk:t∈reads ops o\/t∈gI o):D j=true↔j<K:=by
 have hoj:=ahH hj;unfold wt at hy;rw [hoj] at hy;generalize ops[j]=p at hoj hy;have hy:=mem_eq.1 hy;have hl : ∀ {k q},ops[k]? = some q->ops.toList[k]? = some q:=fun h=>by rw [ais];exact h
 rcases aiV j K with h | h | h
 ·refine ⟨fun _=>h,fun _ => ?_⟩
  have h0:=(Cj lq K o (hl hK)).1;rw [ahC] at h0;have h1:=I5 h0 j p (hl hoj) af;rw [ahC] at h1;rcases h1 with ⟨h1,_,h3⟩ | h1
  ·rcases hyk with hyk | hyk
   ·exact (h1 t hy hyk).elim
   ·exact (h3 t hyk hy).elim
  ·exact wC hc h1 hrd
 ·subst h;exact ⟨fun h=>(by rw [jf] at h;cases h),fun h=>absurd h (aia _)⟩
 ·refine ⟨fun hd => ?_,fun h'=>af⟩
  have h0:=(Cj lq j p (hl hoj)).1;rw [ahC] at h0;have h1:=I5 h0 K o (hl hK) af;rw [ahC] at h1;rcases h1 with ⟨_,h2,h3⟩ | h1
  ·rcases hyk with hyk | hyk
   ·exact (h2 t hy hyk).elim
   ·exact (h3 t hy hyk).elim
  ·have:=wC hc h1 (hc j hd)
   rw [jf] at this;cases this
include hst hap lq in
theorem aar(hc:lK P Gl B call)(h0:HL (S 0).h (S 0).n)(hn:nm<=(S 0).n)(hm:m<=(S 0).n){o:Oper}(ho:ops[K]? = some o)(jf:D K=false)(hrd : ∀ j∈bn ops K,D j=true)(hcl:vT ops D)(hD' : ∀ j,j≠K->D' j=D j)(nS:D' K=true)(hr:Rel P Gl B N m w0 M (τD ops S D) (ηD ops S X D) (ωD ops m S X D) a w)(hfr : ∀ x,(S K).n<=x->x<(S (K+1)).n->M x=none){G:Act->World->Prop}(hG : ∀ M' a' w',(∀ i,¬ ((S K).n<=i/\i<(S (K+1)).n)->M' i=M i)->Rel P Gl B N m w0 M' (τD ops S D') (ηD ops S X D') (ωD ops m S X D') a' w'->G a' w'):eH P ops K G a w:=by
 have hK:K<ops.size:=(ahD.1 ho).1;have hl : ∀ k o,ops.toList[k]? = some o->Stp P Gl N m ops call o (S k) (X k) (S (k+1)):=fun k o h=>hst k o (by rw [ais] at h;exact h);have hs:=hst K o ho;have hm0:=jZ hl (ahl K) (by simp;omega)
 have hT : ∀ t∈reads ops o,∀ u,dP (S K).T t=some u->τD ops S D t=some u:=fun t ht u hu=>by
  unfold τD;rw [Tv (val:=fun k=>dP (S k).T t) (wr:=fun j=>wt ops t j) (fun k hk hw=>TR hst hk hw) af fun j hj hw=>LV lq ho jf hrd hcl hj hw (.inl ht)];exact hu
 have hH : ∀ i∈Rx (X K),∀ b,get (S K).h i=some b->ηD ops S X D i=some b:=fun i hi b hb=>by
  unfold ηD;rw [Tv (val:=fun k=>get (S k).h i) (wr:=fun j=>wb X i j) (fun k hk hw=>TI hst hk hw) af fun j hj hw=>LU hap hK jf hrd hcl hj hw (.inl hi)];exact hb
 have OY : ∀ t,o.dst=some t->τD ops S D' t=dP (S (K+1)).T t:=fun t ht=>by
  have hwt:wt ops t K=true:=by unfold wt;rw [ho];exact mem_eq.2 (zh.2 ht)
  exact TA (val:=fun k=>dP (S k).T t) (wr:=fun j=>wt ops t j) hK hwt nS fun j hj hlt hw=>by
   have:=LV lq ho jf hrd hcl hj hw (.inr (zh.2 ht));rw [hD' j af]
   cases hd:D j with
   | true=>have:=this.1 hd;omega
   | false=>rfl
 have OX : ∀ t,o.dst≠some t->τD ops S D' t=τD ops S D t:=fun t ht=>by
  refine Tu (i:=K) ?_ hD';unfold wt;rw [ho]
  cases hh:mem t (gI o) with
  | true=>exact absurd (zh.1 (mem_eq.1 hh)) ht
  | false=>exact hh
 have Ae : ∀ i,i∈Wx (X K)->ηD ops S X D' i=get (S (K+1)).h i:=fun i hi=>by
  exact TA (val:=fun k=>get (S k).h i) (wr:=fun j=>wb X i j) hK (mem_eq.2 hi) nS fun j hj hlt hw=>by
   have:=LU hap hK jf hrd hcl hj hw (.inr hi);rw [hD' j af]
   cases hd:D j with
   | true=>have:=this.1 hd;omega
   | false=>rfl
 have xy : ∀ i,i ∉ Wx (X K)->ηD ops S X D' i=ηD ops S X D i:=fun i hi=>by
  refine Tu (i:=K) ?_ hD'
  cases hh:wb X i K with
  | true=>exact absurd (mem_eq.1 hh) hi
  | false=>rfl
 have Gz : ∀ j,ωD ops m S X D' j↔ωD ops m S X D j\/(j<m/\j∈Wx (X K)):=fun j=>by
  unfold ωD;constructor
  ·rintro (h | ⟨h1,k,h2,h3,h4⟩)
   ·exact .inl (.inl h)
   ·by_cases e:k=K
    ·subst e;exact .inr ⟨h1,h4⟩
    ·exact .inl (.inr ⟨h1,k,h2,by rw [<- hD' k e];exact h3,h4⟩)
  ·rintro ((h | ⟨h1,k,h2,h3,h4⟩) | ⟨h1,h2⟩)
   ·exact .inl h
   ·exact .inr ⟨h1,k,h2,by rw [hD' k (fun e=>by subst e;rw [jf] at h3;cases h3)];exact h3,h4⟩
   ·exact .inr ⟨h1,K,hK,nS,h2⟩
 have hwt : ∀ b,Wt ops o (S K).T b->Region.wanted o (yielded ops a.tmps)=b:=fun b hw=>Ju hw fun t ht u hu=>hr.tm t u (hT t ht u hu);unfold eH;simp only [ho]
 cases hx:X K with
 | none =>
  rw [hx] at hs;obtain ⟨hd,hw,he⟩:=hs;rw [if_neg (by rw [hwt _ hw];simp)];have hne:(S (K+1)).n=(S K).n:=by rw [he]
  refine hG M _ w (fun _ _=>rfl) (hr.step (dm.same (h:=[]) (n:=m) (R:=[])) (ahj m) (fun i hi hi'=>absurd hi' af) (fun i hi=>by cases hi) Tf hd (fun t u hu => ?_) (fun i b hb => .inr ⟨fun _ h=>(by cases h),?_⟩) (fun i b hb=>⟨b,?_⟩) (fun _ h=>(by cases h)) fun j => ?_)
  ·by_cases e:o.dst=some t
   ·rw [OY t e,he] at hu
    rw [show (Z.mk (fA o.dst (.iZ []) (S K).T) (S K).h (S K).n (S K).W).T=fA o.dst (.iZ []) (S K).T from rfl,oz,if_pos e] at hu
    cases hu;exact .inl ⟨e,rfl⟩
   ·rw [OX t e] at hu;exact .inr ⟨e,hu⟩
  ·rw [xy i (by rw [hx];exact fun h=>by cases h)] at hb;exact hb
  ·rw [xy i (by rw [hx];exact fun h=>by cases h)];exact hb
  ·rw [Gz,hx]
   exact or_congr_right ⟨fun ⟨_,h⟩=>(by cases h),fun ⟨_,_,h,_⟩=>(by cases h)⟩
 | some out =>
  rw [hx] at hs hH Ae xy Gz;have hs':=hs;obtain ⟨hd,hw,_,hle,hDl,he⟩:=hs;have hne:(S (K+1)).n=out.n:=by rw [he]
  rw [if_pos (hwt _ hw)];refine (P7 hs' hc hr af af (yQ hl h0 (by simp;omega)) (fun i hi hi'=>hfr i hi af) hT hH (fun t u hu => ?_) (fun i b hb => ?_) (fun i b hb => ?_) (fun b hb => ?_) (fun j => ?_) fun M' a' w' h4 h5=>hG M' a' w' (fun i hi=>h4 i af) h5)
  ·by_cases e:o.dst=some t
   ·rw [OY t e,he] at hu
    rw [show (Z.mk (fA o.dst out.v (S K).T) (puts (S K).h out.D) out.n (fZ m out.D (S K).W)).T=fA o.dst out.v (S K).T from rfl,oz,if_pos e] at hu
    cases hu;exact .inl ⟨e,rfl⟩
   ·rw [OX t e] at hu;exact .inr ⟨e,hu⟩
  ·by_cases e:i∈Wx (some out)
   ·rw [Ae i e,he] at hb
    rcases AZ hb with h6 | ⟨h6,_⟩
    ·exact .inl h6
    ·obtain ⟨c,h7,h8⟩:=ids_eq.1 e
     exact absurd h8 (h6 c h7)
   ·rw [xy i e] at hb
    exact .inr ⟨fun c hc e'=>e (ids_eq.2 ⟨c,hc,e'⟩),hb⟩
  ·by_cases e:i∈Wx (some out)
   ·rw [Ae i e,he]
    obtain ⟨c,h7,h8⟩:=ids_eq.1 e;exact xO (.inl ⟨c,h7,h8⟩)
   ·rw [xy i e];exact ⟨b,hb⟩
  ·rw [Ae b.id (ids_eq.2 ⟨b,hb,rfl⟩),he];exact xO (.inl ⟨b,hb,rfl⟩)
  ·rw [Gz]
   exact or_congr_right (and_congr_right fun _=>ids_eq)
include hst hap lq in
theorem any_ok(hc:lK P Gl B call)(h0:HL (S 0).h (S 0).n)(hn:nm<=(S 0).n)(hm:m<=(S 0).n){Q:Exit->Act->World->Prop}(hQ : ∀ M' a' w',(∀ i,¬ ((S 0).n<=i/\i<(S ops.size).n)->M' i=M0 i)->At P Gl B N m w0 M' (S ops.size) a' w'->Q .normal a' w') :
  ∀ (fuel:Nat) (listed:Array Bool),listed.size=ops.size->cnt (fun j => !listed.getD j false) ops.size<=fuel->vT ops (fun j=>listed.getD j false) -> ∀ M a w,(∀ i,¬ ((S 0).n<=i/\i<(S ops.size).n)->M i=M0 i)->(∀ j,j<ops.size->listed.getD j false=false -> ∀ x,(S j).n<=x->x<(S (j+1)).n->M x=none) ->
   Rel P Gl B N m w0 M (τD ops S fun j=>listed.getD j false) (ηD ops S X fun j=>listed.getD j false) (ωD ops m S X fun j=>listed.getD j false) a w->wpAnyIn (Fr r) 0 P .any ops Q fuel listed a w:=by
 have hl : ∀ k o,ops.toList[k]? = some o->Stp P Gl N m ops call o (S k) (X k) (S (k+1)):=fun k o h=>hst k o (by rw [ais] at h;exact h)
 have hdn : ∀ (listed:Array Bool),(∀ j,j<ops.size->listed.getD j false=true) -> ∀ M a w,(∀ i,¬ ((S 0).n<=i/\i<(S ops.size).n)->M i=M0 i)->Rel P Gl B N m w0 M (τD ops S fun j=>listed.getD j false) (ηD ops S X fun j=>listed.getD j false) (ωD ops m S X fun j=>listed.getD j false) a w->Q .normal a w:=fun listed hall M a w he hr=>by
  refine hQ M a w he ?_;have e1:(τD ops S fun j=>listed.getD j false)=dP (S ops.size).T:=funext fun t=>Tt (val:=fun k=>dP (S k).T t) (wr:=fun j=>wt ops t j) (fun k hk hw=>TR hst hk hw) hall;have e2:(ηD ops S X fun j=>listed.getD j false)=get (S ops.size).h:=funext fun i=>Tt (val:=fun k=>get (S k).h i) (wr:=fun j=>wb X i j) (fun k hk hw=>TI hst hk hw) hall
  have e3:(ωD ops m S X fun j=>listed.getD j false)=(· ∈ (S ops.size).W):=funext fun j=>propext (by
   rw [KI hst (ahj _)];unfold ωD;exact or_congr_right (and_congr_right fun _=>⟨fun ⟨k,h1,_,h3⟩=>⟨k,h1,h3⟩,fun ⟨k,h1,h3⟩=>⟨k,h1,hall k h1,h3⟩⟩))
  rw [e1,e2,e3] at hr;exact hr
 have Om : ∀ (listed:Array Bool),listed.size=ops.size->Region.ready .any ops listed=[] -> ∀ j,j<ops.size->listed.getD j false=true:=fun listed hsz hnil=>by
  intro j
  induction j using Nat.strongRecOn with
  | _ j ih =>
   intro hj
   cases hd:listed.getD j false with
   | true=>rfl
   | false =>
    have ho:=ahH hj
    have h1:j∈Region.ready .any ops listed:=mem_ready.2 ⟨by
     have hlt:j<listed.size:=af
     simp [hlt] at hd ⊢;exact hd,_,ho,fun e he hb=>by
      have h2:=(Cj lq j _ (by rw [ais];exact ho)).2 e.on (by rw [ahC];exact (KN ho).2 ⟨e,he,hb,rfl⟩);exact ih e.on af af⟩
    rw [hnil] at h1;cases h1
 intro fuel
 induction fuel with
 | zero =>
  intro listed hsz hcnt hcl M a w he hfr hr
  have hall : ∀ j,j<ops.size->listed.getD j false=true:=fun j hj=>by
   have:=LP (Nat.le_zero.1 hcnt) j hj
   simpa using this
  refine ⟨?_,hdn listed hall M a w he hr⟩;rw [List.eq_nil_iff_forall_not_mem];intro j hj;obtain ⟨h1,o,ho,_⟩:=mem_ready.1 hj;have hlt:=(ahD.1 ho).1;have h2:=hall j hlt;have hlt':j<listed.size:=af;simp [hlt'] at h1 h2;rw [h1] at h2;cases h2
 | succ fuel ih =>
  intro listed hsz hcnt hcl M a w he hfr hr;refine ⟨fun hnil=>hdn listed (Om listed hsz hnil) M a w he hr,fun K hK => ?_⟩;obtain ⟨h1,o,ho,hall⟩:=mem_ready.1 hK;have hlt:=(ahD.1 ho).1;have hlt':K<listed.size:=af;have jf:listed.getD K false=false:=by simp [hlt'] at h1 ⊢;exact h1
  have hrd : ∀ j∈bn ops K,listed.getD j false=true:=fun j hj=>by
   obtain ⟨e,h2,h3,rfl⟩:=(KN ho).1 hj;exact hall e h2 h3
  have hD' : ∀ j,j≠K->(listed.setIfInBounds K true).getD j false=listed.getD j false:=fun j hj=>getD_set_ne false (Ne.symm hj);have nS:(listed.setIfInBounds K true).getD K false=true:=by simp [hlt']
  refine PK (aar hst hap lq hc h0 hn hm (D:=fun j=>listed.getD j false) (D':=fun j=>(listed.setIfInBounds K true).getD j false) ho jf hrd hcl hD' nS hr (hfr K hlt jf) fun M' a' w' h2 h3 => ?_);have hmk:=jZ hl (ahl K) (by simp;omega);have afa:=jZ hl (show K+1<=ops.size from af) (by simp);refine ih _ (by simp [hsz]) ?_ (fun i hi j hj => ?_) M' a' w' (fun i hi => ?_) (fun j hj hd x hx1 hx2 => ?_) h3
  ·have:=cnt_lt (p:=fun j => !listed.getD j false) (q:=fun j => !(listed.setIfInBounds K true).getD j false) (i:=K) (by simp only [jf];rfl) (by simp only [nS];rfl) (n:=ops.size) (fun j _ hq=>by
    by_cases e:j=K
    ·subst e;simp only [nS] at hq;cases hq
    ·simp only [hD' j e] at hq;exact hq) hlt
   omega
  ·have hi:(listed.setIfInBounds K true).getD i false=true:=hi
   show (listed.setIfInBounds K true).getD j false=true
   by_cases e':j=K
   ·rw [e'];exact nS
   ·rw [hD' j e']
    by_cases e:i=K
    ·rw [e] at hj;exact hrd j hj
    ·rw [hD' i e] at hi;exact hcl i hi j hj
  ·rw [h2 i af];exact he i hi
  ·have NY:j≠K:=fun e=>by subst e;rw [nS] at hd;cases hd
   rw [hD' j NY] at hd;have hn1:=fun (h:j+1<=K)=>jZ hl h (by simp;omega);have hn2:=fun (h:K+1<=j)=>jZ hl h (by simp;omega)
   rw [h2 x (fun h=>by
    rcases Nat.lt_or_gt_of_ne NY with h5 | h5
    ·have:=hn1 h5;omega
    ·have:=hn2 h5;omega)]
   exact hfr j hj hd x hx1 hx2
end
end
end Run
namespace Run
open Go Go.RowKit bJ
def zB:Ex->Exit
 | .normal => .normal
 | .exit i => .exit i
 | .ret => .ret
section
variable {P:Program} {B N m:Nat} {M M':Mp} {w w':World} {w0:World×(Nat->Option VB)×World×List Deferred} {Gl:List VB} {call:eX} {a:Act} {s s':Z} {r:Out}
def ja(P:Program)(Gl:List VB)(B N m:Nat)(d:Bool)(C:(Exit->Act->World->Prop)->Act->World->Prop)(s:Z)(ex:Ex)(s':Z):Prop:=s.n<=s'.n/\HL s'.h s'.n /\ ∀ w0 M a w,At P Gl B N m w0 M s a w->(∀ i,s.n<=i->i<s'.n->M i=none) -> ∀ Q:Exit->Act->World->Prop,
 (∀ M' a' w' ds,(d=false->ds=w0.2.2.2)->(∀ i,¬ (s.n<=i/\i<s'.n)->M' i=M i)->At P Gl B N m (w0.1,w0.2.1,w0.2.2.1,ds) M' s' a' w'->Q (zB ex) a' w')->C Q a w
variable {d:Bool}
theorem ja.stay{C:(Exit->Act->World->Prop)->Act->World->Prop}{ex:Ex}(hl:HL s.h s.n)(h : ∀ (Q:Exit->Act->World->Prop) a w,Q (zB ex) a w->C Q a w):ja P Gl B N m d C s ex s :=
 ⟨ahj _,hl,fun w0 M a w hr _ Q hQ=>h Q a w (hQ M a w w0.2.2.2 (fun _=>rfl) (fun _ _=>rfl) hr)⟩
theorem ja.next{C C' vS:(Exit->Act->World->Prop)->Act->World->Prop}{s1:Z}{ex:Ex}(h:ja P Gl B N m d C s .normal s1)(h':ja P Gl B N m d C' s1 ex s')(hC : ∀ Q a w,C (Exit.then (C' Q) Q) a w->vS Q a w):ja P Gl B N m d vS s ex s':=by
 obtain ⟨h1,h2,h3⟩:=h;obtain ⟨h4,h5,h6⟩:=h';refine ⟨ahk h1 h4,h5,fun w0 M a w hr hfr Q hQ=>hC Q a w (h3 w0 M a w hr (fun i hi hi'=>hfr i hi af) _ fun M' a' w' ds h0 h7 h8 => ?_)⟩;show C' Q a' w';exact h6 _ M' a' w' h8 (fun i hi hi'=>by rw [h7 i af];exact hfr i af hi') Q fun M'' a'' w'' ds' h0' h9 h10=>hQ M'' a'' w'' ds' (fun e=>(h0' e).trans (h0 e)) (fun i hi=>by rw [h9 i af,h7 i af]) h10
theorem ja.pass{C vS:(Exit->Act->World->Prop)->Act->World->Prop}{ex ex':Ex}(h:ja P Gl B N m d C s ex s')(hC : ∀ (Q:Exit->Act->World->Prop),∃ Q':Exit->Act->World->Prop,(∀ a w,Q (zB ex') a w->Q' (zB ex) a w) /\ ∀ a w,C Q' a w->vS Q a w):ja P Gl B N m d vS s ex' s':=by
 obtain ⟨h1,h2,h3⟩:=h;refine ⟨h1,h2,fun w0 M a w hr hfr Q hQ => ?_⟩;obtain ⟨Q',h4,h5⟩:=hC Q;exact h5 a w (h3 w0 M a w hr hfr Q' fun M' a' w' ds h0 h6 h7=>h4 a' w' (hQ M' a' w' ds h0 h6 h7))
theorem Rel.less{τ τ':Nat->Option V}{η:Nat->Option VB}{ω:Nat->Prop}(hr:Rel P Gl B N m w0 M τ η ω a w)(h : ∀ t v,τ' t=some v->τ t=some v):Rel P Gl B N m w0 M τ' η ω a w :=
 { hr with tm:=fun t v hv=>hr.tm t v (h t v hv) }
theorem H9{t:Nat} : ∀ {T:Tm} {b:Nat},dP (prune T b) t=if Nat.testBit b t then none else dP T t
 | .nil,b=>by show none=_;split <;> rfl
 | .cons k v T,b=>by
  have hp:prune (.cons k v T) b=bf (Nat.beq (Nat.land (Nat.shiftRight b k) 1) 1) (prune T b) (.cons k v (prune T (Nat.lor b (Nat.shiftLeft 1 k)))):=rfl
  have ht:Nat.beq (Nat.land (Nat.shiftRight b k) 1) 1=Nat.testBit b k:=by
   rw [Nat.testBit_eq_decide_div_mod_eq];show Nat.beq ((b >>> k) &&& 1) 1=_;rw [Nat.and_one_is_mod,Nat.shiftRight_eq_div_pow,Bool.eq_iff_iff];simp
  rw [hp,ht]
  have hc : ∀ T',dP (.cons k v T') t=if k=t then some v else dP T' t:=fun T'=>by
   have:=oz (d:=some k) (v:=v) (T:=T') (t:=t);rw [show fA (some k) v T' = .cons k v T' from rfl] at this;rw [this]
   by_cases e:k=t
   ·rw [if_pos e,if_pos (by rw [e])]
   ·rw [if_neg e,if_neg (fun h=>e (Option.some.inj h))]
  cases hk:Nat.testBit b k with
  | true =>
   show dP (prune T b) t=_;rw [H9,hc]
   by_cases e:k=t
   ·subst e;rw [hk];rfl
   ·rw [if_neg e]
  | false =>
   show dP (.cons k v (prune T (Nat.lor b (Nat.shiftLeft 1 k)))) t=_;rw [hc,hc,H9]
   by_cases e:k=t
   ·subst e;rw [hk];simp
   ·rw [if_neg e,if_neg e]
    have:Nat.testBit (Nat.lor b (Nat.shiftLeft 1 k)) t=Nat.testBit b t:=by
     show Nat.testBit (b ||| 1 <<< k) t=_;rw [Nat.testBit_or,Nat.one_shiftLeft,Nat.testBit_two_pow];simp [e]
    rw [this]
theorem aa6{T:Tm}{t:Nat}{v:V}(h:dP (prune T 0) t=some v):dP T t=some v:=by
 rw [H9,if_neg (by simp)] at h;exact h
def sK(P:Program)(Gl:List VB)(B N m:Nat)(d:Bool)(C:Option Nat->(Exit->Act->World->Prop)->Act->World->Prop)(s:Z)(K:KC)(r:Out):Prop := ∃ ex s',K ex s'.T s'.h s'.n s'.W=some r /\ ∀ r_,(d=true->r_=none)->ja P Gl B N m d (C r_) s ex s'
theorem ab8(hm:P.follows .mixedOrders=true)(hc:lK P Gl B call){id:Nat}{ops:Array Oper}{dr:Bool}{K:KC}(hl:HL s.h s.n)(hn:nm<=s.n)(hmn:m<=s.n)(lq:dr=true->oH ops 0 ops.toList=true)(hv:(iR P Gl N ops dr ops.toList 0).f call m [] s.T s.h s.n s.W (K .normal)=some r):sK P Gl B N m d (fun r_ Q a w=>(Code.region id ops dr).wpIn (Fr r_) 0 P Q a w) s K r:=by
 obtain ⟨S,X,hS,h1,h2,h3⟩:=MP ops.toList 0 [] s (K .normal) r hv;simp only [ahC] at h1 h2;have hlen:ops.toList.length=ops.size:=by simp
 have hst : ∀ k o,ops[k]? = some o->Stp P Gl N m ops call o (S k) (X k) (S (k+1)):=fun k o h=>h2 k o (by rw [ais];exact h);subst hS;refine ⟨.normal,S ops.toList.length,h1,fun r_ _=>⟨jZ h2 (ahl _) (ahj _),yQ h2 hl (ahj _),fun w0 M a w hr hfr Q YC => ?_⟩⟩;have hQ : ∀ M' a' w',(∀ i,¬ ((S 0).n<=i/\i<(S ops.toList.length).n)->M' i=M i)->At P Gl B N m w0 M' (S ops.toList.length) a' w'->Q .normal a' w':=fun M' a' w' h1 h2=>YC M' a' w' w0.2.2.2 (fun _=>rfl) h1 h2
 cases dr with
 | false =>
  have:=seq_ok h2 hc hl hn hmn (Q:=Q) ops.toList.length 0 (by simp) M a w hr hfr hQ;rw [ah5] at this;have h4:=wpIn_region_lit (F:=Fr r_) (n:=0) (P:=P) (id:=id) (l:=ops.toList) (Q:=Q) (a:=a) (w:=w);rw [show ops.toList.toArray=ops by simp] at h4;exact h4 (Ar this)
 | true =>
  refine wpIn_region_any hm ?_;obtain ⟨_,h5⟩:=h3 rfl;rw [hlen] at hfr hQ
  have hdr:At P Gl B N m w0 M (S 0) a { w with drawn:=w.drawn+1 } := { hr with
   hp:=fun i b hi=>⟨(hr.hp i b hi).1,(hr.hp i b hi).2⟩
   bU:=⟨hr.bU.size,hr.bU.same⟩
   bel:=hr.bel.trans ⟨rfl,rfl,rfl,ahj _,fun _ _=>rfl⟩ }
  have e0 : ∀ j,(Array.replicate ops.size false).getD j false=false:=fun j=>by
   by_cases h:j<ops.size <;> simp [aix,h]
  have hcnt : ∀ n,cnt (fun j => !(Array.replicate ops.size false).getD j false) n<=n:=fun n=>by
   induction n with
   | zero=>exact ahj _
   | succ n ih=>unfold cnt;split <;> omega
  refine any_ok (M0:=M) hst (fun j k hjk hk=>by
    have:=h5 j k hjk af;simp only [ahC] at this;exact this) (lq rfl) hc hl hn hmn hQ ops.size _ (by simp) (hcnt _) (fun i hi=>by cases (e0 i).symm.trans hi) M a _ (fun _ _=>rfl) (fun j hj _ x hx1 hx2=>hfr x ?_ ?_) ?_
  ·have:=jZ h2 (ahl j) af;omega
  ·have:=jZ h2 (show j+1<=ops.toList.length from af) (ahj _);rw [hlen] at this;omega
  ·have k1:(τD ops S fun j=>(Array.replicate ops.size false).getD j false)=dP (S 0).T:=funext fun t=>by
    unfold τD vd;rw [xC (i:=0) (ahl _) fun j _ _=>by show ((Array.replicate ops.size false).getD j false&&_)=false;rw [e0];rfl]
    rfl
   have k2:(ηD ops S X fun j=>(Array.replicate ops.size false).getD j false)=get (S 0).h:=funext fun i=>by
    unfold ηD vd;rw [xC (i:=0) (ahl _) fun j _ _=>by show ((Array.replicate ops.size false).getD j false&&_)=false;rw [e0];rfl]
    rfl
   have k3:(ωD ops m S X fun j=>(Array.replicate ops.size false).getD j false)=(· ∈ (S 0).W):=funext fun j=>propext ⟨fun h=>h.resolve_right fun ⟨_,k,_,h,_⟩=>(by cases (e0 k).symm.trans h),.inl⟩;rw [k1,k2,k3];exact hdr
end
end Run
