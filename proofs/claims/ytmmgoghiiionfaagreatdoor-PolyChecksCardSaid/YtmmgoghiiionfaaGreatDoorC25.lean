/- Part of a proof, said shortly. -/
import Derived.Shelf.Spec.TrailingZeros
import Derived.Lib.Join
import Derived.Test.YtmmgoghiiionfaaGreatDoorAlz
import Derived.Test.YtmmgoghiiionfaaGreatDoorC24
import Derived.Test.YtmmgoghiiionfaaGreatDoorC23
import Derived.Test.YtmmgoghiiionfaaGreatDoorC22
import Derived.Test.YtmmgoghiiionfaaGreatDoorC21
import Derived.Test.YtmmgoghiiionfaaGreatDoorC10
import Derived.Test.YtmmgoghiiionfaaGreatDoorC9
import Derived.Test.YtmmgoghiiionfaaGreatDoorC18
import Derived.Test.YtmmgoghiiionfaaGreatDoorC11
import Derived.Test.YtmmgoghiiionfaaGreatDoorC17
import Derived.Test.YtmmgoghiiionfaaGreatDoorC20
import Derived.Test.YtmmgoghiiionfaaGreatDoorC19
import Derived.Test.YtmmgoghiiionfaaGreatDoorC16
import Derived.Test.YtmmgoghiiionfaaGreatDoorC15
import Derived.Test.YtmmgoghiiionfaaGreatDoorC8
import Derived.Test.YtmmgoghiiionfaaGreatDoorC7
import Derived.Test.YtmmgoghiiionfaaGreatDoorC4
import Derived.Test.YtmmgoghiiionfaaGreatDoorC2
import Derived.Test.YtmmgoghiiionfaaGreatDoorC1
import Derived.Test.YtmmgoghiiionfaaGreatDoorC3
import Derived.Test.YtmmgoghiiionfaaGreatDoorC6
import Derived.Test.YtmmgoghiiionfaaGreatDoorC5
import Derived.Test.YtmmgoghiiionfaaGreatDoorC14
import Derived.Test.YtmmgoghiiionfaaGreatDoorC12
import Derived.Test.YtmmgoghiiionfaaGreatDoorC13
set_option linter.unusedVariables false
set_option linter.unusedSimpArgs false
namespace Run
open Go Go.RowKit bJ
theorem kS{c t:Bool}(h:bf c t false=true):c=true/\t=true:=by cases c <;> first | exact ⟨rfl,h⟩ | cases h
theorem Pq{k l:IntKind}(h:Nat.beq (lim k) (lim l)=true):k=l:=by
 have h:=ahm h
 cases k <;> cases l <;> first | rfl | (exfalso;simp [lim] at h)
theorem MG{M:Mp}{a b:C}{r r':Value}(h:zo a b=true)(h1:CR M a r)(h2:CR M b r'):r=r':=by
 unfold zo at h
 split at h
 ·obtain ⟨h3,h4⟩:=kS h
  obtain rfl:=Pq h3;obtain rfl:=ahm h4;exact h1.trans h2.symm
 ·obtain ⟨h3,h4⟩:=kS h
  obtain rfl:=Pq h3;obtain rfl:=ahm h4;exact h1.trans h2.symm
 ·obtain rfl:=eq_of_beq h
  exact h1.trans h2.symm
 ·obtain ⟨h3,h4⟩:=kS h
  obtain rfl:=ahm h3;obtain rfl:=ahm h4;obtain ⟨g,κ,e1,rfl⟩:=h1;obtain ⟨g',κ',e2,rfl⟩:=h2;rw [e1] at e2;cases e2;rfl
 ·obtain ⟨h3,h4⟩:=kS h
  obtain ⟨h4,h5⟩:=kS h4;obtain ⟨h5,h6⟩:=kS h5;obtain rfl:=ahm h3;obtain rfl:=ahm h4;obtain rfl:=ahm h5;obtain rfl:=ahm h6;obtain ⟨g,κ,e1,rfl⟩:=h1;obtain ⟨g',κ',e2,rfl⟩:=h2;rw [e1] at e2;cases e2;rfl
 ·obtain ⟨h3,h4⟩:=kS h
  obtain rfl:=ahm h3;obtain rfl:=ahm h4;exact h1.trans h2.symm
 ·cases h
theorem MH{M:Mp} : ∀ {a b:List C} {r r':List Value},E5 a b=true->LR (CR M) a r->LR (CR M) b r'->r=r'
 | [],[],_,_,_,.nil,.nil=>rfl
 | _::_,_::_,_,_,h,.cons h1 t1,.cons h2 t2=>by
  obtain ⟨h3,h4⟩:=kS h;rw [MG h3 h1 h2,MH h4 t1 t2]
section
variable {P:Program} {B N m:Nat} {M M':Mp} {w w':World} {w0:World×(Nat->Option VB)×World×List Deferred} {Gl:List VB} {call:eX} {a:Act} {s s':Z} {r:Out}
theorem QT(hr:At P Gl B N m w0 M s a w){bx q n:Nat}{c:C}{cs:List C}(h:uJ s.h bx q=some (c,n,cs)){g κ:Nat}(hM:M bx=some (g,κ))(hq:0<q) : ∃ A cap rcs,CR M c (.slice A n cap)/\LR (CR M) cs rcs/\jY g A n cap q rcs w /\ ∀ r,CR M c r->r = .slice A n cap:=by
 unfold uJ at h;replace h:=bC.1 h;obtain ⟨b,h1,h⟩:=h;replace h:=bC.1 h;obtain ⟨d,h2,h⟩:=h;rw [rE] at h2;obtain ⟨h3,h4⟩:=xM h1;obtain ⟨e,hb⟩:=hr.hp bx b h3;obtain ⟨g',κ',rs,ext,e1,_,e3,e4,_⟩:=hb h4;rw [e,hM] at e1;cases e1;obtain ⟨rv,h5,h6⟩:=e3.get h2
 have h5':(rs++ext).toArray[0]? = some rv:=by
  rw [aik,ah4 (ahy.1 h5).1];exact h5
 cases d with
 | slc g2 o k cp =>
  obtain ⟨eb,h7,h⟩:=bC.1 h;obtain ⟨l,h8,h⟩:=bC.1 h
  cases h;obtain ⟨gg,κg,k1,rfl⟩:=h6;obtain ⟨h9,h10⟩:=xM h7;obtain ⟨e',hb'⟩:=hr.hp _ eb h9;obtain ⟨g',κ',rs',ext',e1',_,e3',e4',_⟩:=hb' h10;rw [e',k1] at e1';cases e1';rw [lV] at h8;obtain ⟨rfl,h11⟩:=ni.1 h8;rw [ahI] at h11;have hl:=e3'.len;refine ⟨_,_,(rs'.drop o).take (n*q),⟨gg,κg,k1,rfl⟩,(e3'.drop o).take _,⟨⟨_,_,_,e4,h5'⟩,fun hn=>⟨gg,o,_,_,_,rfl,e4',?_,?_⟩⟩,?_⟩
  ·have:=ah8 hn hq;simp;omega
  ·have:=ah8 hn hq
   show ((rs'++ext').drop o).take (n*q)=_;exact part_eq af
  ·rintro r ⟨g',κ',e1,rfl⟩
   rw [k1] at e1;cases e1;rfl
 | bU v hv =>
  split at h
  ·rename_i e;cases e
  ·cases h
   rename_i cap _ e
   cases e;obtain rfl:rv=_:=h6;exact ⟨_,_,[],rfl,.nil,⟨⟨_,_,_,e4,h5'⟩,fun hn=>absurd hn (aia 0)⟩,fun r hr=>hr⟩
  ·cases h
 | _=>cases h
theorem adk(hr:At P Gl B N m w0 M s a w){bx q n:Nat}{c:C}{cs:List C}(h:same s.h bx q c cs=true){g κ:Nat}(hM:M bx=some (g,κ))(hq:0<q){A:Option Addr}{cap:Nat}{rcs:List Value}(h1:CR M c (.slice A n cap))(h2:LR (CR M) cs rcs):jY g A n cap q rcs w:=by
 unfold same at h
 split at h
 ·rename_i d n' ds hd
  obtain ⟨h3,h4⟩:=kS h;obtain ⟨A',cap',afL,k1,k2,k3,_⟩:=QT hr hd hM hq;have e1:=MG h3 h1 k1;have e2:=MH h4 h2 k2
  cases e1;subst e2;exact k3
 ·cases h
def Rnd(P:Program)(Gl:List VB)(B N m:Nat)(zAs b:Code)(p0 p1 q:Nat)(cs:List C)(T:Tm)(i:Nat)(s s':Z):Prop := ∃ v s2 s3,jm q (jr (Nat.mul i q) cs)=some v/\(∀ l,ja P Gl B N m false (fun Q a w=>zAs.wpIn (Fr (some l)) 0 P Q a w) ⟨.cons p1 (.agg v) (.cons p0 (.one (.nat .i64 i)) T),s.h,s.n,s.W⟩ .normal s2) /\
 (∀ l,ja P Gl B N m false (fun Q a w=>b.wpIn (Fr (some l)) 0 P Q a w) s2 .normal s3)/\s'=⟨T,s3.h,s3.n,s3.W⟩
abbrev KF(P:Program)(Gl:List VB)(B N m:Nat)(f:ED)(c:Code):Prop := ∀ (s:Z) (K:KC) (r:Out),f s.T s.h s.n s.W K=some r->HL s.h s.n->nm<=s.n->m<=s.n->sK P Gl B N m false (fun r_ Q a w=>c.wpIn (Fr r_) 0 P Q a w) s K r
theorem Lc{f k:ED}{zAs b:Code}(hf:KF P Gl B N m f zAs)(hk:KF P Gl B N m k b){T:Tm}{p0 p1 bx q:Nat}{c:C}{cs:List C}{K:KC} : ∀ (i:Nat) (h:List VB) (n:Nat) (W:List Nat),back f k T p0 p1 bx q c cs K i h n W=some r->HL h n->nm<=n->m<=n ->
  ∃ S:Nat->Z,S 0=⟨T,h,n,W⟩/\(∀ j,j<=i->same (S j).h bx q c cs=true/\(S j).T=T/\HL (S j).h (S j).n)/\(∀ j,j<i->Rnd P Gl B N m zAs b p0 p1 q cs T (i-1-j) (S j) (S (j+1))/\(S j).n<=(S (j+1)).n)/\K .normal T (S i).h (S i).n (S i).W=some r
 | 0,h,n,W,hv,hl,hn,hm=>by
  obtain ⟨h1,h2⟩:=bZ.1 (show bf (same h bx q c cs) (K .normal T h n W) none=some r from hv);refine ⟨fun _=>⟨T,h,n,W⟩,rfl,fun j _=>⟨h1,rfl,hl⟩,fun j hj=>absurd hj (ah2 _),h2⟩
 | i+1,h,n,W,hv,hl,hn,hm=>by
  obtain ⟨h1,h2⟩:=bZ.1 (show bf (same h bx q c cs) (ob (jm q (jr (Nat.mul i q) cs)) fun v=>fN i fun j=>f (.cons p1 (.agg v) (.cons p0 (.one (.nat .i64 j)) T)) h n W fun ex T2 h2 n2 W2 =>
   Ex.rec (k T2 h2 n2 W2 fun ex _ h3 n3 W3=>Ex.rec (back f k T p0 p1 bx q c cs K i h3 n3 W3) (fun _=>none) none ex) (fun _=>none) none ex) none=some r from hv)
  obtain ⟨v,h3,h4⟩:=bC.1 h2;rw [jF] at h4;obtain ⟨ex,s2,h5,h6⟩:=hf ⟨.cons p1 (.agg v) (.cons p0 (.one (.nat .i64 i)) T),h,n,W⟩ _ _ h4 hl hn hm
  cases ex with
  | exit i=>cases h5
  | ret=>cases h5
  | normal =>
   have g6:=h6 (some 0) (fun e=>by cases e);obtain ⟨ex,s3,h7,h8⟩:=hk s2 _ _ h5 g6.2.1 (ahk hn g6.1) (ahk hm g6.1)
   cases ex with
   | exit i=>cases h7
   | ret=>cases h7
   | normal =>
    have g8:=h8 (some 0) (fun e=>by cases e);have hle:n<=s3.n:=ahk g6.1 g8.1;obtain ⟨S,e0,k1,k2,k3⟩:=Lc hf hk i s3.h s3.n s3.W h7 g8.2.1 (ahk hn hle) (ahk hm hle);refine ⟨fun j=>match j with | 0=>⟨T,h,n,W⟩ | j+1=>S j,rfl,fun j hj => ?_,fun j hj => ?_,k3⟩
    ·cases j with
     | zero=>exact ⟨h1,rfl,hl⟩
     | succ j=>exact k1 j af
    ·cases j with
     | zero =>
      refine ⟨⟨v,s2,s3,h3,fun l=>h6 (some l) (fun e=>by cases e),fun l=>h8 (some l) (fun e=>by cases e),e0⟩,?_⟩;show n<=(S 0).n;rw [e0];exact hle
     | succ j =>
      have:=k2 j af;rw [show i+1-1-(j+1)=i-1-j by omega];exact this
theorem Turned.rfl'(B:Nat)(w:World):Turned B w w:=⟨Below.refl _ _,fun _ _ _ _ h=>h⟩
theorem Px{t k:Nat}{v:V}{T:Tm} : dP (.cons k v T) t=if k=t then some v else dP T t:=by
 have:=oz (d:=some k) (v:=v) (T:=T) (t:=t);rw [show fA (some k) v T = .cons k v T from rfl] at this;rw [this]
 by_cases e:k=t
 ·rw [if_pos e,if_pos (by rw [e])]
 ·rw [if_neg e,if_neg (fun h=>e (Option.some.inj h))]
theorem abA{g:Operand}{ps:Array Tmp}{p0 p1:Nat}{zAs b:Code}{gf bx q n:Nat}{c:C}{cs:List C}{S:Nat->Z}(eg : ∀ args w,(callFunc gf args).run P w = .ok (.enter gf args) w)(hseq : ∀ bx A c cs,qL P gf #[.pointer (some ⟨bx,0,none⟩)] (lS n q cs) (jY bx A n c q cs) n)(hq:0<q)(hps:ps.toList=[p0,p1])(hp0:p0<N)(hp1:p1<N)(hne:p0≠p1)(hev:ev s.T g=some (.one (.clo gf bx)))(hrd:uJ s.h bx q=some (c,n,cs))(e0:S 0=s)(k1 : ∀ j,j<=n->same (S j).h bx q c cs=true/\(S j).T=s.T/\HL (S j).h (S j).n)(k2 : ∀ j,j<n->Rnd P Gl B N m zAs b p0 p1 q cs s.T (n-1-j) (S j) (S (j+1))/\(S j).n<=(S (j+1)).n) :
  ja P Gl B N m true (fun Q a w=>(Code.rangeFunc g ps zAs b).wpIn (Fr none) 0 P Q a w) s .normal (S n):=by
 have mono : ∀ {j k:Nat},j<=k->k<=n->(S j).n<=(S k).n:=fun {j k} hjk hk=>by
  induction k with
  | zero =>
       obtain rfl:j=0:=af;exact ahj _
  | succ k ih =>
   by_cases e:j=k+1
   ·rw [e];exact ahj _
   ·exact ahk (ih af af) (k2 k af).2
 have hn0:s.n<=(S n).n:=by rw [<- e0];exact mono (ahl _) (ahj _)
 refine ⟨hn0,(k1 n (ahj _)).2.2,fun w0 M a w hr hfr Q hQ => ?_⟩;have Zj:VR M (.one (.clo gf bx)) (a.eval g):=Fb hr.gm hev fun t u _ hu=>hr.tm t u hu;obtain ⟨g0,κ0,hM0,hag⟩:=Zj;obtain ⟨A,cap,rcs,hc1,hc2,Om,_⟩:=QT hr hrd hM0 hq
 have hle : ∀ {j:Nat} {M':Mp},j<=(S n).n->(∀ i,¬ (s.n<=i/\i<j)->M' i=M i)->M.le M':=fun {j M'} hj he i p hp=>by
  by_cases h:s.n<=i/\i<j
  ·rw [hfr i h.1 af] at hp;cases hp
  ·rw [he i h];exact hp
 have hdf : ∀ {W:World},KeepsOthers w W->a.defers=w0.2.2.2/\Df w0.1.heap.size w0.2.2.2 W:=fun h=>⟨hr.df.1,hr.df.2.same h.same⟩
 have hturn : ∀ {W W':World} {row:Option Nat},KeepsOthers w W->W.grownBy W' row->(∀ r,row=some r->w.heap.size<=r /\ ∃ o:Obj,W.heap[r]? = some o/\o.isCells=false)->Turned w0.1.heap.size W W'/\KeepsOthers w W':=fun {W W' row} h hg hrow=>by
  have h1:w0.1.heap.size<=w.heap.size:=hr.bel.size;refine ⟨.grown hg (ahk h1 h.size) fun r e=>⟨ahk h1 (hrow r e).1,(hrow r e).2⟩,ahk h.size hg.size,fun k o hk ho => ?_⟩;have hlt:=(ahD.1 hk).1;refine (hg.block k (ahr hlt h.size) fun e => ?_).trans (h.same k o hk ho);have:=(hrow k e.symm).1;omega
 refine TP (encs:=lS n q rcs) (Rd:=jY g0 A n cap q rcs) (M:=n) hag eg (hseq g0 A cap rcs) (fun k=>by show 2=_;rw [<- aiy,hps];rfl)
  (fun k W=>k<=n/\KeepsOthers w W /\ ∃ Mk:Mp,(∀ i,¬ (s.n<=i/\i<(S k).n)->Mk i=M i)/\At P Gl B N m (w0.1,w0.2.1,W,w0.2.2.2) Mk (S k) a W) ?_ ?_ ?_
  (fun k a' W=>k<n/\KeepsOthers w W /\ ∃ (s2 s3:Z) (Mk:Mp),s.n<=s2.n/\s2.n<=s3.n/\(∀ l,ja P Gl B N m false (fun Q a w=>b.wpIn (Fr (some l)) 0 P Q a w) s2 .normal s3)/\S (k+1)=⟨s.T,s3.h,s3.n,s3.W⟩/\(∀ i,¬ (s.n<=i/\i<s2.n)->Mk i=M i)/\At P Gl B N m (w0.1,w0.2.1,W,[]) Mk s2 a' W) ?_ ?_ ?_ ?_
 ·rintro k W W' row ⟨hk,ho,Mk,h1,h2⟩ hg hrow
  obtain ⟨ht,ho'⟩:=hturn ho hg hrow;exact ⟨hk,ho',Mk,h1,h2.turn ht a W' (hdf ho') h2.sz h2.tm (KeepsOthers.refl _)⟩
 ·rintro k W ⟨hk,ho,Mk,h1,h2⟩
  have hl:=hle (mono hk (ahj _)) h1;exact adk h2 (k1 k hk).1 (hl _ _ hM0) hq (hc1.mono hl) (hc2.mono fun _ _=>CR.mono hl)
 ·refine ⟨ahl _,KeepsOthers.refl _,M,fun _ _=>rfl,?_⟩
  rw [e0];exact hr.turn (Turned.rfl' _ _) a w hr.df hr.sz hr.tm (KeepsOthers.refl _)
 ·rintro k a' _ W W' row ⟨hk,ho,s2,s3,Mk,h1,h2,h3,h4,h5,h6⟩ hg hrow
  obtain ⟨ht,ho'⟩:=hturn ho hg hrow;exact ⟨hk,ho',s2,s3,Mk,h1,h2,h3,h4,h5,h6.turn ht a' W' ⟨h6.df.1,.nil⟩ h6.sz h6.tm (KeepsOthers.refl _)⟩
 ·rintro l k W hk ⟨_,ho,Mk,h1,h2⟩
  obtain ⟨⟨v,s2,s3,h3,h4,h5,h6⟩,_⟩:=k2 k hk;obtain ⟨h7,h8,h9⟩:=h4 l;have hkn:s.n<=(S k).n:=by rw [<- e0];exact mono (ahl _) af
  have Yw:=(h5 0).1
  have Yx:s3.n<=(S n).n:=by
   have:(S (k+1)).n=s3.n:=by rw [h6]
   rw [<- this];exact mono af (ahj _)
  have hl:=hle (ahk (mono af (ahj n)) (ahj _)) h1;rw [lV] at h3;obtain ⟨rfl,h3l⟩:=ni.1 h3;have hpart:LR (CR Mk) ((cs.drop (Nat.mul (n-1-k) q)).take q) ((rcs.drop ((n-1-k)*q)).take q):=((hc2.mono fun _ _=>CR.mono hl).drop _).take _;have h7':(S k).n<=s2.n:=h7;refine h9 (w0.1,w0.2.1,W,[]) Mk _ W (h2.turn (Turned.rfl' _ _) _ W ⟨rfl,.nil⟩ ?_ ?_ (KeepsOthers.refl _)) (fun i hi hi' => ?_) _ ?_
  ·show ((ps.toList.zip (lS n q rcs k)).foldl (fun t (p,v)=>t.setIfInBounds p v) a.tmps).size=N
   rw [hps];show ((a.tmps.setIfInBounds p0 _).setIfInBounds p1 _).size=N;simp [h2.sz]
  ·intro t u hu
   rw [show (Z.mk (.cons p1 (.agg ((cs.drop (Nat.mul (n-1-k) q)).take q)) (.cons p0 (.one (.nat .i64 (n-1-k))) s.T)) (S k).h (S k).n (S k).W).T = .cons p1 (.agg ((cs.drop (Nat.mul (n-1-k) q)).take q)) (.cons p0 (.one (.nat .i64 (n-1-k))) s.T) from rfl,Px,Px] at hu;show VR Mk u (((ps.toList.zip (lS n q rcs k)).foldl (fun t (p,v)=>t.setIfInBounds p v) a.tmps).getD t undef);rw [hps];show VR Mk u (((a.tmps.setIfInBounds p0 (.int .i64 ((n-1-k:Nat):Int))).setIfInBounds p1 (.agg ((rcs.drop ((n-1-k)*q)).take q).toArray)).getD t undef);have hsz:=h2.sz
   by_cases e1:p1=t
   ·subst e1
    rw [if_pos rfl] at hu
    cases hu;rw [show ((a.tmps.setIfInBounds p0 (.int .i64 ((n-1-k:Nat):Int))).setIfInBounds p1 (.agg ((rcs.drop ((n-1-k)*q)).take q).toArray)).getD p1 undef = .agg ((rcs.drop ((n-1-k)*q)).take q).toArray by simp [hsz,hp1]];exact ⟨_,hpart,rfl⟩
   ·rw [if_neg e1] at hu
    by_cases e2:p0=t
    ·subst e2
     rw [if_pos rfl] at hu
     cases hu;rw [show ((a.tmps.setIfInBounds p0 (.int .i64 ((n-1-k:Nat):Int))).setIfInBounds p1 (.agg ((rcs.drop ((n-1-k)*q)).take q).toArray)).getD p0 undef = .int .i64 ((n-1-k:Nat):Int) by simp [hsz,hp0,Array.getElem_setIfInBounds,Ne.symm hne]];exact rfl
    ·rw [if_neg e2] at hu
     rw [show ((a.tmps.setIfInBounds p0 (.int .i64 ((n-1-k:Nat):Int))).setIfInBounds p1 (.agg ((rcs.drop ((n-1-k)*q)).take q).toArray)).getD t undef=a.tmps.getD t undef by simp [ajc e1,ajc e2]];exact h2.tm t u (by rw [(k1 k af).2.1];exact hu)
  ·have hi:(S k).n<=i:=hi
   rw [h1 i af];exact hfr i af af
  ·intro M' a' w' ds hds uf hat
   obtain rfl:ds=[]:=hds rfl;refine ⟨⟨hat.bU.size,fun k o _ hk ho=>hat.bU.same k o hk ho⟩,hk,ho.trans hat.bU,s2,s3,M',af,Yw,h5,h6,fun i hi => ?_,hat.turn (Turned.rfl' _ _) a' w' hat.df hat.sz hat.tm (KeepsOthers.refl _)⟩;rw [uf i (by show ¬ ((S k).n<=i/\_);omega)];exact h1 i af
 ·rintro l k a' W hk ⟨_,ho,s2,s3,Mk,h1,h2,h3,h4,h5,h6⟩
  obtain ⟨h7,h8,h9⟩:=h3 l
  have Yx:s3.n<=(S n).n:=by
   have:(S (k+1)).n=s3.n:=by rw [h4]
   rw [<- this];exact mono af (ahj _)
  refine h9 (w0.1,w0.2.1,W,[]) Mk a' W h6 (fun i hi hi' => ?_) _ ?_
  ·rw [h5 i af];exact hfr i af af
  ·intro M' a'' w' ds hds uf hat
   have he : ∀ i,¬ (s.n<=i/\i<(S (k+1)).n)->M' i=M i:=fun i hi=>by
    rw [h4] at hi;have hi:¬ (s.n<=i/\i<s3.n):=hi;rw [uf i af];exact h5 i af
   have hl:=hle (mono (show k+1<=n from af) (ahj n)) he;refine ⟨⟨hat.bU.size,fun k o _ hk ho=>hat.bU.same k o hk ho⟩,af,ho.trans hat.bU,M',he,?_⟩;rw [h4];exact hat.turn (Turned.rfl' _ _) a w' (hdf (ho.trans hat.bU)) hr.sz (fun t v hv=>(hr.tm t v hv).mono hl) (KeepsOthers.refl _)
 ·rintro D W hD ⟨_,ho,Mk,h1,h2⟩ Y0
  refine hQ Mk _ W (nH D::w0.2.2.2) (fun e=>by cases e) h1 (h2.turn (Turned.rfl' _ _) _ w0.2.2.1 ⟨congrArg _ hr.df.1,?_⟩ h2.sz h2.tm (hr.bU.trans ho));obtain ⟨l,e1,e2,e3⟩:=hr.df.2;refine ⟨D::l,by rw [e1];rfl,List.nodup_cons.2 ⟨fun hm => ?_,e2⟩,fun D' hD' => ?_⟩
  ·have:=(ahD.1 (e3 D hm).2).1
   omega
  ·rcases List.mem_cons.1 hD' with rfl | h
   ·exact ⟨ahk hr.bel.size hD,Y0⟩
   ·exact ⟨(e3 D' h).1,ho.same _ _ (e3 D' h).2 rfl⟩
end
end Run
namespace Run
open Go Go.RowKit bJ
section
variable {P:Program} {B N m:Nat} {M M':Mp} {w w':World} {w0:World×(Nat->Option VB)×World×List Deferred} {Gl:List VB} {call:eX} {a:Act} {s s':Z} {r:Out} {bk:Nat->Option Nat}
def yG(P:Program)(bk:Nat->Option Nat):Prop := ∀ gf q,bk gf=some q->0<q/\(∀ args w,(callFunc gf args).run P w = .ok (.enter gf args) w) /\ ∀ n,n<1000000000 -> ∀ bx A c cs,qL P gf #[.pointer (some ⟨bx,0,none⟩)] (lS n q cs) (jY bx A n c q cs) n
theorem nO(hm:P.follows .mixedOrders=true)(hc:lK P Gl B call)(hbk:yG P bk) : ∀ (c:Code) (d:Bool) (s:Z) (K:KC) (r:Out),(cC P Gl bk N d c).f call m s.T s.h s.n s.W K=some r->HL s.h s.n->nm<=s.n->m<=s.n->sK P Gl B N m d (fun r_ Q a w=>c.wpIn (Fr r_) 0 P Q a w) s K r
 | .skip,d,s,K,r,hv,hl,_,_=>⟨.normal,s,hv,fun _ _ => .stay hl fun _ _ _ h=>wpIn_skip h⟩
 | .seq x y,d,s,K,r,hv,hl,hn,hmn=>by
  have hv:(cC P Gl bk N d x).f call m s.T s.h s.n s.W (fun ex T h n W=>Ex.rec ((cC P Gl bk N d y).f call m T h n W K) (fun i=>K (.exit i) T h n W) (K .ret T h n W) ex)=some r:=hv;obtain ⟨ex,s1,h1,h2⟩:=nO hm hc hbk x d s _ r hv hl hn hmn;have g2:=h2 none (fun _=>rfl)
  cases ex with
  | normal =>
   obtain ⟨ex,s2,h3,h4⟩:=nO hm hc hbk y d s1 K r h1 g2.2.1 (ahk hn g2.1) (ahk hmn g2.1);exact ⟨ex,s2,h3,fun r_ hd=>(h2 r_ hd).next (h4 r_ hd) fun Q a w h=>wpIn_seq h⟩
  | exit i=>exact ⟨.exit i,s1,h1,fun r_ hd=>(h2 r_ hd).pass fun Q=>⟨_,fun a w h=>(show Exit.then (y.wpIn (Fr r_) 0 P Q) Q (.exit i) a w from h),fun a w h=>wpIn_seq h⟩⟩
  | ret=>exact ⟨.ret,s1,h1,fun r_ hd=>(h2 r_ hd).pass fun Q=>⟨_,fun a w h=>(show Exit.then (y.wpIn (Fr r_) 0 P Q) Q .ret a w from h),fun a w h=>wpIn_seq h⟩⟩
 | .cond x y z,d,s,K,r,hv,hl,hn,hmn=>by
  have hv:ob (ev s.T x) (fun c=>oD c fun c=>bf c ((cC P Gl bk N d y).f call m s.T s.h s.n s.W K) ((cC P Gl bk N d z).f call m s.T s.h s.n s.W K))=some r:=hv;obtain ⟨c,h1,hv⟩:=bC.1 hv
  obtain ⟨b,rfl,hv⟩ : ∃ b,c = .one (.bool b)/\bf b ((cC P Gl bk N d y).f call m s.T s.h s.n s.W K) ((cC P Gl bk N d z).f call m s.T s.h s.n s.W K)=some r:=by
   unfold oD at hv
   split at hv
   ·exact ⟨_,rfl,hv⟩
   ·cases hv
  have hx : ∀ {w0 M a w},At P Gl B N m w0 M s a w->a.eval x = .bool b:=fun hr=>Fb hr.gm h1 fun t u _ hu=>hr.tm t u hu;rcases dH.1 hv with ⟨rfl,hv⟩ | ⟨rfl,hv⟩
  ·obtain ⟨ex,s1,h2,h3⟩:=nO hm hc hbk y d s K r hv hl hn hmn
   exact ⟨ex,s1,h2,fun r_ hd=>⟨(h3 r_ hd).1,(h3 r_ hd).2.1,fun w0 M a w hr hfr Q hQ=>wpIn_cond_true (hx hr) ((h3 r_ hd).2.2 w0 M a w hr hfr Q hQ)⟩⟩
  ·obtain ⟨ex,s1,h2,h3⟩:=nO hm hc hbk z d s K r hv hl hn hmn
   exact ⟨ex,s1,h2,fun r_ hd=>⟨(h3 r_ hd).1,(h3 r_ hd).2.1,fun w0 M a w hr hfr Q hQ=>wpIn_cond_false (hx hr) ((h3 r_ hd).2.2 w0 M a w hr hfr Q hQ)⟩⟩
 | .block id b,d,s,K,r,hv,hl,hn,hmn=>by
  have hv:(cC P Gl bk N d b).f call m s.T s.h s.n s.W (fun ex T h n W=>Ex.rec (K .normal T h n W) (fun i=>bf (Nat.beq i id) (K .normal T h n W) (K (.exit i) T h n W)) (K .ret T h n W) ex)=some r:=hv;obtain ⟨ex,s1,h1,h2⟩:=nO hm hc hbk b d s _ r hv hl hn hmn
  cases ex with
  | normal=>exact ⟨.normal,s1,h1,fun r_ hd=>(h2 r_ hd).pass fun Q=>⟨_,fun a w h=>(show Exit.inBlock id Q .normal a w from h),fun a w h=>wpIn_block h⟩⟩
  | exit i =>
   rcases dH.1 (show bf (Nat.beq i id) (K .normal s1.T s1.h s1.n s1.W) (K (.exit i) s1.T s1.h s1.n s1.W)=some r from h1) with ⟨h3,h5⟩ | ⟨h3,h5⟩
   ·obtain rfl:=ahm h3
    exact ⟨.normal,s1,h5,fun r_ hd=>(h2 r_ hd).pass fun Q=>⟨Exit.inBlock i Q,fun a w h=>(by show (if i=i then Q .normal a w else Q (.exit i) a w);rw [if_pos rfl];exact h),fun a w h=>wpIn_block h⟩⟩
   ·have h3:=ah' h3
    exact ⟨.exit i,s1,h5,fun r_ hd=>(h2 r_ hd).pass fun Q=>⟨Exit.inBlock id Q,fun a w h=>(by show (if i=id then Q .normal a w else Q (.exit i) a w);rw [if_neg h3];exact h),fun a w h=>wpIn_block h⟩⟩
  | ret=>exact ⟨.ret,s1,h1,fun r_ hd=>(h2 r_ hd).pass fun Q=>⟨_,fun a w h=>(show Exit.inBlock id Q .ret a w from h),fun a w h=>wpIn_block h⟩⟩
 | .loop b,d,s,K,r,hv,hl,hn,hmn=>by
  have key : ∀ (k:Nat) (s:Z),rounds ((cC P Gl bk N d b).f call m) K k s.T s.h s.n s.W=some r->HL s.h s.n->nm<=s.n->m<=s.n->sK P Gl B N m d (fun r_ Q a w=>Code.roundsIn (Fr r_) 0 P b Q k a w) s K r:=fun k=>by
   induction k with
   | zero=>intro s hv;cases hv
   | succ k ih =>
    intro s hv hl hn hmn;have hv:(cC P Gl bk N d b).f call m (bf (Nat.beq (Nat.mod k 4) 0) (prune s.T 0) s.T) s.h s.n s.W (fun ex T h n W=>Ex.rec (rounds ((cC P Gl bk N d b).f call m) K k T h n W) (fun i=>K (.exit i) T h n W) (K .ret T h n W) ex)=some r:=hv;obtain ⟨ex,s1,h1,h2⟩:=nO hm hc hbk b d ⟨bf (Nat.beq (Nat.mod k 4) 0) (prune s.T 0) s.T,s.h,s.n,s.W⟩ _ r hv hl hn hmn
    have hg : ∀ r_,(d=true->r_=none)->ja P Gl B N m d (fun Q a w=>b.wpIn (Fr r_) 0 P Q a w) s ex s1:=fun r_ hd=>⟨(h2 r_ hd).1,(h2 r_ hd).2.1,fun w0 M a w hr hfr Q hQ=>(h2 r_ hd).2.2 w0 M a w (hr.less fun t v hv=>by
     cases hb:Nat.beq (Nat.mod k 4) 0 with
     | true=>rw [hb] at hv;exact aa6 hv
     | false=>rw [hb] at hv;exact hv) hfr Q hQ⟩
    have g2:=hg none (fun _=>rfl)
    cases ex with
    | normal =>
     obtain ⟨ex,s2,h5,h6⟩:=ih s1 h1 g2.2.1 (ahk hn g2.1) (ahk hmn g2.1);exact ⟨ex,s2,h5,fun r_ hd=>(hg r_ hd).next (h6 r_ hd) fun Q a w h=>h⟩
    | exit i=>exact ⟨.exit i,s1,h1,fun r_ hd=>(hg r_ hd).pass fun Q=>⟨_,fun a w h=>(show Exit.then (Code.roundsIn (Fr r_) 0 P b Q k) Q (.exit i) a w from h),fun a w h=>h⟩⟩
    | ret=>exact ⟨.ret,s1,h1,fun r_ hd=>(hg r_ hd).pass fun Q=>⟨_,fun a w h=>(show Exit.then (Code.roundsIn (Fr r_) 0 P b Q k) Q .ret a w from h),fun a w h=>h⟩⟩
  obtain ⟨ex,s1,h1,h2⟩:=key 100000 s hv hl hn hmn;exact ⟨ex,s1,h1,fun r_ hd=>⟨(h2 r_ hd).1,(h2 r_ hd).2.1,fun w0 M a w hr hfr Q hQ=>wpIn_loop_rounds 100000 ((h2 r_ hd).2.2 w0 M a w hr hfr Q hQ)⟩⟩
 | .exit id,d,s,K,r,hv,hl,_,_=>⟨.exit id,s,hv,fun _ _ => .stay hl fun _ _ _ h=>wpIn_exit h⟩
 | .ret,d,s,K,r,hv,hl,_,_=>⟨.ret,s,hv,fun _ _ => .stay hl fun _ _ _ h=>wpIn_ret h⟩
 | .region id ops dr,d,s,K,r,hv,hl,hn,hmn=>by
  obtain ⟨h1,h2⟩:(dr=true->oH ops 0 ops.toList=true)/\(iR P Gl N ops dr ops.toList 0).f call m [] s.T s.h s.n s.W (K .normal)=some r:=by
   have hv:(bf (bf dr (oH ops 0 ops.toList) true) (CC.mk fun call m T h n W K=>(iR P Gl N ops dr ops.toList 0).f call m [] T h n W (K .normal)) ⟨fun _ _ _ _ _ _ _=>none⟩).f call m s.T s.h s.n s.W K=some r:=hv
   cases hb:bf dr (oH ops 0 ops.toList) true with
   | true =>
    rw [hb] at hv;refine ⟨fun e => ?_,hv⟩;subst e;exact hb
   | false=>rw [hb] at hv;cases hv
  exact ab8 hm hc hl hn hmn h1 h2
 | .rangeFunc g ps zAs b,d,s,K,r,hv,hl,hn,hmn=>by
  have hf : ∀ s K r,(cC P Gl bk N false zAs).f call m s.T s.h s.n s.W K=some r->HL s.h s.n->nm<=s.n->m<=s.n->sK P Gl B N m false (fun r_ Q a w=>zAs.wpIn (Fr r_) 0 P Q a w) s K r:=fun s K r=>nO hm hc hbk zAs false s K r;have hk : ∀ s K r,(cC P Gl bk N false b).f call m s.T s.h s.n s.W K=some r->HL s.h s.n->nm<=s.n->m<=s.n->sK P Gl B N m false (fun r_ Q a w=>b.wpIn (Fr r_) 0 P Q a w) s K r:=fun s K r=>nO hm hc hbk b false s K r
  have hv:(match cC P Gl bk N false zAs,cC P Gl bk N false b,ps.toList with
   | ⟨f⟩,⟨k⟩,[p0,p1]=>CC.mk fun call m T h n W K=>bf d (ob (ev T g) fun v=>match v with
    | .one (.clo gf bx)=>ob (bk gf) fun q=>ob (uJ h bx q) fun x=>bf (bf (Nat.blt p0 N) (bf (Nat.blt p1 N) (bf (Nat.beq p0 p1) false (Nat.blt x.2.1 1000000)) false) false) (back (f call m) (k call m) T p0 p1 bx q x.1 x.2.2 K x.2.1 h n W) none
    | _=>none) none
   | _,_,_=>⟨fun _ _ _ _ _ _ _=>none⟩).f call m s.T s.h s.n s.W K=some r:=hv
  split at hv
  ·rename_i f k p0 p1 e1 e2 e3
   rw [e1] at hf;rw [e2] at hk;obtain ⟨rfl,hv⟩:=bZ.1 hv;obtain ⟨v,h1,hv⟩:=bC.1 hv
   split at hv
   ·rename_i gf bx
    obtain ⟨q,h2,hv⟩:=bC.1 hv;obtain ⟨⟨c,n,cs⟩,h3,hv⟩:=bC.1 hv;obtain ⟨h4,hv⟩:=bZ.1 hv;obtain ⟨h5,h4⟩:=kS h4;obtain ⟨h6,h4⟩:=kS h4
    have h7:Nat.beq p0 p1=false/\Nat.blt n 1000000=true:=by
     cases hb:Nat.beq p0 p1 with
     | true=>rw [hb] at h4;cases h4
     | false=>rw [hb] at h4;exact ⟨rfl,h4⟩
    obtain ⟨hq,eg,hseq⟩:=hbk gf q h2;obtain ⟨S,e0,k1,k2,k3⟩:=Lc hf hk n s.h s.n s.W hv hl hn hmn;have h8:n<1000000:=by have:=h7.2;simpa using this
    refine ⟨.normal,S n,by rw [(k1 n (ahj _)).2.1];exact k3,fun r_ hd => ?_⟩;obtain rfl:=hd rfl;exact abA eg (hseq n af) hq e3 (by simpa using h5) (by simpa using h6) (ah' h7.1) h1 h3 e0 k1 k2
   ·cases hv
  ·cases hv
 | .scope _,d,s,K,r,hv,_,_,_=>by cases hv
 | .label _,d,s,K,r,hv,_,_,_=>by cases hv
 | .goto _,d,s,K,r,hv,_,_,_=>by cases hv
 | .refuse _,d,s,K,r,hv,_,_,_=>by cases hv
end
end Run
namespace Run
open Go Go.RowKit bJ
theorem yc{h:List VB} : ∀ {f:Nat} {todo:List Nat} {acc:List VB},∀ b∈reach h f todo acc,b∈acc\/get h b.id=some b
 | 0,_,_,b,hb => .inl hb
 | _+1,[],_,b,hb => .inl hb
 | f+1,i::todo,acc,b,hb=>by
  unfold reach at hb
  split at hb
  ·exact yc b hb
  ·split at hb
   ·rename_i c hc
    rcases yc b hb with h1 | h1
    ·rcases List.mem_cons.1 h1 with rfl | h1
     ·exact .inr (by rw [(je hc).1];exact hc)
     ·exact .inl h1
    ·exact .inr h1
   ·exact yc b hb
theorem G6{m i:Nat}{b:VB} : ∀ {h:List VB},get (mM m h) i=some b->¬ i<m/\get h i=some b
 | [],hg=>by cases hg
 | c::h,hg=>by
  have hn:mM m (c::h)=bf (Nat.blt c.id m) (mM m h) (c::mM m h):=rfl;have hc:get (c::h) i=bf (Nat.beq c.id i) (some c) (get h i):=rfl;rw [hn] at hg;rw [hc]
  cases hb:Nat.blt c.id m with
  | true =>
   rw [hb] at hg;obtain ⟨h1,h2⟩:=G6 (h:=h) hg;refine ⟨h1,?_⟩
   cases he:Nat.beq c.id i with
   | true =>
    have:c.id<m:=by simpa using hb
    rw [ahm he] at this;exact absurd this h1
   | false=>exact h2
  | false =>
   rw [hb] at hg;have hg:bf (Nat.beq c.id i) (some c) (get (mM m h) i)=some b:=hg
   cases he:Nat.beq c.id i with
   | true =>
    rw [he] at hg;refine ⟨fun hlt => ?_,hg⟩;rw [<- ahm he] at hlt;rw [show Nat.blt c.id m=true by simpa using hlt] at hb;cases hb
   | false=>rw [he] at hg;exact G6 (h:=h) hg
theorem zG{h:List VB}{b:VB} : ∀ {l:List Nat},b∈gets h l ↔ ∃ i∈l,get h i=some b
 | []=>⟨fun h=>(by cases h),fun ⟨_,h,_⟩=>(by cases h)⟩
 | j::l=>by
  show b∈(Option.rec (gets h l) (fun b=>b::gets h l) (get h j):List VB)↔_;have ih:=zG (h:=h) (b:=b) (l:=l)
  cases hj:get h j with
  | none =>
   show b∈gets h l↔_;rw [ih];constructor
   ·rintro ⟨i,h1,h2⟩;exact ⟨i,.tail _ h1,h2⟩
   ·rintro ⟨i,h1,h2⟩
    rcases List.mem_cons.1 h1 with rfl | h1
    ·rw [hj] at h2;cases h2
    ·exact ⟨i,h1,h2⟩
  | some c =>
   show b∈c::gets h l↔_;rw [List.mem_cons,ih];constructor
   ·rintro (rfl | ⟨i,h1,h2⟩)
    ·exact ⟨j,ak,hj⟩
    ·exact ⟨i,.tail _ h1,h2⟩
   ·rintro ⟨i,h1,h2⟩
    rcases List.mem_cons.1 h1 with rfl | h1
    ·rw [hj] at h2;cases h2;exact .inl rfl
    ·exact .inr ⟨i,h1,h2⟩
section
variable {P:Program} {B N m:Nat} {M M':Mp} {w w':World} {w0:World×(Nat->Option VB)×World×List Deferred} {Gl:List VB} {call:eX} {a:Act} {s s':Z} {out:Out} {bk:Nat->Option Nat} {lb:Nat->Option (List V->List VB->Nat->Option Out)}
theorem Ip(hr:At P Gl B N m w0 M s a w) : ∀ {rs:List ResultVar} {l:List A},resV P s.T s.h rs=some l -> ∃ rl,LR (AR M) l rl/\(rs.mapM (jQ a)).run P w = .ok rl w
 | [],l,hv=>by cases hv;exact ⟨[],.nil,by simp⟩
 | .tmp t::rs,l,hv=>by
  unfold resV at hv;obtain ⟨v,h1,hv⟩:=bC.1 hv;obtain ⟨l',h2,hv⟩:=bC.1 hv;obtain ⟨rl,h3,h4⟩:=Ip hr h2;have h5:=hr.tm t v h1;have h6:(jQ a (.tmp t)).run P w = .ok (a.tmps.getD t undef) w:=rfl
  split at hv <;> cases hv
  ·exact ⟨_,.cons h5 h3,by simp [ai7,h6,h4]⟩
  ·exact ⟨_,.cons h5 h3,by simp [ai7,h6,h4]⟩
 | .cell p t::rs,l,hv=>by
  unfold resV at hv;obtain ⟨v,h1,hv⟩:=bC.1 hv;obtain ⟨i,o,g,κ,rfl,h2,h3,hv⟩:=oW hv (hr.tm p v h1);obtain ⟨b,h4,hv⟩:=bC.1 hv;obtain ⟨l',h5,hv⟩:=bC.1 hv;obtain ⟨rl,h6,h7⟩:=Ip hr h5;obtain ⟨h8,h9⟩:=xM h4;obtain ⟨e,hb⟩:=hr.hp i b h8;obtain ⟨g',κ',cs,ext,e1,_,e3,e4,_⟩:=hb h9;rw [e,h2] at e1
  cases e1;have hlen:=e3.len
  split at hv
  ·rename_i q hag hq
   obtain ⟨c,h10,hv⟩:=bC.1 hv
   cases hv;rw [lV] at h10;obtain ⟨rfl,h11⟩:=ni.1 h10;rw [ahI] at h11
   by_cases h0:q=0
   ·subst h0
    have hl0:=run_loadCells_list (P:=P) w ⟨g,o,none⟩ [] (fun j v hv=>by simp at hv)
    have h12:(jQ a (.cell p t)).run P w = .ok (.agg #[]) w:=by
     simp only [jQ,h3,asAddr,Sem.run_bind,Sem.run_pure,Result.andThen_ok];simp [loadVar,oV hag,jC hq] at hl0 ⊢;simp [hl0]
    exact ⟨_,.cons ⟨[],by simpa using LR.nil,rfl⟩ h6,by simp [ai7,h12,h7]⟩
   ·have h12:(jQ a (.cell p t)).run P w = .ok (.agg ((cs.drop o).take q).toArray) w:=by
     have:=IG (P:=P) (off:=o) (oV hag) (jC hq) e4 (by simp;omega);simp only [] at this;rw [part_eq af] at this;simp only [jQ,h3,asAddr,Sem.run_bind,Sem.run_pure,Result.andThen_ok,this]
    exact ⟨_,.cons ⟨_,(e3.drop o).take q,rfl⟩ h6,by simp [ai7,h12,h7]⟩
  ·rename_i hag
   obtain ⟨c,h10,hv⟩:=bC.1 hv
   cases hv;rw [rE] at h10;obtain ⟨r,h11,h12⟩:=e3.get h10;have hlt:=(ahy.1 h11).1
   have h13:(jQ a (.cell p t)).run P w = .ok r w:=by
    have:=II (P:=P) (off:=o) (oV hag) e4 (by rw [aik,ah4 hlt];exact h11);simp only [jQ,h3,asAddr,Sem.run_bind,Sem.run_pure,Result.andThen_ok,this]
   exact ⟨_,.cons h12 h6,by simp [ai7,h13,h7]⟩
  ·cases hv
theorem ab9(hr:At P Gl B N m w0 M s a w){fn:Func}{l:List A}(hv:resV P s.T s.h fn.results.toList=some l) : ∃ v,VR M (mV l) v/\(results fn a.tmps).run P w = .ok v w:=by
 obtain ⟨rl,h1,h2⟩:=Ip hr hv
 have h3:(results fn a.tmps).run P w = .ok (if h:rl.toArray.size=1 then rl.toArray[0] else .tuple rl.toArray) w:=by
  have:results fn a.tmps=(do let vs <- fn.results.mapM (jQ a);pure (if h:vs.size=1 then vs[0] else .tuple vs):Sem Value):=rfl;rw [this,Array.mapM_eq_mapM_toList];simp [h2]
 refine ⟨_,?_,h3⟩
 cases h1 with
 | nil=>exact ⟨[],.nil,rfl⟩
 | cons h t =>
  cases t with
  | nil =>
   rename_i x y
   cases x with
   | one c=>exact h
   | agg l=>exact h
  | cons h' t' =>
   rw [dif_neg (by simp)]
   rename_i x y _ _ _ _
   cases x <;> exact ⟨_,.cons h (.cons h' t'),rfl⟩
theorem Vx{vs:List V}{rs:List Value}(h:LR (VR M) vs rs) : ∀ {i t:Nat} {v:V},dP (nN i vs) t=some v -> ∃ r,i<=t/\rs[t-i]? = some r/\VR M v r:=by
 induction h with
 | nil=>intro i t v hv;cases hv
 | cons h1 _ ih =>
  intro i t v hv
  rename_i u r0 l r _
  replace hv:dP (fA (some i) u (nN (i+1) l)) t=some v:=hv;rw [oz] at hv
  by_cases e:some i=some t
  ·rw [if_pos e] at hv
   obtain rfl:=Option.some.inj e;obtain rfl:=Option.some.inj hv;exact ⟨r0,ahj _,by simp,h1⟩
  ·rw [if_neg e] at hv
   obtain ⟨r',h2,h3,h4⟩:=ih hv;refine ⟨r',af,?_,h4⟩;rw [show t-i=t-(i+1)+1 by omega];exact h3
theorem XU{wk:World}{ds:List Deferred}{rs:List ResultVar}{hr0 h:List VB}{n:Nat}(_hx:Cx P Gl B h M n out w)(hsub : ∀ b∈hr0,get h b.id=some b)(hf:fin P rs n hr0 s.T s.h s.n s.W=some out)(hle:n<=s.n)(hl:HL s.h s.n)(uf : ∀ i,¬ (n<=i/\i<s.n)->M' i=M i)(hr:At P Gl B N n (w,get hr0,wk,ds) M' s a w') :
  dm P B h M M' n out.n out.R out.D w w' /\ ∃ l,resV P s.T s.h rs=some l/\out.v=mV l:=by
 unfold fin at hf;obtain ⟨l,h1,hf⟩:=bC.1 hf;have hf:fN s.n (fun n'=>some ⟨mV l,gets s.h s.W++reach (mM n s.h) 10000 (uk (mV l) (cellsOf (gets s.h s.W) [])) [],n',ids hr0⟩)=some out:=hf;rw [jF] at hf
 cases hf;refine ⟨?_,l,h1,rfl⟩
 have hD : ∀ b∈gets s.h s.W++reach (mM n s.h) 10000 (uk (mV l) (cellsOf (gets s.h s.W) [])) [],get s.h b.id=some b/\(b∈gets s.h s.W\/¬ b.id<n):=fun b hb=>by
  rcases aio.1 hb with hb | hb
  ·obtain ⟨i,h2,h3⟩:=zG.1 hb
   exact ⟨by rw [(je h3).1];exact h3,.inl hb⟩
  ·rcases yc b hb with h2 | h2
   ·cases h2
   ·obtain ⟨h3,h4⟩:=G6 h2
    exact ⟨h4,.inr h3⟩
 have hW : ∀ j∈s.W,∃ b∈gets s.h s.W,b.id=j/\j<n:=fun j hj=>by
  obtain ⟨h2,⟨b,h3⟩,_⟩:=hr.om j hj;exact ⟨b,zG.2 ⟨j,hj,h3⟩,(je h3).1,h2⟩
 have wW : ∀ {i},i<n->M' i=M i:=fun {i} hi=>uf i af;refine ⟨hle,uf,hr.bel,fun k hk Y5 => ?_,fun b hb => ?_,fun b hb hlt => ?_,fun b hb hlt => ?_,fun b hb c hc hs hs' g κ κ' hg hg' => ?_⟩
 ·refine hr.keep k hk fun i hi g κ hg => ?_
  obtain ⟨b,h2,h3,h4⟩:=hW i hi;rw [wW h4] at hg;exact Y5 b (ajg _ h2) af g κ (by rw [h3];exact hg)
 ·exact (hr.hp _ b (hD b hb).1).2
 ·obtain ⟨h2,h3⟩:=hD b hb
  rcases h3 with h3 | h3
  ·obtain ⟨i,h4,h5⟩:=zG.1 h3
   obtain ⟨_,_,b0,h6,h7⟩:=hr.om i h4;have h8:=je h6;have h9:=hsub b0 h8.2;rw [(je h5).1];refine ⟨ids_eq.2 ⟨b0,h8.2,h8.1⟩,b0,by rw [<- h8.1];exact h9,h7⟩
  ·exact absurd hlt h3
 ·obtain ⟨h2,_⟩:=hD b hb
  refine ⟨hl _ _ h2,fun hs g κ hg => ?_⟩;rcases hr.new _ _ h2 hs hlt g κ hg with h3 | ⟨j,h3,κ',h4⟩
  ·exact .inl h3
  ·obtain ⟨c,h5,h6,h7⟩:=hW j h3
   exact .inr ⟨c,ajg _ h5,af,κ',by rw [h6,<- wW h7];exact h4⟩
 ·exact hr.inj _ _ _ _ (hD b hb).1 (hD c hc).1 hs hs' g κ κ' hg hg'
theorem Pm{fn:Func}{tmps:Array Value}{R:Ending->World->Prop}{n:Nat} : ∀ {l:List Nat} {w:World},n<=w.heap.size->l.Nodup->(∀ D∈l,n<=D/\w.heap[D]? = some (.deferred (some [])))->(∀ w',Turned n w w' -> ∃ v,(results fn tmps).run P w' = .ok v w'/\R (.returned v) w')->LeavesInM Fence.wide 0 P fn tmps R (l.map nH) .returning w
 | [],w,_,_,_,h=>h w (Turned.rfl' _ _)
 | D::l,w,hn,hd,hl,h=>by
  obtain ⟨h1,h2⟩:=hl D ak;obtain ⟨h3,h4⟩:=List.nodup_cons.1 hd;have ht:Turned n w (w.putObj D (.deferred none)) := .grown (grownBy_putObj' w D _) hn fun r e=>by cases e;exact ⟨h1,_,h2,rfl⟩
  refine ⟨by simp,.inl ⟨D,_,rfl,run_takeDeferred h2,Pm (ahk hn ht.bel.size) h4 (fun D' hD' => ?_) fun w' hw'=>h w' ⟨ht.bel.trans hw'.bel,fun k c t f hk=>hw'.cells _ _ _ _ (ht.cells _ _ _ _ hk)⟩⟩⟩;obtain ⟨h5,h6⟩:=hl D' (.tail _ hD');exact ⟨h5,(World.putObj_heap_other (fun e:D'=D=>h3 (by rw [<- e];exact hD'))).trans h6⟩
def Ez(P:Program)(Gl:List VB)(B:Nat)(lb:Nat->Option (List V->List VB->Nat->Option Out)):Prop := ∀ f g,lb f=some g->lK P Gl B fun f' vs h n=>if f'=f then g vs h n else none
theorem MO(hm:P.follows .mixedOrders=true)(hbk:yG P bk)(hlb:Ez P Gl B lb) : ∀ k,lK P Gl B (lX P Gl bk lb k)
 | 0=>fun f vs h n out hv=>by cases hv
 | k+1=>fun f vs h n out hv=>by
  have ihk:=MO hm hbk hlb k
  cases hL:lb f with
  | some g=>exact hlb f g hL f vs h n out (by
    show (if f=f then g vs h n else none)=some out;rw [if_pos rfl];have hv:Option.rec (motive:=fun _=>Option Out) ((wL P Gl bk f).f (lX P Gl bk lb k) vs h n) (fun g=>g vs h n) (lb f)=some out:=hv;rw [hL] at hv;exact hv)
  | none =>
  have hv:(wL P Gl bk f).f (lX P Gl bk lb k) vs h n=some out:=by
   have hv:Option.rec (motive:=fun _=>Option Out) ((wL P Gl bk f).f (lX P Gl bk lb k) vs h n) (fun g=>g vs h n) (lb f)=some out:=hv;rw [hL] at hv;exact hv
  unfold wL at hv
  split at hv
  ·rename_i fn hf
   split at hv
   ·rename_i c hname hb
    obtain ⟨hlen,hv⟩:=bZ.1 (show bf (Nat.ble (len vs) fn.ntmps) (match reach h 10000 (GG vs []) [] with
     | []=>(cC P Gl bk fn.ntmps true c).f (lX P Gl bk lb k) n (nN 0 vs) [] n [] fun ex T h' n' W=>Ex.rec (fin P fn.results.toList n [] T h' n' W) (fun _=>none) (fin P fn.results.toList n [] T h' n' W) ex
     | b::t=>(cC P Gl bk fn.ntmps true c).f (lX P Gl bk lb k) n (nN 0 vs) (b::t) n [] fun ex T h' n' W=>Ex.rec (fin P fn.results.toList n (b::t) T h' n' W) (fun _=>none) (fin P fn.results.toList n (b::t) T h' n' W) ex) none=some out from hv)
    obtain ⟨h0,hsub,hv⟩ : ∃ h0,(∀ b∈h0,get h b.id=some b)/\(cC P Gl bk fn.ntmps true c).f (lX P Gl bk lb k) n (nN 0 vs) h0 n [] (fun ex T h' n' W=>Ex.rec (fin P fn.results.toList n h0 T h' n' W) (fun _=>none) (fin P fn.results.toList n h0 T h' n' W) ex)=some out:=by
     refine ⟨reach h 10000 (GG vs []) [],fun b hb=>(yc b hb).resolve_left (fun hh=>by cases hh),?_⟩
     split at hv
     ·rename_i he;rw [he];exact hv
     ·rename_i he;rw [he];exact hv
    have hlen:=aho hlen;rw [len_eq] at hlen;have hname':fn.name≠ "runtime.NumGoroutine":=by simpa using hname
    refine ⟨fun args w=>by simp [callFunc,hf,hname',hb],fun M w rs hvs hx => ?_⟩
    have hg0 : ∀ i b,get h0 i=some b->get h i=some b/\b∈h0:=fun i b hi=>by
     have h1:=je hi;have h2:=hsub b h1.2;rw [h1.1] at h2;exact ⟨h2,h1.2⟩
    obtain ⟨ex,s',h1,hgo⟩:=nO hm ihk hbk c true ⟨nN 0 vs,h0,n,[]⟩ _ out hv (fun i b hi=>hx.lt i b (hg0 i b hi).1) hx.nn (ahj n);obtain ⟨h2,h3,h4⟩:=hgo none (fun _=>rfl)
    have hfin:fin P fn.results.toList n h0 s'.T s'.h s'.n s'.W=some out/\(ex = .normal\/ex = .ret):=by
     cases ex with
     | normal=>exact ⟨h1,.inl rfl⟩
     | exit i=>cases h1
     | ret=>exact ⟨h1,.inr rfl⟩
    have hon:out.n=s'.n:=by
     have h5:=hfin.1;unfold fin at h5;obtain ⟨l,_,h5⟩:=bC.1 h5;have h5:fN s'.n (fun n'=>some ⟨mV l,gets s'.h s'.W++reach (mM n s'.h) 10000 (uk (mV l) (cellsOf (gets s'.h s'.W) [])) [],n',ids h0⟩)=some out:=h5;rw [jF] at h5
     cases h5;rfl
    have hR:out.R=ids h0:=by
     have h5:=hfin.1;unfold fin at h5;obtain ⟨l,_,h5⟩:=bC.1 h5;have h5:fN s'.n (fun n'=>some ⟨mV l,gets s'.h s'.W++reach (mM n s'.h) 10000 (uk (mV l) (cellsOf (gets s'.h s'.W) [])) [],n',ids h0⟩)=some out:=h5;rw [jF] at h5
     cases h5;rfl
    have hin : ∀ i b,get h0 i=some b->i∈out.R:=fun i b hi=>by rw [hR];exact ids_eq.2 ⟨b,(je hi).2,(je hi).1⟩
    have hvl:=hvs.len;refine callsIn_wide.1 (callsIn_of_wp_marks (F:=Fence.wide) (n:=0) hf hb trivial (h4 (w,get h0,w,[]) M _ w ?_ (fun i hi hi'=>hx.fresh i hi (by rw [hon];exact hi')) _ fun M' a' w' ds _ h5 h6 => ?_) rfl)
    ·exact {
      df:=⟨rfl,.nil⟩
      b0:=hx.size
      bU:=KeepsOthers.refl _
      sz:=by simp;omega
      tm:=fun t v hv=>by
       obtain ⟨r,_,h6,h7⟩:=Vx hvs hv;rw [Nat.sub_zero] at h6;have h8:=(ahy.1 h6).1;have h9:=(ahy.1 h6).2;rw [show ((rs.toArray++Array.replicate (fn.ntmps-rs.toArray.size) undef).getD t undef)=r by simp [ajd,h8,h9]];exact h7
      hp:=fun i b hi=>⟨(je hi).1,hx.reads i (hin i b hi) b (hg0 i b hi).1⟩
      bel:=Below.refl _ _
      keep:=fun _ _ _=>rfl
      new:=fun i b hi _ hlt=>absurd (hx.lt i b (hg0 i b hi).1) hlt
      inj:=fun i b j c hi hj hs hs'=>hx.inj i b j c (hin i b hi) (hin j c hj) (hg0 i b hi).1 (hg0 j c hj).1 hs hs'
      om:=fun j hj=>by cases hj
      wK:=fun i b hi _ hs=>⟨b,hi,hs⟩
      size:=hx.size
      tabs:=hx.tabs
      gm:=hx.gm }
    ·obtain ⟨e1,lD,e2,e3,e4⟩:=h6.df
     have key:LeavesInM Fence.wide 0 P fn a'.tmps (fun e w'' => ∃ r M',e = .returned r/\VR M' out.v r/\dm P B h M M' n out.n out.R out.D w w'') a'.defers .returning w':=by
      rw [e1];show LeavesInM Fence.wide 0 P fn a'.tmps (fun e w'' => ∃ r M',e = .returned r/\VR M' out.v r/\dm P B h M M' n out.n out.R out.D w w'') ds .returning w';rw [show ds=lD.map nH from e2];refine Pm (show w.heap.size<=w'.heap.size from h6.bel.size) e3 e4 fun w'' ht => ?_;have h6':=h6.turn ht ⟨a'.tmps,[]⟩ w'' (ds:=[]) ⟨rfl,.nil⟩ h6.sz h6.tm (KeepsOthers.refl _);obtain ⟨h7,l,h8,h9⟩:=XU hx hsub hfin.1 h2 h3 h5 h6';obtain ⟨v,h10,h11⟩:=ab9 (fn:=fn) h6' h8;exact ⟨v,h11,v,M',rfl,by rw [h9];exact h10,h7⟩
     rcases hfin.2 with rfl | rfl <;> exact key
   ·cases hv
  ·cases hv
noncomputable def H6:Option Out->Option Bool
 | some ⟨.one (.bool b),_,_,_⟩=>some b
 | _=>none
def KG(P:Program)(Gl:List VB)(bk:Nat->Option Nat)(lb:Nat->Option (List V->List VB->Nat->Option Out))(k:Nat)(f:FuncId)(b:Bool):Prop:=H6 (lX P Gl bk lb k f [] [] nm)=some b
theorem acZ{bk:Nat->Option Nat}{lb:Nat->Option (List V->List VB->Nat->Option Out)}{k:Nat}{f:FuncId}{b:Bool}(hm:P.follows .mixedOrders=true)(hbk:yG P bk)(hlb : ∀ B,Ez P Gl B lb)(hv:KG P Gl bk lb k f b)(W:World)(htab : ∀ i b,get Gl i=some b->i<nm/\i<W.heap.size /\ ∃ rs ext t fz,LR (CR fun g=>if g<nm then some (g,0) else none) b.vs rs/\W.heap[i]? = some (.cells (rs++ext).toArray t fz)) :
  Calls P f #[] W fun e w'=>e = .returned (.bool b)/\Below W.heap.size W w':=by
 unfold KG H6 at hv
 split at hv
 ·rename_i b' D n' R ho
  cases hv;have h1:=(MO (Gl:=Gl) (B:=W.heap.size) hm hbk (hlb _) k f [] [] nm _ ho).2 (fun g=>if g<nm then some (g,0) else none) W [] .nil ⟨fun i _ b hb=>(by cases hb),fun i hi _=>if_neg af,ahj _,htab,fun g hg=>if_pos hg,ahj _,fun i b hb=>(by cases hb),fun i b j c _ _ hb=>(by cases hb)⟩;exact Calls.mono h1 fun e w' ⟨r,M',h2,h3,h4⟩=>⟨by rw [h2];exact congrArg _ h3,h4.bel⟩
 ·cases hv
end
end Run
namespace Run
open Go Go.Proofs Go.RowKit bJ
theorem PE{M:Mp}{arr:List Value} : ∀ {tab:List Nat} {k:Nat},(∀ j,j<tab.length->arr[k+j]? = some (.int .u8 (tab.getD j 0:Nat)))->LR (CR M) (tab.map fun n=>C.nat .u8 n) ((arr.drop k).take tab.length)
 | [],k,_=>by simp;exact .nil
 | n::tab,k,h=>by
  have h0:=h 0 (by simp);rw [ahF] at h0;obtain ⟨hlt,h1⟩:=ahy.1 h0;rw [aiq hlt,List.length_cons,List.take_succ_cons];refine .cons (by rw [h1];rfl) (PE (k:=k+1) fun j hj => ?_);have h2:=h (j+1) (by simp;omega);rw [show k+1+j=k+(j+1) from af,h2]
  rfl
theorem adP{M:Mp}{g:Nat}{tab:List Nat}{w:World}(h:TabAt g tab w)(h0:0<tab.length) : ∃ rs ext t fz,LR (CR M) (tab.map fun n=>C.nat .u8 n) rs/\w.heap[g]? = some (.cells (rs++ext).toArray t fz):=by
 have h1:=h 0 h0;unfold World.cell? at h1
 split at h1
 ·rename_i c t fz hb
  refine ⟨c.toList.take tab.length,c.toList.drop tab.length,t,fz,?_,by rw [ai9];simpa using hb⟩
  have h2:=PE (M:=M) (arr:=c.toList) (tab:=tab) (k:=0) fun j hj=>by
   have h3:=h j hj;unfold World.cell? at h3;simp only [hb] at h3;rw [ahC]
   simpa using h3
  rw [ah5] at h2;exact h2
 ·cases h1
end Run
namespace Run
open Go Go.RowKit bJ
variable {P:Program} {Gl:List VB} {B:Nat} {M:Mp}
theorem Su : ∀ {l:List C} {r:List (List UInt8)} {rs:List Value},strs l=some r->LR (CR M) l rs -> ∃ xs:List ByteArray,xs.map (·.data.toList)=r/\rs=xs.map Value.string
 | [],_,_,h,.nil=>by cases h;exact ⟨[],rfl,rfl⟩
 | c::l,r,_::rs,h,.cons h1 ht=>by
  unfold strs at h
  split at h
  ·cases ‹_::_=_›
  ·rename_i a _ l' e
   cases e;obtain ⟨r',h2,h3⟩:=bC.1 h
   cases h3;obtain ⟨xs,h4,h5⟩:=Su h2 ht;have h1:_=Value.string a:=h1;exact ⟨a::xs,by rw [List.map_cons,h4],by rw [h1,h5];rfl⟩
  ·cases h
theorem ZM{fj:FuncId}(he : ∀ args w,(callFunc fj args).run P w = .ok (.enter fj args) w)(hJ : ∀ (g o c:Nat) (xs:List ByteArray) (sep:ByteArray) (w:World),(∀ (j:Nat) x,xs[j]? = some x->w.cell? ⟨g,o+j,none⟩=some (.string x))->g<w.heap.size->xs.length<=140737488355328->xs.length<=c ->
  (Lib.join (xs.map (·.data.toList)) sep.data.toList).length<=140737488355328->Calls P fj #[.slice (some ⟨g,o,none⟩) xs.length c,.string sep] w fun e w'=>e = .returned (.string ⟨(Lib.join (xs.map (·.data.toList)) sep.data.toList).toArray⟩)/\Below w.heap.size w w') :
  lK P Gl B fun f vs h n=>if f=fj then uw vs h n else none:=fun f vs h n out hv=>by
 by_cases e:f=fj
 ·subst e
  have hv:uw vs h n=some out:=by
   have hv:(if f=f then uw vs h n else none)=some out:=hv;rw [if_pos rfl] at hv;exact hv
  refine ⟨he,fun M w rs hvs hx => ?_⟩;unfold uw at hv
  split at hv
  ·rename_i g o m cp sep _ hv0
   obtain ⟨b,h1,hv⟩:=bC.1 hv;obtain ⟨l,h2,hv⟩:=bC.1 hv;obtain ⟨l',h3,hv⟩:=bC.1 hv;obtain ⟨h4,hv⟩:=bZ.1 hv
   cases hv;obtain ⟨h5,h6⟩:=Bool.and_eq_true_iff.1 h4;obtain ⟨h0,h5⟩:=Bool.and_eq_true_iff.1 h5;have h0:=aho h0;have h5:=aho h5;have h6:=aho h6;obtain ⟨h7,h8⟩:=xM h1;obtain ⟨g',κ',rs',ext,e1,_,e3,e4,e5,e6⟩:=hx.reads g (by simp) b h7 h8;rw [(je h7).1] at e1
   cases hvs with
   | cons k1 t =>
    cases t with
    | cons k2 t =>
     cases t;obtain ⟨g2,κ2,k3,rfl⟩:=k1;rw [k3] at e1;cases e1;have k2:_=Value.string sep:=k2;subst k2;rw [lV] at h2;obtain ⟨rfl,h9⟩:=ni.1 h2;obtain ⟨xs,h10,h11⟩:=Su h3 ((e3.drop o).take m);have hl:=e3.len;rw [ahI] at h9
     have h12:xs.length=m:=by
      have:=congrArg List.length h11;simp at this;omega
     have hlt:g'<w.heap.size:=(ahD.1 e4).1;have hjn:(Lib.join (xs.map (·.data.toList)) sep.data.toList)=sep.data.toList.intercalate l':=by rw [h10];rfl
     have key:=hJ g' o (cp+κ') xs sep w (fun j x hj=>by
      have hjl:=(ahy.1 hj).1;have h13:((rs'.drop o).take m)[j]? = some (.string x):=by rw [h11,aiv,hj];rfl
      rw [ahQ,if_pos af,aib] at h13;unfold World.cell?;simp only [e4];rw [aik,ah4 (ahy.1 h13).1];exact h13) hlt af af (by rw [hjn];omega)
     rw [h12] at key;refine Calls.mono key fun e w' ⟨Fz,h15⟩=>⟨_,M,Fz,by rw [hjn];rfl,?_⟩;exact ⟨ahj _,fun _ _=>rfl,h15.mono hx.size,fun k hk _=>h15.block k hk,fun b hb=>(by cases hb),fun b hb=>(by cases hb),fun b hb=>(by cases hb),fun b hb=>(by cases hb)⟩
  ·cases hv
 ·have hv:(if f=fj then uw vs h n else none)=some out:=hv
  rw [if_neg e] at hv;cases hv
end Run
namespace Go.Proofs.AZQ
open Go Go.RowKit Lw bJ Run
noncomputable def KZ:List VB:=[⟨0,0,0,Lib.deBruijn64tab.map fun (n:Nat) => .nat .u8 n⟩]
noncomputable def EK (f:Nat):Option Nat:=bf (Nat.beq f 125) (some 3) (bf (Nat.beq f 211) (some 2) none)
noncomputable def EM (f:Nat):Option (List V->List VB->Nat->Option Out):=bf (Nat.beq f 64) (some uw) none
set_option maxRecDepth 100000 in
theorem VG:H6 (lX Tryz.prog KZ EK EM 100000 13 [] [] nm)=some true:=ah
theorem VE:yG Tryz.prog EK:=fun gf q h=>by
 unfold EK at h;rcases dH.1 h with ⟨h1,h⟩ | ⟨_,h⟩
 ·obtain rfl:=ahm h1
  cases h;exact ⟨ai,Tryz.call125,fun n hn bx A c cs=>Qk hn bx A c cs⟩
 ·rcases dH.1 h with ⟨h1,h⟩ | ⟨_,h⟩
  ·obtain rfl:=ahm h1
   cases h;exact ⟨ai,Tryz.call211,fun n hn bx A c cs=>Lh (ti:=3) (tb:=4) (tp:=0) (ts:=103) (te:=109) (ty:=197) Tryz.func211 rfl Tryz.ntmps211 Tryz.results211 Tryz.runUnderlying103 Tryz.isAgg103 agZ agC hn⟩
  ·cases h
theorem VF(B:Nat):Ez Tryz.prog KZ B EM:=fun f g h=>by
 unfold EM at h;obtain ⟨h1,h⟩:=bZ.1 h;obtain rfl:=ahm h1
 cases h;exact ZM Tryz.call64 fun g o c xs sep w h1 h2 h3 h4 h5=>Tryz.strings_Join g o c xs sep w h1 h2 h3 h4 h5
section
variable {W0 w:World} {U:List Box} {Ps:List (World->Prop)}
theorem Qj(HT:Tz W0)(_HB:Tab W0)(HS:St W0 U Ps w):bP Tryz.prog 13 [] w (dB W0 U Ps (.bool true)):=by
 have ht:Tz w:=HT.next HS.below;refine Calls.mono (acZ ah VE VF VG w fun i b hb => ?_) fun e w' ⟨he,hb⟩=>⟨.bool true,he,rfl,HS.next hb⟩;obtain ⟨h1,h2⟩:=je hb
 cases ahG.1 h2;subst h1;exact ⟨ai,cell_lt (ht 0 ai),adP ht ai⟩
end
end Go.Proofs.AZQ
