/- Part of a proof, said shortly. -/
import Derived.Test.YtmmgoghiiionfaaGreatDoorAlz
import Derived.Test.YtmmgoghiiionfaaGreatDoorC22
import Derived.Test.YtmmgoghiiionfaaGreatDoorC21
import Derived.Test.YtmmgoghiiionfaaGreatDoorC10
import Derived.Test.YtmmgoghiiionfaaGreatDoorC9
import Derived.Test.YtmmgoghiiionfaaGreatDoorC18
import Derived.Test.YtmmgoghiiionfaaGreatDoorC11
import Derived.Test.YtmmgoghiiionfaaGreatDoorC17
set_option linter.unusedVariables false
set_option linter.unusedSimpArgs false
namespace Run
open Go Go.RowKit bJ
section
variable {P:Program} {B n n':Nat} {M M':Mp} {w w':World} {h:List VB} {R:List Nat} {Gl:List VB} {ρ:Operand->Value} {T:Tm} {out:Out} {call:eX}
theorem cells_at{g o:Nat}{rs ext:List Value}{t:TypeId}{fz:Nat×Nat}(hb:w.heap[g]? = some (.cells (rs++ext).toArray t fz)){k j:Nat}{u:Value}(hj:((rs.drop o).take k)[j]? = some u):w.cell? ((⟨g,o,none⟩:Addr).add j)=some u:=by
 rw [add_lit];unfold World.cell?;simp only [hb];rw [ahQ] at hj
 split at hj
 ·rw [aib] at hj
  have:=(ahy.1 hj).1;simp only [aik];rw [ah4 this];exact hj
 ·cases hj
theorem V7(l:List UInt8):LR (CR M) (l.map fun (u:UInt8)=>C.nat .u8 u.toNat) (l.map fun b=>Value.int .u8 (b.toNat:Int)):=by
 induction l with
 | nil=>exact .nil
 | cons b l ih=>exact .cons rfl ih
theorem xI{q m:Nat}{tx:TypeId}{str:Bool}{x:V}{r:Value}{l:List C}{R':List Nat}(hv:news h q str x=some (m,l,R'))(hr:VR M x r)(hk:(str=false -> ∃ e',P.underlying tx=some (.slice e'))/\(str=true->P.underlying tx=some .string))(hx:Cx P Gl B h M n out w)(hR : ∀ i∈R',i∈out.R) :
  ∃ rl,LR (CR M) l rl/\Src P q tx r m rl w:=by
 unfold news at hv
 split at hv
 ·rename_i g o m' c
  obtain ⟨b,h1,hv⟩:=bC.1 hv;obtain ⟨l',h2,hv⟩:=bC.1 hv
  cases hv;obtain ⟨γ,κ,e1,e2⟩:=hr;obtain ⟨e',hk⟩:=hk.1 rfl;obtain ⟨_,_,_,_,rs,ext,_,h5,h6,_⟩:=lC hx h1 (hR _ ak) e1;rw [lV] at h2;obtain ⟨rfl,h7⟩:=ni.1 h2;have h9:=h5.len;rw [ahI] at h7;refine ⟨_,(h5.drop o).take _,?_⟩;rw [e2];exact Src.ofSlice w hk _ m _ _ (by simp;omega) (fun j u hj=>cells_at h6 hj) (LR.one ((h5.drop o).take _))
 ·cases hv
  obtain ⟨e',hk⟩:=hk.1 rfl;exact ⟨[],.nil,by have e:r=_:=hr;rw [e];exact Src.ofNil w hk _⟩
 ·rename_i b _
  obtain ⟨hq,hv⟩:=bZ.1 hv
  cases hv;obtain rfl:=ahm hq;have e:r = .string b:=hr;refine ⟨_,V7 _,?_⟩;rw [e];have:=Src.ofString (P:=P) w (hk.2 rfl) b;rw [show b.data.toList.length=b.size by rw [aiy];rfl];exact this
 ·cases hv
theorem Fv{t tx e ty:TypeId}{i:TypeInfo}{v xv:Value}{k c m:Nat}{A:Option Addr}{olds nw:List Value}(ht:P.underlying t=some (.slice e))(h1:P.info? e=some i)(h2:i.zero=some v)(hb:i.bytes<=1000)(hn:k+m<=1000000)(hs:Src P i.size tx xv m nw w)(hg:c<k+m)(hold:(Builtin.firstCells i.size k (.slice A k c)).run P w.drew = .ok olds.toArray w.drew) :
  ∃ C,k+m<=C/\(Builtin.append_ #[t,tx] ty #[.slice A k c,xv]).run P w = .ok (.slice (some ⟨w.heap.size,0,none⟩) (k+m) C) (w.drew.alloc (.cells ((olds++nw)++eU (C-(k+m)) v.cells.toList).toArray e)):=by
 have hfit:Builtin.nextslicecap (k+m) c*i.bytes<=281474976710656:=growslice_fits af (by
  have:(k+m)*i.bytes<=1000000*1000:=ahY hn hb;omega)
 have hr:=run_append_grow_src (P:=P) w t tx ty e i v ht h1 h2 A k c olds hold xv m nw hs hg af hfit;have hge:=grownCap_ge w (k+m) c e;refine ⟨_,hge,hr.trans ?_⟩;rw [TT];simp
theorem abe{o:Obj} : (w.drew.alloc o).heap[w.heap.size]? = some o:=by
 show (w.heap.push _)[w.heap.size]? = _;rw [aiU,if_pos rfl]
theorem abg{o:Obj}{k:Nat}(hk:k<w.heap.size):(w.drew.alloc o).heap[k]? = w.heap[k]? := by
 show (w.heap.push _)[k]? = _;rw [aiU,if_neg af]
theorem abf{o:Obj}(hB:B<=w.heap.size):Below B w (w.drew.alloc o):=(Below.refl _ _).drew.alloc hB o
theorem dm.row{e:TypeId}{i:TypeInfo}{l:List C}{rl:List Value}{v:Value}{need C:Nat}(hM:M n=none)(hB:B<=w.heap.size)(h1:P.info? e=some i)(hzl:v.cells.size=i.size)(hl:LR (CR M) l rl) :
  dm P B h M (iF M n (w.heap.size,C-need)) n (Nat.succ n) R [⟨n,e,1,l⟩] w (w.drew.alloc (.cells (rl++eU (C-need) v.cells.toList).toArray e)) :=
 dm.make hM hB (abf hB) (fun k hk=>abg hk) abe hl (fun e=>by cases e) (fun _=>⟨i.size,by simp [sz,h1],by rw [DF];simp [hzl]⟩)
theorem dm.kill{g:Nat}{t:TypeId}{b:VB}{c:VB}(hc:dm P B h M M' n n' R [c] w w')(hg:get h g=some b)(hb:b.st<2)(hR:g∈R)(hlt:g<n):dm P B h M M' n n' R [⟨g,t,2,[]⟩,c] w w':=by
 refine ⟨hc.le,hc.ext,hc.bel,fun k hk hD=>hc.keep k hk fun d hd=>hD d (.tail _ hd),fun d hd => ?_,fun d hd hl => ?_,fun d hd hl => ?_,fun d hd d' hd' h1 h2 => ?_⟩
 ·rcases List.mem_cons.1 hd with rfl | hd
  ·exact fun h=>absurd h (aia 2)
  ·exact hc.blk d hd
 ·rcases List.mem_cons.1 hd with rfl | hd
  ·exact ⟨hR,b,hg,hb⟩
  ·exact hc.old d hd hl
 ·rcases List.mem_cons.1 hd with rfl | hd
  ·exact absurd hlt hl
  ·obtain ⟨h1,h2⟩:=hc.new d hd hl
   refine ⟨h1,fun hs g κ hg=>(h2 hs g κ hg).imp id fun ⟨c',h3,h4⟩=>⟨c',.tail _ h3,h4⟩⟩
 ·rcases List.mem_cons.1 hd with rfl | hd
  ·exact absurd h1 (aia 2)
  ·rcases List.mem_cons.1 hd' with rfl | hd'
   ·exact absurd h2 (aia 2)
   ·exact hc.inj d hd d' hd' h1 h2
theorem IP(P:Program){g off:Nat}{cur nw:List Value}{t:TypeId}(hb:w.heap[g]? = some (.cells cur.toArray t (0,0)))(hfit:off+nw.length<=cur.length)(h1 : ∀ u∈nw,u.oneCell'=true) :
  (w.setCells g off nw).os=w.os/\(w.setCells g off nw).tape=w.tape/\(w.setCells g off nw).output=w.output/\(w.setCells g off nw).heap.size=w.heap.size/\(∀ k,k≠g->(w.setCells g off nw).heap[k]? = w.heap[k]?)/\(w.setCells g off nw).heap[g]? = some (.cells (cur.take off++(nw++cur.drop (off+nw.length))).toArray t (0,0)):=by
 obtain ⟨w1,k1,k2,k3,k4,k5,k6,k7⟩:=CQ (P:=P) g off nw 0 w cur hb af h1;have hst:=run_storeCells_cells (P:=P) g off nw 0 w (fun j hj=>by unfold World.cell?;simp only [hb];simp;omega) (fun j hj=>by unfold World.frozen?;simp [hb]) h1;rw [k1] at hst
 injection hst with _ hst;rw [ahF] at hst k7;rw [<- hst];rw [wr_eq af] at k7;exact ⟨k2,k3,k4,k5,k6,k7⟩
theorem sW{t tx:TypeId}{x y:Operand}{v xv r:Value}{dst:Option Tmp}{ty:TypeId}{pos:String}{bn:Array Edge}{gd:Option (Nat×Bool)}(h1:ρ x=v)(h2:ρ y=xv)(hr:(Builtin.append_ #[t,tx] ty #[v,xv]).run P w = .ok r w') :
  (execOp ρ ⟨dst,.call ⟨.builtin .append,#[x,y],#[t,tx]⟩,ty,pos,bn,gd⟩).run P w = .ok (.value r) w':=by
 simp [execOp,resolve,invoke,builtin,h1,h2,hr]
theorem KR{t tx e:TypeId}{x y:Operand}{q yb:Nat}{str:Bool}{z:List C}{s u:V}(hu:P.underlying t=some (.slice e))(hz:zero P e=some z)(hq:sz P e=some q)(hyb:sZ P e=some yb)(pK:len z=q)(ZH:yb<=1000)(hq0:0<q)(hk:(str=false -> ∃ e',P.underlying tx=some (.slice e'))/\(str=true->P.underlying tx=some .string))(hv:zA h n e q str s u=some out)(hs:VR M s (ρ x))(hxu:VR M u (ρ y))(hx:Cx P Gl B h M n out w):Does P B ρ (.call ⟨.builtin .append,#[x,y],#[t,tx]⟩) h M n out w:=fun dst ty pos bn gd=>by
 obtain ⟨i,v,h1,h2,h3,h4⟩:=vJ (M:=M) hz;have hb3:i.bytes=yb:=by simpa [sZ,h1] using hyb
 have hq3:i.size=q:=by simpa [sz,h1] using hq
 rw [len_eq] at pK;have hvq:v.cells.size=i.size:=by rw [hq3,<- pK,h3.len];simp
 unfold zA at hv;obtain ⟨⟨m,l,R'⟩,hn,hv⟩:=bC.1 hv
 split at hv
 ·rename_i heq _
  cases heq;have hs:ρ x = .slice none 0 0:=hs;rcases dH.1 hv with ⟨h0,hv⟩ | ⟨h0,hv⟩
  ·cases hv
   obtain rfl:=ahm h0;obtain ⟨rl,h5,h6⟩:=xI hn hxu hk hx (fun i hi=>hi);rw [<- hq3] at h6;have h7:rl=[]:=ahT.1 (by rw [h6.newsLen,Nat.zero_mul]);subst h7
   have hr:(Builtin.append_ #[t,tx] ty #[.slice none 0 0,ρ y]).run P w = .ok (.slice none 0 0) w:=by
    rcases h6.kind with ⟨e',hk'⟩ | hk' <;> simp [Builtin.append_,run_underlying hu,run_underlying hk',Go.sizeOf,typeInfo,h1,h6.len,h6.cells]
   exact ⟨_,M,w,rfl,dm.same,.inl (sW hs rfl hr)⟩
  ·obtain ⟨h8,hv⟩:=bZ.1 hv
   cases hv;have h0:=ah' h0;obtain ⟨rl,h5,h6⟩:=xI hn hxu hk hx (fun i hi=>hi);rw [<- hq3] at h6;obtain ⟨C,hC,hr⟩:=Fv (ty:=ty) (A:=none) (k:=0) (c:=0) (olds:=[]) hu h1 h2 af (by have:=aho h8;omega) h6 af (run_firstCells_none w.drew i.size 0 0 0);rw [ahC,air] at hr;refine ⟨_,iF M n (w.heap.size,C-m),_,⟨w.heap.size,C-m,if_pos rfl,rfl⟩,dm.row (hx.fresh n (ahj _) (ahU _)) hx.size h1 hvq h5,.inl ?_⟩;have:=sW (dst:=dst) (pos:=pos) (bn:=bn) (gd:=gd) hs rfl hr;rw [this]
   congr 3
   omega
 ·rename_i m' l' R'' g o k c heq _
  cases heq;obtain ⟨γ,κ,e1,e2⟩:=hs;obtain ⟨b,h7,hv⟩:=bC.1 hv;rcases dH.1 hv with ⟨h0,hv⟩ | ⟨h0,hv⟩
  ·obtain ⟨vs,h8,hv⟩:=bC.1 hv
   cases hv;obtain ⟨rl,h5,h6⟩:=xI hn hxu hk hx (fun i hi => .tail _ hi);rw [<- hq3] at h6;obtain ⟨hid,hg,hst,hlt,rs,ext,h9,h10,h11,h12,h13⟩:=lC hx h7 ak e1;obtain ⟨rfl,Fz⟩:=Dz.1 h8;have h15:=h10.len;have h16:=h5.len;have h0:=aho h0;rw [<- hq3] at Fz ⊢
   have hr:=run_append_room_src (P:=P) w t tx ty e i hu h1 γ o k (c+κ) (ρ y) m rl h6 af
    (fun j hj=>by unfold World.cell?;simp only [h11];simp;omega) (fun j hj=>by unfold World.frozen?;simp [h11])
   obtain ⟨f1,f2,f3,f4,f5,f6⟩:=IP P (off:=o+k*i.size) h11 (by simp;omega) h6.one;rw [ai5 af,ai4 af] at f6;refine ⟨_,M,_,⟨γ,κ,e1,rfl⟩,?_,.inl (sW e2 rfl hr)⟩;subst hid;exact dm.write (rs:=rs.take (o+k*i.size)++(rl++rs.drop (o+k*i.size+rl.length))) (ext:=ext) hg hlt hst ak e1 h9 ⟨f1,f2,f3,af,fun k hk=>f5 k af⟩ f5 (by rw [f6];simp) (h10.wr h5) h12 h13
  ·obtain ⟨h8,hv⟩:=bZ.1 hv
   have h8:=aho h8;have h0:¬ (k+m<=c):=fun hh=>by rw [ajf hh] at h0;cases h0
   rcases dH.1 hv with ⟨xx,hv⟩ | ⟨xx,hv⟩
   ·obtain ⟨olds,h20,hv⟩:=bC.1 hv
    cases hv;obtain ⟨rl,h5,h6⟩:=xI hn hxu hk hx (fun i hi => .tail _ hi);rw [<- hq3] at h6;obtain ⟨hid,hg,hst,hlt,rs,ext,h9,h10,h11,h12,h13⟩:=lC hx h7 ak e1;obtain ⟨rfl,rfl⟩:=h12 (ahm xx);rw [lV] at h20;obtain ⟨rfl,h21⟩:=ni.1 h20;have h15:=h10.len;rw [ahI] at h21;have hold:=run_firstCells_some (P:=P) w.drew i.size k ⟨γ,o,none⟩ k c ((rs.drop o).take (k*q)) (by simp [hq3];omega) (fun j u hj=>cells_at (w:=w.drew) h11 hj);obtain ⟨C,hC,hr⟩:=Fv (ty:=ty) hu h1 h2 af h8 h6 af hold;refine ⟨_,iF M n (w.heap.size,C-(k+m)),_,⟨w.heap.size,C-(k+m),if_pos rfl,rfl⟩,dm.row (hx.fresh n (ahj _) (ahU _)) hx.size h1 hvq (((h10.drop o).take _).app h5),.inl ?_⟩;have:=sW (dst:=dst) (pos:=pos) (bn:=bn) (gd:=gd) e2 rfl hr;rw [this]
    congr 3
    omega
   ·obtain ⟨h20,hv⟩:=bZ.1 hv
    cases hv;simp only [Bool.and_eq_true] at h20;obtain ⟨h21,h22,h23,FB⟩:=h20;obtain rfl:=ahm h21;obtain rfl:=ahm h23;have h22:=ahm h22;have FB:=ahm FB;rw [len_eq] at h22;have xx:=ah' xx;obtain ⟨rl,h5,h6⟩:=xI hn hxu hk hx (fun i hi => .tail _ hi);rw [<- hq3] at h6;obtain ⟨hid,hg,hst,hlt,rs,ext,h9,h10,h11,h12,h13⟩:=lC hx h7 ak e1;obtain ⟨q',wP,Yr⟩:=h13 xx;rw [FB] at wP h11;have wP:q'=q:=by rw [hq] at wP;exact (Option.some.inj wP).symm
    subst wP;have h15:=h10.len;have h16:=h6.newsLen;have hfr:=hx.fresh n (ahj _) (ahU _)
    by_cases hroom:k+m<=k+κ
    ·have hmk:m*i.size<=κ*i.size:=ahp _ af
     have hr:=run_append_room_src (P:=P) w t tx ty e i hu h1 γ 0 k (k+κ) (ρ y) m rl h6 hroom
      (fun j hj=>by unfold World.cell?;simp only [h11];simp;rw [hq3] at *;omega) (fun j hj=>by unfold World.frozen?;simp [h11])
     obtain ⟨f1,f2,f3,f4,f5,f6⟩:=IP P (off:=0+k*i.size) (nw:=rl) h11 (by simp;rw [hq3] at *;omega) h6.one
     have f7:(rs++ext).take (0+k*i.size)++(rl++(rs++ext).drop (0+k*i.size+rl.length))=(rs++rl)++ext.drop rl.length:=by
      rw [ahC,hq3,h22,h15,List.take_left,List.drop_append];rw [List.drop_eq_nil_of_le af,air,Nat.add_sub_cancel_left,ail]
     rw [f7] at f6;have hsn:iF M n (γ,κ-m) n=some (γ,κ-m):=if_pos rfl;have hgn:g≠n:=af;refine ⟨_,iF M n (γ,κ-m),_,⟨γ,κ-m,hsn,rfl⟩,⟨aiH _,fun i hi=>if_neg (fun e=>hi (by subst e;exact ⟨ahj _,ahU _⟩)),⟨f1,f2,f3,af,fun k hk=>f5 k af⟩,fun k' hk' hD=>f5 k' (fun e=>hD _ ak hlt _ _ e1 e.symm),fun d hd => ?_,fun d hd hl => ?_,fun d hd hl => ?_,fun d hd d' hd' k1 k2 => ?_⟩,.inl ?_⟩
     ·rcases List.mem_cons.1 hd with rfl | hd
      ·exact fun hh=>absurd hh (aia 2)
      ·cases ahG.1 hd
       refine fun _=>⟨γ,κ-m,rs++rl,ext.drop rl.length,hsn,h9,(h10.app h5).mono fun _ _=>CR.mono (RQ hfr),f6,fun hh=>(by cases hh),fun _=>⟨q',hq,?_⟩⟩;rw [ahI,Yr,h16,hq3,Nat.sub_mul]
     ·rcases List.mem_cons.1 hd with rfl | hd
      ·exact ⟨ak,b,hg,hst⟩
      ·cases ahG.1 hd;exact absurd hl (aia _)
     ·rcases List.mem_cons.1 hd with rfl | hd
      ·exact absurd hlt hl
      ·cases ahG.1 hd
       refine ⟨ahU _,fun _ g' κ' hg' => .inr ⟨_,ak,hlt,κ,?_⟩⟩;have hg':iF M n (γ,κ-m) n=some (g',κ'):=hg';rw [hsn] at hg'
       cases hg';exact e1
     ·rcases List.mem_cons.1 hd with rfl | hd
      ·exact absurd k1 (aia 2)
      ·rcases List.mem_cons.1 hd' with rfl | hd'
       ·exact absurd k2 (aia 2)
       ·cases ahG.1 hd;cases ahG.1 hd';intros;rfl
     ·have:=sW (dst:=dst) (pos:=pos) (bn:=bn) (gd:=gd) e2 rfl hr
      rw [this]
      congr 3
      omega
    ·have hold:=run_firstCells_some (P:=P) w.drew i.size k ⟨γ,0,none⟩ k (k+κ) ((rs.drop 0).take (k*q')) (by simp [hq3];omega) (fun j u hj=>cells_at (w:=w.drew) h11 hj)
     rw [ah5,h22,h15,List.take_length] at hold;obtain ⟨C,hC,hr⟩:=Fv (ty:=ty) hu h1 h2 af h8 h6 af hold;refine ⟨_,iF M n (w.heap.size,C-(k+m)),_,⟨w.heap.size,C-(k+m),if_pos rfl,rfl⟩,(dm.row hfr hx.size h1 hvq (h10.app h5)).kill hg hst ak hlt,.inl ?_⟩;have:=sW (dst:=dst) (pos:=pos) (bn:=bn) (gd:=gd) e2 rfl hr;rw [this]
     congr 3
     omega
 ·cases hv
theorem WO{t tx e:TypeId}{x y:Operand}{q:Nat}{s u:V}(hu:P.underlying t=some (.slice e))(hq:sz P e=some q)(hv:Fe h n q s u=some out)(hs:VR M s (ρ x))(hxu:VR M u (ρ y))(hx:Cx P Gl B h M n out w):Does P B ρ (.call ⟨.builtin .copy,#[x,y],#[t,tx]⟩) h M n out w:=fun dst ty pos bn gd=>by
 unfold Fe at hv
 split at hv
 ·rename_i g o k c g' o' k' c'
  obtain ⟨b,h1,hv⟩:=bC.1 hv;obtain ⟨b',h2,hv⟩:=bC.1 hv;obtain ⟨l,h3,hv⟩:=bC.1 hv;obtain ⟨vs,h4,hv⟩:=bC.1 hv
  cases hv;obtain ⟨γ,κ,e1,e2⟩:=hs;obtain ⟨γ',κ',e1',e2'⟩:=hxu;obtain ⟨hid,hg,hst,hlt,rs,ext,h9,h10,h11,h12,h13⟩:=lC hx h1 ak e1;obtain ⟨_,_,_,_,rs',ext',_,Nv,Yq,_⟩:=lC hx h2 au e1';rw [lV] at h3;obtain ⟨rfl,h5⟩:=ni.1 h3;obtain ⟨rfl,h6⟩:=Dz.1 h4;have h15:=h10.len;have aeX:=Nv.len;rw [ahI] at h5;have hl:=(Nv.drop o').take (min k' k*q);have hll:=hl.len;have hfc:=run_firstCells_some (P:=P) w q (min k' k) ⟨γ',o',none⟩ k' (c'+κ') ((rs'.drop o').take (min k' k*q)) (by simp;omega) (fun j u hj=>cells_at Yq hj);have hone:=LR.one hl;have hst2:=run_storeCells_cells (P:=P) γ o ((rs'.drop o').take (min k' k*q)) 0 w (fun j hj=>by unfold World.cell?;simp only [h11];simp;omega) (fun j hj=>by unfold World.frozen?;simp [h11]) hone;rw [ahF] at hst2;obtain ⟨f1,f2,f3,f4,f5,f6⟩:=IP P (off:=o) h11 (by rw [List.length_append];omega) hone;rw [ai5 af,ai4 af] at f6;refine ⟨.int .i64 ((min k' k:Nat):Int),M,w.setCells γ o ((rs'.drop o').take (min k' k*q)),rfl,?_,.inl ?_⟩
  ·subst hid
   exact dm.write (rs:=rs.take o++((rs'.drop o').take (min k' k*q)++rs.drop (o+((rs'.drop o').take (min k' k*q)).length))) (ext:=ext) hg hlt hst ak e1 h9 ⟨f1,f2,f3,af,fun k hk=>f5 k af⟩ f5 (by rw [f6];simp) (h10.wr hl) h12 h13
  ·have hmin:Nat.min k' k=min k' k:=rfl
   simp [execOp,resolve,invoke,builtin,Builtin.copy_,e2,e2',un hu,jC hq,Builtin.lenOf,hmin,hfc,hst2,goInt]
 ·cases hv
end
end Run
namespace Run
open Go Go.RowKit bJ
section
variable {P:Program} {B n n' N m:Nat} {M M':Mp} {w w' w0:World} {h:List VB} {R:List Nat} {Gl:List VB} {T:Tm} {out:Out} {call:eX} {a:Act} {dst:Option Tmp} {ty:TypeId} {pos:String} {bn:Array Edge} {gd:Option (Nat×Bool)}
def lK(P:Program)(Gl:List VB)(B:Nat)(call:eX):Prop := ∀ f vs h n out,call f vs h n=some out->(∀ args w,Sem.run P (callFunc f args) w = .ok (.enter f args) w) /\ ∀ M w rs,LR (VR M) vs rs->Cx P Gl B h M n out w ->
 Calls P f rs.toArray w fun e w' => ∃ r M',e = .returned r/\VR M' out.v r/\dm P B h M M' n out.n out.R out.D w w'
theorem Does.wp{o:Op}(hd:Does P B a.eval o h M n out w){K:Act->World->Prop}(hK : ∀ r M' w',VR M' out.v r->dm P B h M M' n out.n out.R out.D w w'->K (a.put dst r) w'):mO P ⟨dst,o,ty,pos,bn,gd⟩ a w K:=by
 obtain ⟨r,M',w',h1,h2,h3⟩:=hd dst ty pos bn gd;unfold mO;rcases h3 with h3 | ⟨rfl,h3⟩
 ·rw [h3];exact hK r M' w' h1 h2
 ·rw [h3];exact hK _ M' w' h1 h2
theorem aag{o:Op}{f:eX->Tm->List VB->Nat->Option Out}(ho:dw P Gl o = .me f)(hv:f call T h n=some out)(hc:lK P Gl B call)(ht:Ops M T a.eval o.operands.toList)(hx:Cx P Gl B h M n out w){K:Act->World->Prop}(hK : ∀ r M' w',VR M' out.v r->dm P B h M M' n out.n out.R out.D w w'->K (a.put dst r) w'):mO P ⟨dst,o,ty,pos,bn,gd⟩ a w K:=by
 cases o with
 | alloc t =>
  unfold dw at ho;dsimp only at ho
  split at ho <;> cases ho
  cases hv;exact (Vq (by assumption) hx).wp hK
 | box t x =>
  cases ho;obtain ⟨u,h1,hv⟩:=bC.1 hv;obtain ⟨l,hv,h2⟩:=EU hv (ht.hd h1)
  cases hv;exact (VW h2 rfl hx).wp hK
 | buildSlice t l ps =>
  have ht:Ops M T a.eval (ps.toList.map (·.2)):=by simpa [Op.operands] using ht
  unfold dw at ho;dsimp only at ho
  split at ho
  ·split at ho
   ·rcases dH.1 ho with ⟨h0,ho⟩ | ⟨_,ho⟩ <;> cases ho
    obtain ⟨vs,h1,hv⟩:=bC.1 hv;obtain ⟨c,h2,hv⟩:=bC.1 hv
    cases hv;obtain ⟨h3,h4⟩:=Bool.and_eq_true_iff.1 h0;exact (VY (by assumption) (by assumption) (by assumption) h3 (ahm h4) (zx ht h1) h2 hx).wp hK
   ·cases ho
  ·cases ho
 | load t x =>
  unfold dw at ho;dsimp only at ho
  split at ho <;> cases ho
  ·obtain ⟨u,h1,hv⟩:=bC.1 hv
   obtain ⟨b,o,g,κ,rfl,h2,h3,hv⟩:=oW hv (ht.hd h1);obtain ⟨vs,h4,hv⟩:=bC.1 hv;obtain ⟨l,h5,hv⟩:=bC.1 hv
   cases hv;exact (ZY (by assumption) (by assumption) h3 h2 h4 h5 hx).wp hK
  ·obtain ⟨u,h1,hv⟩:=bC.1 hv
   obtain ⟨b,o,g,κ,rfl,h2,h3,hv⟩:=oW hv (ht.hd h1);obtain ⟨vs,h4,hv⟩:=bC.1 hv;obtain ⟨l,h5,hv⟩:=bC.1 hv
   cases hv;exact (ZZ (by assumption) h3 h2 h4 h5 hx).wp hK
 | store t x y =>
  unfold dw at ho;dsimp only at ho
  split at ho <;> cases ho
  obtain ⟨u,h1,hv⟩:=bC.1 hv;obtain ⟨u',h1',hv⟩:=bC.1 hv;obtain ⟨b,o,g,κ,rfl,h2,h3,hv⟩:=oW hv (ht.hd h1);obtain ⟨l,hv,h4⟩:=EU hv (ht.tl.hd h1');obtain ⟨bb,h5,hv⟩:=bC.1 hv;obtain ⟨h6,hv⟩:=bZ.1 hv;obtain ⟨vs,h7,hv⟩:=bC.1 hv
  cases hv;exact (adH (by assumption) h3 rfl h4 h2 h5 h6 h7 hx).wp hK
 | convert s d x=>exact (WM ho hv ht hx).wp hK
 | makeSlice t l c =>
  unfold dw at ho;dsimp only at ho
  split at ho
  ·split at ho
   ·rcases dH.1 ho with ⟨h0,ho⟩ | ⟨_,ho⟩ <;> cases ho
    obtain ⟨k,h1,hv⟩:=bC.1 hv;obtain ⟨j,h2,hv⟩:=bC.1 hv;obtain ⟨h3,hv⟩:=bZ.1 hv;obtain ⟨h4,hv⟩:=bZ.1 hv
    cases hv;obtain ⟨h5,h6⟩:=Bool.and_eq_true_iff.1 h0;obtain ⟨kl,e1⟩:=rD h1 (fun _ h=>ht.hd h);obtain ⟨kc,e2⟩:=rD h2 (fun _ h=>ht.tl.hd h);exact (aaf (by assumption) (by assumption) (by assumption) (by assumption) (ahm h5) (aho h6) e1 e2 (aho h3) (aho h4) hx).wp hK
   ·cases ho
  ·cases ho
 | slice t x lo hi mx =>
  unfold dw at ho;rcases dH.1 ho with ⟨h0,ho⟩ | ⟨_,ho⟩ <;> cases ho
  have ht:Ops M T a.eval (x::(lo.toList++(hi.toList++mx.toList))):=by simpa [Op.operands] using ht
  refine (adA hv (fun y hy u hu => ?_) (fun y hy u hu => ?_) (fun y hy u hu => ?_) (fun y hy u hu => ?_) ?_ hx).wp hK
  ·exact ht y (by simp at hy;simp [hy]) u hu
  ·exact ht y (by simp [hy]) u hu
  ·exact ht y (by simp [hy]) u hu
  ·exact ht y (by simp [hy]) u hu
  ·simpa [Option.isSome_iff_ne_none] using h0
 | call c =>
  obtain ⟨ce,xs,eu⟩:=c
  cases ce with
  | builtin b =>
   unfold dw at ho;dsimp only at ho
   split at ho
   ·split at ho <;> cases ho
   ·cases ho
   ·cases ho
   ·rename_i x y t u hx1 hx2
    obtain ⟨rfl⟩:xs = #[x,y]:=by rw [<- hx1]
    obtain ⟨rfl⟩:eu = #[t,u]:=by rw [<- hx2]
    have ht:Ops M T a.eval [x,y]:=by simpa [Op.operands,Call.operands] using ht
    split at ho
    ·split at ho
     ·rcases dH.1 ho with ⟨h0,ho⟩ | ⟨_,ho⟩
      ·obtain ⟨h5,h6⟩:=Bool.and_eq_true_iff.1 h0
       split at ho <;> cases ho
       ·obtain ⟨s,h1,hv⟩:=bC.1 hv
        obtain ⟨v,h2,hv⟩:=bC.1 hv;exact (KR (by assumption) (by assumption) (by assumption) (by assumption) (ahm h5) (aho h6) (Nat.succ_pos _) ⟨fun _=>⟨_,by assumption⟩,fun e=>(by cases e)⟩ hv (ht.hd h1) (ht.tl.hd h2) hx).wp hK
       ·obtain ⟨s,h1,hv⟩:=bC.1 hv
        obtain ⟨v,h2,hv⟩:=bC.1 hv;exact (KR (by assumption) (by assumption) (by assumption) (by assumption) (ahm h5) (aho h6) (Nat.succ_pos _) ⟨fun e=>(by cases e),fun _=>by assumption⟩ hv (ht.hd h1) (ht.tl.hd h2) hx).wp hK
      ·cases ho
     ·cases ho
    ·cases ho
   ·rename_i x y t u hx1 hx2
    obtain ⟨rfl⟩:xs = #[x,y]:=by rw [<- hx1]
    obtain ⟨rfl⟩:eu = #[t,u]:=by rw [<- hx2]
    have ht:Ops M T a.eval [x,y]:=by simpa [Op.operands,Call.operands] using ht
    split at ho
    ·split at ho <;> cases ho
     obtain ⟨s,h1,hv⟩:=bC.1 hv;obtain ⟨v,h2,hv⟩:=bC.1 hv;exact (WO (by assumption) (by assumption) hv (ht.hd h1) (ht.tl.hd h2) hx).wp hK
    ·cases ho
   ·cases ho
  | value y =>
   cases ho;have ht:Ops M T a.eval (y::xs.toList):=by simpa [Op.operands,Call.operands] using ht
   obtain ⟨fv,h1,hv⟩:=bC.1 hv;obtain ⟨vs,h2,hv⟩:=bC.1 hv;have k1:=ht.hd h1
   split at hv
   ·obtain ⟨h0,hv⟩:=bZ.1 hv
    obtain ⟨ha,hb⟩:=Bool.and_eq_true_iff.1 h0;rw [Array.isEmpty_iff.1 ha,Array.isEmpty_iff.1 hb] at k1;obtain ⟨h3,h4⟩:=hc _ _ _ _ _ hv;have h5:=h4 M w _ (MN ht.tl h2) hx;unfold mO;have h6:=acH (P:=P) (w:=w) (dst:=dst) (ty:=ty) (pos:=pos) (bn:=bn) (gd:=gd) (eu:=eu) (l:=xs.toList) rfl h3 k1;rw [show xs.toList.toArray=xs by simp] at h6;rw [h6];refine Calls.mono h5 fun e w' he => ?_;obtain ⟨r,M',rfl,h7,h8⟩:=he;exact hK r M' w' h7 h8
   ·cases hv
  | invoke y z=>cases ho
 | move x=>cases ho
 | assign x=>cases ho
 | pick c x y=>cases ho
 | build t ps =>
  unfold dw at ho;dsimp only at ho
  split at ho
  ·split at ho <;> cases ho
  ·split at ho <;> cases ho
  ·cases ho
 | nilCheck x=>cases ho
 | binOp op t x y t' =>
  unfold dw at ho;dsimp only at ho
  split at ho <;> cases ho
 | unOp op t x=>unfold dw at ho;cases op <;> cases ho
 | makeInterface t x =>
  unfold dw at ho;rcases dH.1 ho with ⟨hc,ho⟩ | ⟨_,ho⟩ <;> cases ho
 | fieldAddr t x fi =>
  unfold dw at ho;dsimp only at ho
  split at ho <;> try cases ho
  split at ho <;> try cases ho
  split at ho <;> cases ho
 | field t x fi =>
  unfold dw at ho;dsimp only at ho
  split at ho <;> try cases ho
  split at ho <;> try cases ho
  split at ho <;> cases ho
 | indexAddr t x y =>
  unfold dw at ho;dsimp only at ho
  split at ho
  ·split at ho <;> cases ho
  ·split at ho <;> cases ho
  ·cases ho
 | index t x y =>
  unfold dw at ho;dsimp only at ho
  split at ho <;> cases ho
 | extract x i=>cases ho
 | makeFunc fn xs ys=>unfold dw at ho;dsimp only at ho;split at ho <;> cases ho
 | _=>cases ho
end
end Run
namespace Run
open Go Go.RowKit bJ
def Df(n:Nat)(ds:List Deferred)(w:World):Prop := ∃ l:List Nat,ds=l.map nH/\l.Nodup /\ ∀ D∈l,n<=D/\w.heap[D]? = some (.deferred (some []))
theorem Df.nil{n:Nat}{w:World} : Df n [] w:=⟨[],rfl,.nil,fun _ h=>by cases h⟩
theorem Df.same{n:Nat}{ds:List Deferred}{w w':World}(h:Df n ds w)(hs : ∀ (k:Nat) (o:Obj),w.heap[k]? = some o->o.isCells=false->w'.heap[k]? = some o):Df n ds w':=by
 obtain ⟨l,h1,h2,h3⟩:=h;exact ⟨l,h1,h2,fun D hD=>⟨(h3 D hD).1,hs D _ (h3 D hD).2 rfl⟩⟩
structure Rel(P:Program)(Gl:List VB)(B N m:Nat)(w0:World×(Nat->Option VB)×World×List Deferred)(M:Mp)(τ:Nat->Option V)(η:Nat->Option VB)(ω:Nat->Prop)(a:Act)(w:World):Prop where
 df:a.defers=w0.2.2.2/\Df w0.1.heap.size w0.2.2.2 w
 sz:a.tmps.size=N
 tm : ∀ t v,τ t=some v->VR M v (a.tmps.getD t undef)
 hp : ∀ i b,η i=some b->b.id=i/\Bk P B M w b
 bel:Below B w0.1 w
 keep : ∀ k,k<w0.1.heap.size->(∀ i,ω i -> ∀ g κ,M i=some (g,κ)->g≠k)->w.heap[k]? = w0.1.heap[k]?
 new : ∀ i b,η i=some b->b.st<2->¬ i<m -> ∀ g κ,M i=some (g,κ)->w0.1.heap.size<=g \/ ∃ j,ω j /\ ∃ κ',M j=some (g,κ')
 inj : ∀ i b j c,η i=some b->η j=some c->b.st<2->c.st<2 -> ∀ g κ κ',M i=some (g,κ)->M j=some (g,κ')->i=j
 om : ∀ j,ω j->j<m/\(∃ b,η j=some b) /\ ∃ b,w0.2.1 j=some b/\b.st<2
 wK : ∀ i b,η i=some b->i<m->b.st<2 -> ∃ b,w0.2.1 i=some b/\b.st<2
 size:B<=w.heap.size
 tabs:Tabs Gl B M w
 gm:GM M
 b0:B<=w0.1.heap.size
 bU:KeepsOthers w0.2.2.1 w
section
variable {P:Program} {B n n' N m:Nat} {M M':Mp} {w w':World} {w0:World×(Nat->Option VB)×World×List Deferred} {h:List VB} {R:List Nat} {Gl:List VB} {T:Tm} {out:Out} {call:eX} {a:Act} {τ τ':Nat->Option V} {η η':Nat->Option VB} {ω ω':Nat->Prop} {D:List VB}
theorem Qz{d t:Nat}{r:Value}(hd:d<a.tmps.size):(a.put (some d) r).tmps.getD t undef=if d=t then r else a.tmps.getD t undef:=by
 by_cases e:d=t
 ·subst e;simp [Act.put,hd]
 ·rw [if_neg e];simp [Act.put,ajc e]
theorem Rel.step(hr:Rel P Gl B N m w0 M τ η ω a w)(hc:dm P B h M M' n n' R D w w')(hmn:m<=n)(hfr : ∀ i,n<=i->i<n'->M i=none)(hR : ∀ i∈R,∀ b,get h i=some b->η i=some b){v:V}{r:Value}(hv:VR M' v r){dst:Option Tmp}(hd : ∀ d,dst=some d->d<N)(hτ : ∀ t u,τ' t=some u->(dst=some t/\u=v)\/(dst≠some t/\τ t=some u))(hη : ∀ i b,η' i=some b->(b∈D/\b.id=i)\/((∀ c∈D,c.id≠i)/\η i=some b))(Ac : ∀ i b,η i=some b -> ∃ b',η' i=some b')(Ad : ∀ b∈D,∃ b',η' b.id=some b')(hω : ∀ j,ω' j↔ω j\/(j<m /\ ∃ b∈D,b.id=j)):Rel P Gl B N m w0 M' τ' η' ω' (a.put dst r) w':=by
 have hM:M.le M':=ZP hfr hc.ext
 have zJ : ∀ {i g κ} {b:VB},η i=some b->b.st<2->M' i=some (g,κ)->M i=some (g,κ):=fun {i g κ b} hi hs hg=>by
  obtain ⟨e,hb⟩:=hr.hp i b hi;obtain ⟨g',κ',_,_,h1,_⟩:=hb hs;rw [e] at h1;have:=hM _ _ h1;rw [hg] at this;rw [h1];exact this.symm ▸ rfl
 have hold : ∀ b∈D,b.id<n -> ∃ b0,η b.id=some b0/\b0.st<2:=fun b hb hl=>by
  obtain ⟨h1,b0,h2,h3⟩:=hc.old b hb hl;exact ⟨b0,hR _ h1 _ h2,h3⟩
 have wW : ∀ {i g κ},i<n->M' i=some (g,κ)->M i=some (g,κ):=fun {i g κ} hi hg=>by rw [<- hg];exact (hc.ext i af).symm
 have hno:KeepsOthers w w':=⟨hc.bel.size,fun k o hk ho=>by
   refine (hc.keep k (ahD.1 hk).1 fun c zQ hcl g κ hg e => ?_).trans hk;subst e;obtain ⟨c0,h3,h4⟩:=hold c zQ hcl;obtain ⟨e,hb⟩:=hr.hp _ _ h3;obtain ⟨g',κ',rs,ext,e1,_,_,e4,_⟩:=hb h4;rw [e,hg] at e1;cases e1;rw [hk] at e4;cases e4;cases ho⟩
 refine ⟨?_,?_,fun t u hu => ?_,fun i b hi => ?_,hr.bel.trans hc.bel,fun k hk Gg => ?_,fun i b hi hs hm g κ hg => ?_,fun i b j c hi hj hs hs' g κ κ' hg hg' => ?_,fun j hj => ?_,fun i b hi him hs => ?_,ahk hr.size hc.bel.size,fun i b hi => ?_,fun g hg=>hM _ _ (hr.gm g hg),hr.b0,hr.bU.trans hno⟩
 ·refine ⟨?_,hr.df.2.same hno.same⟩
  cases dst <;> exact hr.df.1
 ·cases dst <;> simp [Act.put,hr.sz]
 ·rcases hτ t u hu with ⟨rfl,rfl⟩ | ⟨hne,h1⟩
  ·rw [Qz (by rw [hr.sz];exact hd t rfl),if_pos rfl];exact hv
  ·cases dst with
   | none=>exact (hr.tm t u h1).mono hM
   | some d =>
    rw [Qz (by rw [hr.sz];exact hd d rfl),if_neg (fun e=>hne (by rw [e]))];exact (hr.tm t u h1).mono hM
 ·rcases hη i b hi with ⟨h1,h2⟩ | ⟨h1,h2⟩
  ·exact ⟨h2,hc.blk b h1⟩
  ·obtain ⟨e,hb⟩:=hr.hp i b h2
   refine ⟨e,hb.mono hM fun g κ hs hg => ?_⟩
   have hlt:g<w.heap.size:=by
    obtain ⟨g',κ',rs,ext,e1,_,_,e4,_⟩:=hb hs;rw [hg] at e1;cases e1;exact (ahD.1 e4).1
   refine hc.keep g hlt fun c zQ hcl g' κ' hg' hgg => ?_;subst hgg;obtain ⟨c0,h3,h4⟩:=hold c zQ hcl;rw [e] at hg;exact h1 c zQ (hr.inj _ _ _ _ h3 h2 h4 hs _ _ _ hg' hg)
 ·have hk':k<w.heap.size:=ahr hk hr.bel.size
  rw [hc.keep k hk' fun b hb hl g κ hg => ?_]
  ·exact hr.keep k hk fun i hi g κ hg=>Gg i ((hω i).2 (.inl hi)) g κ (hM _ _ hg)
  ·by_cases hbm:b.id<m
   ·exact Gg b.id ((hω _).2 (.inr ⟨hbm,b,hb,rfl⟩)) g κ (hM _ _ hg)
   ·obtain ⟨b0,h1,h2⟩:=hold b hb hl
    rcases hr.new _ _ h1 h2 hbm g κ hg with h3 | ⟨j,h3,κ',h4⟩
    ·omega
    ·exact Gg j ((hω j).2 (.inl h3)) g κ' (hM _ _ h4)
 ·have key : ∀ {i:Nat} {b:VB} {κ:Nat},η i=some b->b.st<2->¬ i<m->M i=some (g,κ)->w0.1.heap.size<=g \/ ∃ j,ω' j /\ ∃ κ',M' j=some (g,κ'):=fun h1 h2 h3 h4=>by
   rcases hr.new _ _ h1 h2 h3 _ _ h4 with h5 | ⟨j,h5,κ',h6⟩
   ·exact .inl h5
   ·exact .inr ⟨j,(hω j).2 (.inl h5),κ',hM _ _ h6⟩
  rcases hη i b hi with ⟨h1,h2⟩ | ⟨h1,h2⟩
  ·subst h2
   by_cases hl:b.id<n
   ·obtain ⟨b0,h3,h4⟩:=hold b h1 hl
    exact key h3 h4 hm (wW hl hg)
   ·rcases (hc.new b h1 hl).2 hs g κ hg with h3 | ⟨c,h3,h4,κ',h5⟩
    ·exact .inl (ahk hr.bel.size h3)
    ·by_cases hcm:c.id<m
     ·exact .inr ⟨c.id,(hω _).2 (.inr ⟨hcm,c,h3,rfl⟩),κ',hM _ _ h5⟩
     ·obtain ⟨c0,h6,h7⟩:=hold c h3 h4
      exact key h6 h7 hcm h5
  ·exact key h2 hs hm (zJ h2 hs hg)
 ·have half : ∀ {i j:Nat} {b c:VB} {κ κ':Nat},b∈D->b.id=i->(∀ d∈D,d.id≠j)->η j=some c->b.st<2->c.st<2->M' i=some (g,κ)->M' j=some (g,κ')->i=j:=fun {i j b c κ κ'} h1 h2 h3 h4 hs hs' hg hg'=>by
   subst h2;have hg':=zJ h4 hs' hg'
   by_cases hl:b.id<n
   ·obtain ⟨b0,h5,h6⟩:=hold b h1 hl
    exact hr.inj _ _ _ _ h5 h4 h6 hs' _ _ _ (wW hl hg) hg'
   ·rcases (hc.new b h1 hl).2 hs g κ hg with h5 | ⟨d,h5,h6,agq,h7⟩
    ·obtain ⟨e,hb⟩:=hr.hp j c h4
     obtain ⟨g',_,rs,ext,e1,_,_,e4,_⟩:=hb hs';rw [e,hg'] at e1;cases e1;have:=(ahD.1 e4).1;omega
    ·obtain ⟨d0,h8,h9⟩:=hold d h5 h6
     exact absurd (hr.inj _ _ _ _ h8 h4 h9 hs' _ _ _ h7 hg') (h3 d h5)
  rcases hη i b hi with ⟨h1,h2⟩ | ⟨h1,h2⟩ <;> rcases hη j c hj with ⟨h3,h4⟩ | ⟨h3,h4⟩
  ·subst h2 h4;exact hc.inj b h1 c h3 hs hs' g κ κ' hg hg'
  ·exact half h1 h2 h3 h4 hs hs' hg hg'
  ·exact (half h3 h4 h1 h2 hs' hs hg' hg).symm
  ·exact hr.inj _ _ _ _ h2 h4 hs hs' _ _ _ (zJ h2 hs hg) (zJ h4 hs' hg')
 ·rcases (hω j).1 hj with h1 | ⟨h1,b,h2,rfl⟩
  ·obtain ⟨h2,⟨b,h3⟩,h4⟩:=hr.om j h1
   exact ⟨h2,Ac j b h3,h4⟩
  ·obtain ⟨b0,h3,h4⟩:=hold b h2 af
   exact ⟨h1,Ad b h2,hr.wK _ _ h3 h1 h4⟩
 ·rcases hη i b hi with ⟨h1,h2⟩ | ⟨h1,h2⟩
  ·subst h2
   obtain ⟨b0,h3,h4⟩:=hold b h1 af;exact hr.wK _ _ h3 him h4
  ·exact hr.wK i b h2 him hs
 ·obtain ⟨h1,h2,rs,ext,t,fz,h3,h4⟩:=hr.tabs i b hi
  exact ⟨h1,h2,rs,ext,t,fz,h3.mono fun _ _=>CR.mono hM,(hc.bel.block i h2).trans h4⟩
theorem Rel.turn(hr:Rel P Gl B N m w0 M τ η ω a w)(ht:Turned w0.1.heap.size w w')(a':Act)(wk:World){ds:List Deferred}(hd:a'.defers=ds/\Df w0.1.heap.size ds w')(hs:a'.tmps.size=N)(pJ : ∀ t v,τ' t=some v->VR M v (a'.tmps.getD t undef))(ho:KeepsOthers wk w') :
  Rel P Gl B N m (w0.1,w0.2.1,wk,ds) M τ' η ω a' w' :=
 ⟨hd,hs,pJ,fun i b hi=>⟨(hr.hp i b hi).1,fun hs=>by
  obtain ⟨g,κ,rs,ext,h1,h2,h3,h4,h5⟩:=(hr.hp i b hi).2 hs;exact ⟨g,κ,rs,ext,h1,h2,h3,ht.cells _ _ _ _ h4,h5⟩⟩,hr.bel.trans (ht.bel.mono hr.b0),fun k hk hω=>(ht.bel.block k hk).trans (hr.keep k hk hω),hr.new,hr.inj,hr.om,hr.wK,ahk hr.size ht.bel.size,
  fun i b hi=>by
   obtain ⟨h1,h2,rs,ext,t,fz,h3,h4⟩:=hr.tabs i b hi;exact ⟨h1,h2,rs,ext,t,fz,h3,ht.cells _ _ _ _ h4⟩,hr.gm,hr.b0,ho⟩
theorem Rel.cx(hr:Rel P Gl B N m w0 M τ η ω a w)(hfr : ∀ i,n<=i->i<out.n->M i=none)(hR : ∀ i∈out.R,∀ b,get h i=some b->η i=some b)(hn:nm<=n)(hl : ∀ i b,get h i=some b->i<n):Cx P Gl B h M n out w :=
 ⟨fun i hi b hb=>(hr.hp i b (hR i hi b hb)).2,hfr,hr.size,hr.tabs,hr.gm,hn,hl,fun i b j c hi hj hb hc=>hr.inj i b j c (hR i hi b hb) (hR j hj c hc)⟩
end
end Run
namespace Run
open Go Go.RowKit bJ
structure Z where
 T:Tm
 h:List VB
 n:Nat
 W:List Nat
theorem mem_eq{i:Nat}{l:List Nat} : mem i l=true↔i∈l:=by
 induction l with
 | nil=>exact ⟨fun h=>(by cases h),fun h=>(by cases h)⟩
 | cons j l ih =>
  show bf (Nat.beq i j) true (mem i l)=true↔_;rw [List.mem_cons]
  cases hb:Nat.beq i j with
  | true=>exact ⟨fun _ => .inl (ahm hb),fun _=>rfl⟩
  | false=>exact ⟨fun h => .inr (ih.1 h),fun h=>ih.2 (h.resolve_left (ah' hb))⟩
theorem tJ{l r:List Nat} : gU l r=true ↔ ∀ x∈l,x∈r->False:=by
 induction l with
 | nil=>exact ⟨fun _ _ h=>(by cases h),fun _=>rfl⟩
 | cons j l ih =>
  show bf (mem j r) false (gU l r)=true↔_
  cases hb:mem j r with
  | true=>exact ⟨fun h=>(by cases h),fun h=>absurd (mem_eq.1 hb) (h j ak)⟩
  | false =>
   refine ⟨fun h x hx => ?_,fun h=>ih.2 fun x hx=>h x (.tail _ hx)⟩;rcases List.mem_cons.1 hx with rfl | hx
   ·exact fun hr=>by rw [mem_eq.2 hr] at hb;cases hb
   ·exact ih.1 h x hx
theorem ids_eq{D:List VB}{i:Nat} : i∈ids D ↔ ∃ b∈D,b.id=i:=by
 induction D with
 | nil=>exact ⟨fun h=>(by cases h),fun ⟨_,h,_⟩=>(by cases h)⟩
 | cons b D ih =>
  show i∈b.id::ids D↔_;rw [List.mem_cons,ih];constructor
  ·rintro (rfl | ⟨c,h1,h2⟩)
   ·exact ⟨b,ak,rfl⟩
   ·exact ⟨c,.tail _ h1,h2⟩
  ·rintro ⟨c,h1,h2⟩
   rcases List.mem_cons.1 h1 with rfl | h1
   ·exact .inl h2.symm
   ·exact .inr ⟨c,h1,h2⟩
theorem Vo{D:List VB}{n:Nat}(h:qN D n=true) : ∀ b∈D,b.id<n:=by
 induction D with
 | nil=>intro b hb;cases hb
 | cons c D ih =>
  obtain ⟨h1,h2⟩:Nat.blt c.id n=true/\qN D n=true:=by
   have h:bf (Nat.blt c.id n) (qN D n) false=true:=h
   cases hb:Nat.blt c.id n with
   | true=>rw [hb] at h;exact ⟨rfl,h⟩
   | false=>rw [hb] at h;cases h
  intro b hb;rcases List.mem_cons.1 hb with rfl | hb
  ·simpa using h1
  ·exact ih h2 b hb
theorem put_eq{h:List VB}{c:VB}{i:Nat} : get (put h c) i=if c.id=i then some c else get h i:=by
 induction h with
 | nil =>
  show bf (Nat.beq c.id i) (some c) none=_
  by_cases e:c.id=i
  ·rw [if_pos e,e,Nat.beq_refl];rfl
  ·rw [if_neg e];cases hb:Nat.beq c.id i with
   | true=>exact absurd (ahm hb) e
   | false=>rfl
 | cons b h ih =>
  have hp:put (b::h) c=bf (Nat.beq b.id c.id) (c::h) (b::put h c):=rfl;have hg:get (b::h) i=bf (Nat.beq b.id i) (some b) (get h i):=rfl;rw [hp,hg]
  cases hb:Nat.beq b.id c.id with
  | true =>
   have e:=ahm hb;show bf (Nat.beq c.id i) (some c) (get h i)=_;rw [e]
   cases hi:Nat.beq c.id i with
   | true=>rw [if_pos (ahm hi)];rfl
   | false=>rw [if_neg (ah' hi)];rfl
  | false =>
   show bf (Nat.beq b.id i) (some b) (get (put h c) i)=_;rw [ih]
   by_cases e:c.id=i
   ·rw [if_pos e,if_pos e,<- e,hb];rfl
   ·rw [if_neg e,if_neg e]
theorem AZ{h:List VB}{i:Nat}{b:VB} : ∀ {D:List VB},get (puts h D) i=some b->(b∈D/\b.id=i)\/((∀ c∈D,c.id≠i)/\get h i=some b)
 | [],hg => .inr ⟨fun _ h=>(by cases h),hg⟩
 | c::D,hg=>by
  have hg:get (put (puts h D) c) i=some b:=hg;rw [put_eq] at hg
  by_cases e:c.id=i
  ·rw [if_pos e] at hg;cases hg;exact .inl ⟨ak,e⟩
  ·rw [if_neg e] at hg
   rcases AZ hg with ⟨h1,h2⟩ | ⟨h1,h2⟩
   ·exact .inl ⟨.tail _ h1,h2⟩
   ·refine .inr ⟨fun d hd => ?_,h2⟩
    rcases List.mem_cons.1 hd with rfl | hd
    ·exact e
    ·exact h1 d hd
theorem QA{h:List VB}{i:Nat} : ∀ {D:List VB},(∀ c∈D,c.id≠i)->get (puts h D) i=get h i
 | [],_=>rfl
 | c::D,hn=>by
  show get (put (puts h D) c) i=_;rw [put_eq,if_neg (hn c ak),QA fun d hd=>hn d (.tail _ hd)]
theorem xO{h:List VB}{i:Nat} : ∀ {D:List VB},(∃ b∈D,b.id=i)\/(∃ b,get h i=some b) -> ∃ b,get (puts h D) i=some b
 | [],hh=>by rcases hh with ⟨_,h,_⟩ | h;cases h;exact h
 | c::D,hh=>by
  show ∃ b,get (put (puts h D) c) i=some b;rw [put_eq]
  by_cases e:c.id=i
  ·rw [if_pos e];exact ⟨c,rfl⟩
  ·rw [if_neg e]
   refine xO (hh.imp (fun ⟨b,h1,h2⟩ => ?_) id);rcases List.mem_cons.1 h1 with rfl | h1
   ·exact absurd h2 e
   ·exact ⟨b,h1,h2⟩
theorem EG{m:Nat}{W:List Nat}{j:Nat} : ∀ {D:List VB},j∈fZ m D W↔j∈W\/(j<m /\ ∃ b∈D,b.id=j)
 | []=>⟨.inl,fun h=>h.resolve_right fun ⟨_,_,h,_⟩=>(by cases h)⟩
 | b::D=>by
  show j∈bf (Nat.blt b.id m) (bf (mem b.id (fZ m D W)) (fZ m D W) (b.id::fZ m D W)) (fZ m D W)↔_;have ih:=EG (m:=m) (W:=W) (j:=j) (D:=D)
  cases hb:Nat.blt b.id m with
  | true =>
   have hb':b.id<m:=by simpa using hb
   have hj:(j<m /\ ∃ c∈b::D,c.id=j)↔j=b.id\/(j<m /\ ∃ c∈D,c.id=j):=by
    constructor
    ·rintro ⟨h1,c,h2,h3⟩
     rcases List.mem_cons.1 h2 with rfl | h2
     ·exact .inl h3.symm
     ·exact .inr ⟨h1,c,h2,h3⟩
    ·rintro (rfl | ⟨h1,c,h2,h3⟩)
     ·exact ⟨hb',b,ak,rfl⟩
     ·exact ⟨h1,c,.tail _ h2,h3⟩
   rw [hj];show j∈bf (mem b.id (fZ m D W)) (fZ m D W) (b.id::fZ m D W)↔_
   cases hm:mem b.id (fZ m D W) with
   | true =>
    show j∈fZ m D W↔_;rw [ih];constructor
    ·rintro (h | h);exact .inl h;exact .inr (.inr h)
    ·rintro (h | rfl | h)
     ·exact .inl h
     ·exact ih.1 (mem_eq.1 hm)
     ·exact .inr h
   | false =>
    show j∈b.id::fZ m D W↔_;rw [List.mem_cons,ih];constructor
    ·rintro (h | h | h);exact .inr (.inl h);exact .inl h;exact .inr (.inr h)
    ·rintro (h | h | h);exact .inr (.inl h);exact .inl h;exact .inr (.inr h)
  | false =>
   show j∈fZ m D W↔_;rw [ih];refine or_congr_right ⟨fun ⟨h1,c,h2,h3⟩=>⟨h1,c,.tail _ h2,h3⟩,fun ⟨h1,c,h2,h3⟩ => ?_⟩;rcases List.mem_cons.1 h2 with rfl | h2
   ·subst h3;rw [show Nat.blt c.id m=true by simpa using h1] at hb;cases hb
   ·exact ⟨h1,c,h2,h3⟩
theorem oz{d:Option Nat}{v:V}{T:Tm}{t:Nat} : dP (fA d v T) t=if d=some t then some v else dP T t:=by
 cases d with
 | none=>rfl
 | some d =>
  show (Bool.rec (dP T t) (some v) (Nat.beq d t):Option V)=_
  cases hb:Nat.beq d t with
  | true=>rw [ahm hb,if_pos rfl]
  | false=>rw [if_neg fun e=>ah' hb (Option.some.inj e)]
def HL(h:List VB)(n:Nat):Prop := ∀ i b,get h i=some b->i<n
section
variable {P:Program} {B n n' N m:Nat} {M M':Mp} {w w':World} {w0:World×(Nat->Option VB)×World×List Deferred} {h:List VB} {R:List Nat} {Gl:List VB} {T:Tm} {out:Out} {call:eX} {a:Act} {τ τ':Nat->Option V} {η η':Nat->Option VB} {ω ω':Nat->Prop} {D:List VB} {ops:Array Oper} {s s':Z} {o:Oper}
def KD(call:eX)(cl:Cl)(s:Z)(out:Out):Prop:=(∃ f v,cl = .pv f/\f s.T=some v/\out=⟨v,[],s.n,[]⟩) \/ ∃ f,cl = .me f/\f call s.T s.h s.n=some out
def Wt(ops:Array Oper)(o:Oper)(T:Tm)(b:Bool):Prop:=match qC ops o with
 | .yes=>b=true
 | .uo g=>g T=some b
def Stp(P:Program)(Gl:List VB)(N m:Nat)(ops:Array Oper)(call:eX)(o:Oper)(s:Z)(x:Option Out)(s':Z):Prop:=(∀ d,o.dst=some d->d<N)/\match x with
 | none=>Wt ops o s.T false/\s'=⟨fA o.dst (.iZ []) s.T,s.h,s.n,s.W⟩
 | some out=>Wt ops o s.T true/\KD call (dw P Gl o.op) s out/\s.n<=out.n/\(∀ b∈out.D,b.id<out.n)/\s'=⟨fA o.dst out.v s.T,puts s.h out.D,out.n,fZ m out.D s.W⟩
theorem GV{l:List Operand}{t:Nat}(hx : .tmp t∈l):t∈tmpsOf l:=by
 induction l with
 | nil=>cases hx
 | cons y l ih =>
  rcases List.mem_cons.1 hx with rfl | hy
  ·exact ak
  ·cases y <;> first | exact .tail _ (ih hy) | exact ih hy
theorem abJ{t:Nat}(hx : .tmp t∈o.op.operands.toList):t∈reads ops o:=by
 unfold reads
 split
 ·exact GV hx
 ·split
  ·exact .tail _ (GV hx)
  ·exact GV hx
theorem ad3{r:Value}{t:Nat}(hr:a.tmps.getD t undef=r)(hn:r≠undef):a.tmps[t]? = some r:=by
 subst hr;rw [aix] at hn ⊢
 cases hh:a.tmps[t]? with
 | none=>rw [hh] at hn;exact absurd rfl hn
 | some u=>rfl
theorem Ju{b:Bool}(hw:Wt ops o T b)(hT : ∀ t∈reads ops o,∀ u,dP T t=some u->VR M u (a.tmps.getD t undef)):Region.wanted o (yielded ops a.tmps)=b:=by
 unfold Wt qC at hw;unfold Region.wanted;unfold reads at hT
 cases hg:o.guard with
 | none=>rw [hg] at hw;exact hw.symm
 | some g =>
  obtain ⟨j,want⟩:=g;rw [hg] at hw hT;dsimp only at hw hT ⊢;unfold yielded
  cases hd:(ops[j]?).bind (·.dst) with
  | none=>rw [hd] at hw;cases hw
  | some t =>
   rw [hd] at hw hT;dsimp only at hw hT;obtain ⟨v,h1,hw⟩:=bC.1 hw;have h2:=hT t ak v h1;rw [ah9]
   split at hw
   ·rename_i c
    have h2':a.tmps.getD t undef = .bool c:=h2;rw [ad3 h2' (by intro e;cases e)];rcases dH.1 hw with ⟨h3,hw⟩ | ⟨h3,hw⟩ <;> cases hw
    ·simpa using h3
    ·cases c <;> cases want <;> simp_all
   ·cases hw
    obtain ⟨rs,h3,h4⟩:=h2
    cases h3;rw [aix] at h4
    cases hh:a.tmps[t]? with
    | none=>simp
    | some u=>rw [hh] at h4;simp at h4;subst h4;simp
   ·cases hw
theorem P7(hs:Stp P Gl N m ops call o s (some out) s')(hc:lK P Gl B call)(hr:Rel P Gl B N m w0 M τ η ω a w)(hmn:m<=s.n)(hn:nm<=s.n)(hl:HL s.h s.n)(hfr : ∀ i,s.n<=i->i<out.n->M i=none)(hT : ∀ t∈reads ops o,∀ u,dP s.T t=some u->τ t=some u)(hH : ∀ i∈out.R,∀ b,get s.h i=some b->η i=some b)(hτ : ∀ t u,τ' t=some u->(o.dst=some t/\u=out.v)\/(o.dst≠some t/\τ t=some u))(hη : ∀ i b,η' i=some b->(b∈out.D/\b.id=i)\/((∀ c∈out.D,c.id≠i)/\η i=some b))(Ac : ∀ i b,η i=some b -> ∃ b',η' i=some b')(Ad : ∀ b∈out.D,∃ b',η' b.id=some b')(hω : ∀ j,ω' j↔ω j\/(j<m /\ ∃ b∈out.D,b.id=j)){K:Act->World->Prop}(hK : ∀ M' a' w',(∀ i,¬ (s.n<=i/\i<out.n)->M' i=M i)->Rel P Gl B N m w0 M' τ' η' ω' a' w'->K a' w'):mO P o a w K:=by
 obtain ⟨hd,hw,ho,hle,hlt,_⟩:=hs;obtain ⟨dst,op,ty,pos,bn,gd⟩:=o
 have ht:Ops M s.T a.eval op.operands.toList:=fun x hx u hu=>Fb hr.gm hu fun t u' e hu'=>by
  subst e;exact hr.tm t u' (hT t (abJ hx) u' hu')
 rcases ho with ⟨f,v,h1,h2,rfl⟩ | ⟨f,h1,h2⟩
 ·obtain ⟨r,h3,h4⟩:=abk (P:=P) (w:=w) (dst:=dst) (ty:=ty) (pos:=pos) (bn:=bn) (gd:=gd) h1 h2 ht
  unfold mO;rw [h4];exact hK M _ w (fun _ _=>rfl) (hr.step (dm.same (h:=[]) (n:=s.n) (R:=[])) hmn (fun i hi hi'=>absurd hi' af) (fun i hi=>by cases hi) h3 hd hτ hη Ac Ad hω)
 ·refine aag h1 h2 hc ht (hr.cx hfr hH hn hl) fun r M' w' h3 h4 => ?_
  exact hK M' _ w' h4.ext (hr.step h4 hmn hfr hH h3 hd hτ hη Ac Ad hω)
end
end Run
