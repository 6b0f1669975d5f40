/- Put together: CdtJ, CdtK, CdtE, CdtH. -/
import Derived.Test.YtogffkimgmlilaaGreatPfb26
import Derived.Test.YtogffkimgmlilaaGreatPfb31
import Derived.Deep.LoopGhost
set_option maxRecDepth 100000
set_option maxHeartbeats 8000000
set_option linter.all false
namespace Go.Proofs.YtogffkimgmlilaaGreat
open _root_.Go.Proofs.Tryz
section
open Go.RowKit
theorem zBj {p:Pt} (h:vld p=true):okP p:=by
 rw [zAm] at h;have mn:IntKind.i64.min = -9223372036854775808:=by decide
 have mx:IntKind.i64.max=9223372036854775807:=by decide
 have key:∀ n:Int,0≤n→n < 16777216→okI n:=fun n h1 h2=>by
  show (decide (IntKind.i64.min≤n) && decide (n≤IntKind.i64.max))=true;rw [mn,mx];simp;omega
 exact ⟨key _ h.1.1 h.1.2,key _ h.2.1 h.2.2⟩
theorem zB7 {T:Tri3} (h:valT T=true):okT T:=by
 obtain ⟨va,vb,vc,_⟩:=zFk h;exact ⟨zBj va,zBj vb,zBj vc⟩
theorem isE_sym (p q:Pt) (x:Wl):isE p q x=isE q p x:=by unfold isE;exact Bool.or_comm _ _
theorem zCw (L:List Wl) (p q:Pt):kindD L p q=kindD L q p:=by
 unfold kindD;rw [show isE p q=isE q p from funext (isE_sym p q)]
def wll (D:List Wl) (a b:Pt):Prop:=kindD D a b≠0
theorem zD6 {T:Tri3} {a b c:Pt} (h:Cyc T a b c) (h1:a≠b) (h2:b≠c) (h3:c≠a):apx T a b=c∧apx T b a=c:=by
 have t:∀ p:Pt,peqI p.x p.y p.x p.y=true:=fun p=>pp rfl;unfold apx;rcases h with ⟨rfl,rfl,rfl⟩ | ⟨rfl,rfl,rfl⟩ | ⟨rfl,rfl,rfl⟩
 ·simp [t]
 ·rw [jAc ⟨zBr.2 h3,zBr.2 (Ne.symm h2)⟩,jAc ⟨zBr.2 (Ne.symm h2),zBr.2 h3⟩];exact ⟨rfl,rfl⟩
 ·simp [t,zBr.2 h3,zBr.2 (Ne.symm h2)]
theorem zLg {T:Tri3} {a b c:Pt} (h:Cyc T a b c) (d:Pt):circ T.A T.B T.C d=circ a b c d:=by
 rcases h with ⟨rfl,rfl,rfl⟩ | ⟨rfl,rfl,rfl⟩ | ⟨rfl,rfl,rfl⟩
 ·rfl
 ·exact (zIb T.A T.B T.C d).symm
 ·exact zIb T.C T.A T.B d
theorem zCb {E:Es} {T:Tri3} (h:fitsE E T=true):freeE E T=true:=by
 rw [zI3] at h;simp only [jA3] at h;exact h.1
structure Flips (E:Es) (p q:Pt) (S R U V:Tri3) (C D:Pt):Prop where
 h0:getE E (p,q)=some S
 h1:getE E (q,p)=some R
 hC:apx S p q=C
 hD:apx R p q=D
 o1:decide (ori p D C≤0)=false
 o2:decide (ori D q C≤0)=false
 hU:mk p D C=U
 hV:mk D q C=V
 he:getE E (D,C)=none
 hf:getE E (C,D)=none
 hc:okW (C,D)
 hS:okT S
 hR:okT R
 hu:okT U
 hv:okT V
 f1:freeE (takeT (takeT E S) R) U=true
 f2:freeE (putT (takeT (takeT E S) R) U) V=true
def flipE (E:Es) (S R U V:Tri3):Es:=putT (putT (takeT (takeT E S) R) U) V
section
variable {W H:Int} {E:Es} {L:List Tri3} {D:List Wl} (hW:W < 16777216) (hH:H < 16777216) {h:Pt→Int}
include hW hH
theorem Flp.go {K:Pt→Pt→Prop} {S R:Tri3} {M:List Tri3} {p q c d:Pt} (g:Good E L) (t:Tiles W H L) (f:Flp K L S R M p q c d):Flips E p q S R (mk p d c) (mk d q c) c d∧Good (flipE E S R (mk p d c) (mk d q c)) (mk c p d :: mk d q c :: M):=by
 have vb:∀ q,inBox W H q→vld q=true:=fun q hq=>by rw [zAm];unfold inBox at hq;omega
 obtain ⟨bp,bq,bc,bd⟩:=f.pts t;have mS:S∈L:=f.perm.mem_iff.2 (by simp);have mR:R∈L:=f.perm.mem_iff.2 (by simp);obtain ⟨n1,n2,n3⟩:=zAb (t.cyc_pos mS f.one);obtain ⟨m1,m2,m3⟩:=zAb (t.cyc_pos mR f.two);obtain ⟨u,v⟩:=f.news t hW hH;have t':=f.tiles t hW hH;have eU:mk p d c=mk c p d:=zJq c p d;have k1:=Good.takes (F:=[S,R]) (M:=M) (g.order f.perm);have k2:Good (takeT (takeT E S) R) M:=by
  have a1:=(Good.take (E:=E) (T:=S) (M:=R :: M) (g.order f.perm)).2;exact (Good.take (E:=takeT E S) (T:=R) (M:=M) a1).2
 have n0:=t'.once;have nn:∀ w∈ways (mk c p d),w ∉ M.flatMap ways:=fun w hw hm=>by
  rw [jA5,jAz] at n0;exact n0.2.2 w hw w (by rw [jA5];exact jBa _ hm) rfl
 obtain ⟨p1,p2⟩:=Good.put (E:=takeT (takeT E S) R) (T:=mk c p d) (M:=M) k2 u.2 nn;have nn2:∀ w∈ways (mk d q c),w ∉ (mk c p d :: M).flatMap ways:=fun w hw hm=>by
  rw [jA5,jAz] at n0;rw [jA5,jAg] at hm;rcases hm with hm | hm
  ·exact n0.2.2 w hm w (by rw [jA5];exact jB4 _ hw) rfl
  ·have:=n0.2.1;rw [jA5,jAz] at this;exact this.2.2 w hw w hm rfl
 obtain ⟨q1,q2⟩:=Good.put (E:=putT (takeT (takeT E S) R) (mk c p d)) (T:=mk d q c) (M:=mk c p d :: M) p2 v.2 nn2;rw [eU];refine ⟨⟨g.get.2 ⟨mS,f.one.way⟩,g.get.2 ⟨mR,f.two.way⟩,(zD6 f.one n1 n2 n3).1,(zD6 f.two m1 m2 m3).2,?_,?_,eU,rfl,g.get_none.2 (t.no_diag mS f.one f.left f.right),g.get_none.2 (t.no_diag mR f.two f.right f.left),⟨zBj (vb _ bc),zBj (vb _ bd)⟩,zB7 (g.val _ mS),zB7 (g.val _ mR),zB7 u.2,zB7 v.2,zCb p1,zCb q1⟩,q2.order (List.Perm.swap _ _ _)⟩
 ·rw [ori_v (vb _ bp) (vb _ bd) (vb _ bc)];have:=zA8 (det p d c);have e:det p d c=det c p d:=zAh c p d;have:=f.left;simp;omega
 ·rw [ori_v (vb _ bd) (vb _ bq) (vb _ bc)];have:=zA8 (det d q c);have:=f.right;simp;omega
theorem bad_go (hh:Hts h) (g:Good E L) (t:Tiles W H L) {p q:Pt} (hb:badD E D p q=true):∃ S R U V C D',Flips E p q S R U V C D'∧∃ L',Good (flipE E S R U V) L'∧Tiles W H L'∧Kept (wll D) L L'∧volS h L' < volS h L:=by
 unfold badD at hb;cases h1:getE E (p,q) with
 | none=>rw [lftE_none h1] at hb;simp at hb
 | some S=>
  cases h2:getE E (q,p) with
  | none=>rw [lftE_none h2] at hb;simp at hb
  | some R=>
   rw [lftE_some h1,lftE_some h2] at hb;simp only [jCp,jA3,jA4] at hb;obtain ⟨k0,kc⟩:=hb;obtain ⟨mS,wS⟩:=g.get.1 h1;obtain ⟨mR,wR⟩:=g.get.1 h2;obtain ⟨c,cS⟩:=zBd wS;obtain ⟨d,cR⟩:=zBd wR;obtain ⟨m1,m2,m3⟩:=zAb (t.cyc_pos mR cR);rw [(zD6 cR m1 m2 m3).2,zLg cS] at kc;obtain ⟨hp,M,f⟩:=t.flip_bad (K:=wll D) hW hH hh mS mR cS cR ⟨fun k=>k k0,fun k=>k (by rw [zCw];exact k0)⟩ kc;have go:=f.go hW hH g t;exact ⟨S,R,_,_,c,d,go.1,_,go.2,f.tiles t hW hH,f.kept t hW hH,f.less t hW hH hp⟩
theorem none_bad (g:Good E L) (t:Tiles W H L) (hb:badsD E D E=[]):Fixed W H (wll D) L:=by
 have vb:∀ q,inBox W H q→vld q=true:=fun q hq=>by rw [zAm];unfold inBox at hq;omega
 have main:∀ S∈L,∀ R∈L,∀ a b c d,Cyc S a b c→Cyc R b a d→¬ wll D a b→cmpP a b < 0→circ a b c d≠1:=by
  intro S hS R hR a b c d cS cR hk hc he;have e1:=g.get.2 ⟨hS,cS.way⟩;have e2:=g.get.2 ⟨hR,cR.way⟩;obtain ⟨m1,m2,m3⟩:=zAb (t.cyc_pos hR cR);have k0:kindD D a b=0:=jAd fun k=>hk k;have hbad:badD E D a b=true:=by
   unfold badD;rw [lftE_some e1,lftE_some e2];simp only [jCp,jA3,jA4];exact ⟨k0,by rw [(zD6 cR m1 m2 m3).2,zLg cS];exact he⟩
  have hm:((a,b),S)∈E:=zJw e1;have:(⟨a,b,1⟩:Wl)∈badsD E D E:=by
   unfold badsD;rw [jDc];exact ⟨_,hm,by simp [hbad,hc]⟩
  rw [hb] at this;cases this
 refine ⟨t,fun S hS R hR a b c d cS cR hk he=>?_⟩;have va:=vb _ (t.cyc_box hS cS);have vb':=vb _ (t.cyc_box hR cR);have p1:=t.cyc_pos hS cS;have p2:=t.cyc_pos hR cR;have nab:=zFi p1;have hs:=zA8 (key a - key b);have hck:=zCd va vb';by_cases hlt:cmpP a b < 0
 ·exact main S hS R hR a b c d cS cR hk hlt he
 ·have hne:key a≠key b:=fun e=>nab (zBo va vb' e);have hgt:cmpP b a < 0:=by
   rw [zCd vb' va];have:=zA8 (key b - key a);omega
  refine main R hR S hS b a d c cR cS (fun k=>hk (by unfold wll at *;rw [zCw];exact k)) hgt ?_;have vd:=vb _ (t.cyc_box hR cR.turn.turn);have vc:=vb _ (t.cyc_box hS cS.turn.turn);have o1:¬ ori a b c=0:=by rw [ori_v va vb' vc,zBk];omega
  have o2:¬ ori a b d=0:=by
   rw [ori_v va vb' vd,zBk];rw [zAd] at p2;omega
  have dc:d≠c:=by
   rintro rfl;rw [zAd] at p2;omega
  rw [zIa,zLf o1 o2 dc,he];rfl
end
end
section
open Go.RowKit Go.Sort
attribute [local go_sem] rOper rAt rUpon cell_set sg_i64 sg_u64 alloc_cell alloc_frozen
attribute [local go_sem 10000] pt_eql pt_neq tri_eql
attribute [local irreducible] rWalk
theorem cW_ne (x:Wl):cW x≠[]:=by simp [cW]
theorem DocRd.turn {w w':World} {db c n b:Nat} {a0:Option Addr} {L:List Wl} {E:Es} (S:DocRd w db a0 c n L) (H:HoldsMap eW eT okW w b E) (hg:w.grownBy w' (some b)):DocRd w' db a0 c n L:=
 ⟨S.box.turn H hg,S.row.turn cW_ne H hg,S.len,S.le,S.nc,S.flat⟩
theorem zJv {E:Es} {L:List Tri3} (g:Good E L):∀ e∈E,okW e.1:=fun e he=>by
 obtain ⟨w,T⟩:=e;obtain ⟨hT,hw⟩:=wys_mem.1 (g.perm.mem_iff.1 he);have ok:=okT_w (zB7 (g.val T hT));simp only [ways,jA1,jA6,jAw] at hw;rcases hw with rfl | rfl | rfl
 ·exact ok.1
 ·exact ok.2.1
 ·exact ok.2.2
structure RSt (W H:Int) (D:List Wl) (L:List Tri3) (E1:Es) (L1:List Tri3):Prop where
 good:Good E1 L1
 tiles:Tiles W H L1
 kept:Kept (wll D) L L1
def RepPost (W H:Int) (b:Nat) (D:List Wl) (L:List Tri3) (w:World) (e:Ending) (w':World):Prop:=
 e=.returned (.tuple #[])∧∃ E1 L1,w.grownBy w' (some b)∧HoldsMap eW eT okW w' b E1∧RSt W H D L E1 L1∧Fixed W H (wll D) L1
theorem rrepair_any (mb b db:Nat) (a0:Option Addr) (c n:Nat) (E:Es) (L:List Tri3) (D:List Wl) (W H:Int) (hW:W < 16777216) (hH:H < 16777216) (hL:L.length≤30000) (g:Good E L) (ti:Tiles W H L) (w:World) (Bm:Box w mb [.map (some b)] 90) (Hm:HoldsMap eW eT okW w b E) (Dw:DocRd w db a0 c n D):Calls prog 16 #[pt0 mb,pt0 db] w (RepPost W H b D L w):=by
 obtain ⟨h,hh⟩:=zNr;have S0:=hdd (show RSt W H D L E L from ⟨g,ti,Kept.refl _ _⟩);have HLL:=hdd hL;clear g ti hL
 go_enter func16,ntmps16
 go_wp2
 go_loopg [4] ((volS h L).toNat+1) (fun k v wr=>∃ (E1:Es) (L1:List Tri3) (ag:Bool),v=.bool ag∧HoldsMap eW eT okW wr b E1∧Hid (RSt W H D L E1 L1)∧Hid (ag=false→Fixed W H (wll D) L1)∧Hid (ag=true→(volS h L1).toNat < k)∧w.grownBy wr (some b))
 case atStart=>exact ⟨E,L,true,rfl,Hm,S0,hdd (fun e=>by cases e),hdd (fun _=>Nat.lt_succ_self _),zCa _ _⟩
 case round=>
  obtain ⟨E1,L1,ag,rfl,H1,hS,hF,hV,hg⟩:=hrel;cases ag with
  | false=>
   have HFX:=hdd (hF.out rfl);clear hF hV;go_wp2;exact bodyPost_end (results_none rfl _ _ _) rfl ⟨rfl,E1,L1,hg,H1,hS.out,HFX.out⟩
  | true=>
   have HV:=hdd (hV.out rfl);clear hV;have B1:=Bm.turn Hm hg;have D1:=Dw.turn Hm hg;have hlen:L1.length≤30000:=by rw [hS.out.kept.len];exact HLL.out
   have hE1:E1.length≤100000:=by rw [hS.out.good.len];omega
   have cB:=rBad_any mb b db a0 c n E1 D hE1 (zJv hS.out.good) wr B1 H1 D1;have hE2:=hdd hE1;clear hlen hE1 hF;go_wp2_with fail;refine cB.mono ?_;rintro e w2 ⟨a,cap,l,rfl,hl,hr,hb⟩;have hll:=hdd (show l.length≤100000 by rw [hl.length_eq];exact jAp (zLh E1 D E1) hE2.out);have HLB:=hdd hl;have g2:=zA9 hg hb;have H2:=H1.ee hb;clear cB hb hl B1 D1 H1 hE2;obtain ⟨m,hm⟩:∃ m,l.length=m:=⟨_,rfl⟩;have HM:=hdd hm;rw [hm] at hll;rw [hm];clear hm;go_wp2
   go_loopw [4,6] (fun v4 v6 wi=>∃ (i:Nat) (E2:Es) (L2:List Tri3) (ag:Bool),v4=.bool ag∧v6=.int .i64 i∧i≤m∧HoldsMap eW eT okW wi b E2∧Hid (RSt W H D L E2 L2)∧Hid ((i=0∧ag=false∧E2=E1∧L2=L1)∨(0 < i∧ag=true∧volS h L2 < volS h L1))∧RowAt cW 5 wi a l∧w.grownBy wi (some b)) (fun _ v6 _=>m - (intOf v6).toNat)
   case atStart=>exact ⟨0,E1,L1,false,rfl,rfl,jAt _,H2,hS,hdd (.inl ⟨rfl,rfl,rfl,rfl⟩),hr,g2⟩
   case round=>
    clear g2 H2 hr;obtain ⟨i,E2,L2,ag,rfl,rfl,hi,H2,hS2,hC,hr,g2⟩:=hrel;have hm1:=hll.out;by_cases hlt:i < m
    ·have hil:i < l.length:=by rw [HM.out];exact hlt
     have B2:=Bm.turn Hm g2;have D2:=Dw.turn Hm g2;obtain ⟨ad,A,ea,eA,hA⟩:=hr.five (j:=i) hil;have hmem:l[i]∈badsD E1 D E1:=HLB.out.mem_iff.1 (jAx hil);generalize l[i]=X at hA hmem
     obtain ⟨XA,XB,XK⟩:=X;have hk2:okW (XA,XB):=by
      unfold badsD at hmem;rw [jDc] at hmem;obtain ⟨e,he,hx⟩:=hmem;split at hx
      ·simp only [jCh,Wl.mk.injEq] at hx;have:=zJv hS.out.good e he;rw [←hx.1,←hx.2.1];exact this
      ·cases hx
     have HBAD:=hdd (show badD E1 D XA XB=true by
      unfold badsD at hmem;rw [jDc] at hmem;obtain ⟨e,he,hx⟩:=hmem;split at hx
      ·rename_i hc
       simp only [jCh,Wl.mk.injEq] at hx;simp only [jA3] at hc;rw [←hx.1,←hx.2.1];exact hc.2
      ·cases hx)
     have q0:(i:Int) < (m:Int):=by omega
     obtain ⟨s0,s1,s2,s3,s4⟩:=hA.cells;have cb:∀ d os,Calls prog 48 #[pt0 mb,pt0 db,XA,XB] (grow (redrawn wr d) os) fun e w'=>e=.returned (.bool (badD E2 D XA XB))∧Below (grow (redrawn wr d) os).heap.size (grow (redrawn wr d) os) w':=fun d os=>zM2 mb b db a0 c n E2 D XA XB hk2 _ (B2.ext (below_regrown wr d os) rfl) (H2.ext (below_regrown wr d os) rfl) (D2.ext (below_regrown wr d os) rfl);clear hmem;subst ea;cases hbd:badD E2 D XA XB with
     | false=>
      rw [hbd] at cb;have HNZ:=hdd (show 0 < i∧ag=true∧volS h L2 < volS h L1 by
       rcases hC.out with ⟨_,_,e1,_⟩ | k
       ·rw [e1,HBAD.out] at hbd;cases hbd
       ·exact k)
      clear hC HBAD hA hbd;go_wp2_with fail;refine wrt 25 (by kernel_rfl) (by kernel_rfl) ?_;simp only [tK1,tK0,dP1,dP0];refine wkx ?_;intro w4 hb;clear s0 s1 s2 s3 s4;have H4:=H2.ee hb;have r4:=hr.ee hb;have g4:=zA9 g2 hb;clear hb cb;go_wp2
      go_roundw
      case rel=>exact ⟨i+1,E2,L2,true,by rw [HNZ.out.2.1],by go_num,by omega,H4,hS2,hdd (.inr ⟨by omega,rfl,HNZ.out.2.2⟩),r4,g4⟩
      case measure=>simp [intOf];omega
     | true=>
      rw [hbd] at cb;obtain ⟨S,R,U,V,C,D',fl,L3,g3,t3,k3,v3⟩:=bad_go hW hH hh hS2.out.good hS2.out.tiles hbd;have HS3:=hdd (show RSt W H D L (flipE E2 S R U V) L3 from ⟨g3,t3,hS2.out.kept.trans k3⟩);have HV3:=hdd (show volS h L3 < volS h L1 by
       rcases hC.out with ⟨_,_,_,e2⟩ | ⟨_,_,k⟩
       ·rw [←e2];exact v3
       ·omega)
      have cf:=fun w0 B1 H1=>zM1 mb b E2 XA XB hk2 S R U V C D' fl.h0 fl.h1 fl.hC fl.hD fl.o1 fl.o2 fl.hU fl.hV fl.he fl.hf fl.hc fl.hS fl.hR fl.hu fl.hv fl.f1 fl.f2 w0 B1 H1
      change ∀ (w0:World) B1 H1,Calls _ _ _ _ fun e w'=>e=.returned (.int .i64 0)∧w0.grownBy w' (some b)∧HoldsMap eW eT okW w' b (flipE E2 S R U V) at cf
      clear hC HBAD hA hbd fl g3 t3 k3 v3;generalize flipE E2 S R U V=E3 at *
      go_wp2_with fail;refine wrt 25 (by kernel_rfl) (by kernel_rfl) ?_;simp only [tK1,tK0,dP1,dP0];refine wkx ?_;intro w4 hb;clear s0 s1 s2 s3 s4;have H4:=H2.ee hb;have r4:=hr.ee hb;have g4:=zA9 g2 hb;have B4:=B2.ee hb;clear hb cb;go_wp2_with fail;refine (cf _ B4 H4).mono ?_;rintro e w5 ⟨rfl,hg5,H5⟩;have r5:=r4.turn cW_ne H4 hg5;have g5:=zAa g4 hg5;clear cf hg5 H4 r4 g4 B4;go_wp2
      go_roundw
      case rel=>exact ⟨i+1,E3,L3,true,rfl,by go_num,by omega,H5,HS3,hdd (.inr ⟨by omega,rfl,HV3.out⟩),r5,g5⟩
      case measure=>simp [intOf];omega
    ·have q0:decide ((i:Int) < (m:Int))=false:=by simpa using hlt
     have him:i=m:=by omega
     have HE:=hdd (show (ag=false→Fixed W H (wll D) L2) by
      intro e;rcases hC.out with ⟨e0,_,_,e2⟩ | ⟨_,e1,_⟩
      ·have l0:l=[]:=jB8.1 (by rw [HM.out,←him,e0]);rw [e2];exact none_bad hW hH hS.out.good hS.out.tiles (List.Perm.eq_nil (by have:=HLB.out;rw [l0] at this;exact this.symm))
      ·rw [e] at e1;cases e1)
     have HT:=hdd (show (ag=true→(volS h L2).toNat < (volS h L1).toNat) by
      intro e;rcases hC.out with ⟨_,e1,_,_⟩ | ⟨_,_,k⟩
      ·rw [e] at e1;cases e1
      ·have:=hS2.out.tiles.vols hW hH hh;omega)
     clear hC;go_wp2
     go_roundg (volS h L1).toNat
     case measure=>exact HV.out
     case rel=>exact ⟨E2,L2,ag,rfl,H2,hS2,HE,HT,g2⟩
def cutOk (T:Tri3) (p:Pt):Bool:=hasP T p && (!peqI p.x p.y T.A.x T.A.y && (!peqI p.x p.y T.B.x T.B.y && !peqI p.x p.y T.C.x T.C.y))
def cutR (T:Tri3) (p:Pt):List Tri3:=if cutOk T p=true then cutP p T else []
def cutK (p:Pt) (T:Tri3):Nat→List Tri3
 | 0=>[]
 | k+1=>cutK p T k ++ part p (crn T k) (crn T (k+1))
theorem cutK3 (p:Pt) (T:Tri3):cutK p T 3=cutP p T:=by
 show (([] ++ part p T.A T.B) ++ part p T.B T.C) ++ part p T.C T.A=_;unfold cutP;simp
theorem zHr (p a b:Pt):(part p a b).length≤1:=by unfold part;split <;> simp
theorem zI7 (p:Pt) (T:Tri3):∀ k,(cutK p T k).length≤k
 | 0=>by simp [cutK]
 | k+1=>by
  have:=zI7 p T k;have:=zHr p (crn T k) (crn T (k+1));show (cutK p T k ++ _).length≤_;rw [jAa];omega
theorem zN4 (p:Pt) (T:Tri3):(cutP p T).length≤3:=by
 unfold cutP;have:=zHr p T.A T.B;have:=zHr p T.B T.C;have:=zHr p T.C T.A;simp only [jAa];omega
theorem rcut_no0 (T:Tri3) (p:Pt) (h0:hasP T p=false) (w:World):Calls prog 105 #[T,p] w fun e w'=>∃ a cap,e=.returned (.slice a 0 cap)∧RowAt cT 6 w' a []∧Below w w w':=by
 have cH:=zDs T p;rw [h0] at cH;clear h0
 go_enter func105,ntmps105
 go_wp2_with fail;refine qD2 fun W1 Bt Ba hw=>?_;refine wp_loop_rounds 2 ?_;try rw [rounds_succ]
 have F_ta:=J2 Bt.f Ba.f;go_wp2_with fail;clear F_ta;refine qC2 (cH _) Bt Ba hw fun w2 Bt Ba hw F_ta=>?_;go_wp2_with fail;refine (zCj none 0 0 [] (hdd rfl) (by omega) (by omega) _ (fun j x hx=>by cases hx)).mono ?_;rintro e w9 ⟨a,cap,rfl,hr,hb⟩;have e0:srt cmpT ([]:List Tri3)=[]:=jB8.1 (by rw [(srt_perm _).length_eq];rfl);rw [e0] at hr;go_wp2
 go_ret
 exact ⟨a,cap,rfl,hr,(upB hw hb)⟩
theorem rcut_no1 (T:Tri3) (p:Pt) (h0:hasP T p=true) (h1:peqI p.x p.y T.A.x T.A.y=true) (w:World):Calls prog 105 #[T,p] w fun e w'=>∃ a cap,e=.returned (.slice a 0 cap)∧RowAt cT 6 w' a []∧Below w w w':=by
 have cH:=zDs T p;rw [h0] at cH;clear h0
 go_enter func105,ntmps105
 go_wp2_with fail;refine qD2 fun W1 Bt Ba hw=>?_;refine wp_loop_rounds 2 ?_;try rw [rounds_succ]
 have F_ta:=J2 Bt.f Ba.f;go_wp2_with fail;clear F_ta;refine qC2 (cH _) Bt Ba hw fun w2 Bt Ba hw F_ta=>?_;go_wp2_with fail;refine (zCj none 0 0 [] (hdd rfl) (by omega) (by omega) _ (fun j x hx=>by cases hx)).mono ?_;rintro e w9 ⟨a,cap,rfl,hr,hb⟩;have e0:srt cmpT ([]:List Tri3)=[]:=jB8.1 (by rw [(srt_perm _).length_eq];rfl);rw [e0] at hr;go_wp2
 go_ret
 exact ⟨a,cap,rfl,hr,(upB hw hb)⟩
theorem rcut_no2 (T:Tri3) (p:Pt) (h0:hasP T p=true) (h1:peqI p.x p.y T.A.x T.A.y=false) (h2:peqI p.x p.y T.B.x T.B.y=true) (w:World):Calls prog 105 #[T,p] w fun e w'=>∃ a cap,e=.returned (.slice a 0 cap)∧RowAt cT 6 w' a []∧Below w w w':=by
 have cH:=zDs T p;rw [h0] at cH;clear h0
 go_enter func105,ntmps105
 go_wp2_with fail;refine qD2 fun W1 Bt Ba hw=>?_;refine wp_loop_rounds 2 ?_;try rw [rounds_succ]
 have F_ta:=J2 Bt.f Ba.f;go_wp2_with fail;clear F_ta;refine qC2 (cH _) Bt Ba hw fun w2 Bt Ba hw F_ta=>?_;go_wp2_with fail;refine (zCj none 0 0 [] (hdd rfl) (by omega) (by omega) _ (fun j x hx=>by cases hx)).mono ?_;rintro e w9 ⟨a,cap,rfl,hr,hb⟩;have e0:srt cmpT ([]:List Tri3)=[]:=jB8.1 (by rw [(srt_perm _).length_eq];rfl);rw [e0] at hr;go_wp2
 go_ret
 exact ⟨a,cap,rfl,hr,(upB hw hb)⟩
theorem rcut_no3 (T:Tri3) (p:Pt) (h0:hasP T p=true) (h1:peqI p.x p.y T.A.x T.A.y=false) (h2:peqI p.x p.y T.B.x T.B.y=false) (h3:peqI p.x p.y T.C.x T.C.y=true) (w:World):Calls prog 105 #[T,p] w fun e w'=>∃ a cap,e=.returned (.slice a 0 cap)∧RowAt cT 6 w' a []∧Below w w w':=by
 have cH:=zDs T p;rw [h0] at cH;clear h0
 go_enter func105,ntmps105
 go_wp2_with fail;refine qD2 fun W1 Bt Ba hw=>?_;refine wp_loop_rounds 2 ?_;try rw [rounds_succ]
 have F_ta:=J2 Bt.f Ba.f;go_wp2_with fail;clear F_ta;refine qC2 (cH _) Bt Ba hw fun w2 Bt Ba hw F_ta=>?_;go_wp2_with fail;refine (zCj none 0 0 [] (hdd rfl) (by omega) (by omega) _ (fun j x hx=>by cases hx)).mono ?_;rintro e w9 ⟨a,cap,rfl,hr,hb⟩;have e0:srt cmpT ([]:List Tri3)=[]:=jB8.1 (by rw [(srt_perm _).length_eq];rfl);rw [e0] at hr;go_wp2
 go_ret
 exact ⟨a,cap,rfl,hr,(upB hw hb)⟩
theorem rcut_yes (T:Tri3) (p:Pt) (h0:hasP T p=true) (h1:peqI p.x p.y T.A.x T.A.y=false) (h2:peqI p.x p.y T.B.x T.B.y=false) (h3:peqI p.x p.y T.C.x T.C.y=false) (w:World):Calls prog 105 #[T,p] w fun e w'=>∃ a cap,e=.returned (.slice a (srt cmpT (cutP p T)).length cap)∧(srt cmpT (cutP p T)).length≤cap∧RowAt cT 6 w' a (srt cmpT (cutP p T))∧Below w w w':=by
 have cH:=zDs T p;rw [h0] at cH;clear h0
 go_enter func105,ntmps105
 go_wp2_with fail;refine qD2 fun W1 Bt Ba hw=>?_
 go_loopw [5,6] (fun v i wr=>∃ (k:Nat) (j:Int),k≤3∧i=.int .i64 j∧Hid (j=k)∧wr.ownsRow (w.heap.size+2) 56 6 v (cutK p T k).length ((cutK p T k).flatMap cT)∧Box wr w [T.A.x,T.A.y,T.B.x,T.B.y,T.C.x,T.C.y] 56∧Box wr (w+1) [p.x,p.y] 54∧Below w w wr) (fun _ i _=>3 - (intOf i).toNat)
 case atStart=>exact ⟨0,0,by omega,rfl,hdd rfl,World.ownsRow_nil _ _ _ _,Bt,Ba,hw⟩
 case round=>
  clear Bt Ba hw;obtain ⟨k,j,hk,rfl,hj,hown,Bt,Ba,hw⟩:=hrel;have hk':k=0∨k=1∨k=2∨k=3:=by omega
  rcases hk' with rfl | rfl | rfl | rfl
  ·have hj:j=0:=by simpa using hj.out
   subst hj;have hq1:IntKind.i64.wrap (0+1)=1:=by decide
   have hq2:IntKind.i64.wrap 1=1:=by decide
   have c1:=zBc T 0;have c2:=zBc T 1;have c3:=zB4 (crn T 0) (crn T 1) p;have hst:cutK p T (0+1)=cutK p T 0 ++ part p (crn T 0) (crn T 1):=rfl;have hle:=zI7 p T 0;have HST:=hdd hst;have HLE:=hdd hle;clear hst hle;generalize eu:crn T 0=u at *
   generalize ev:crn T 1=v at *
   clear eu ev;obtain ⟨L1,hL1⟩:∃ L1,cutK p T 1=L1:=⟨_,rfl⟩;have HL1:=hdd hL1;rw [show cutK p T (0+1)=L1 from hL1] at HST;clear hL1;generalize cutK p T 0=L0 at *
   have Ft:=Bt.f;have Fa:=Ba.f;go_wp2_with fail;refine (cH _).mono ?_;rintro e w21 ⟨rfl,hb⟩;clear Ft Fa;replace Bt:=Bt.ee hb;replace Ba:=Ba.ee hb;replace hown:=zDd hown hb;replace hw:=upB hw hb;clear hb;by_cases h0:ori u v p=0
   ·rw [show (!decide (ori u v p=0))=false by simp [h0]] at c3;have HL:=hdd (show L1=L0 by rw [HST.out];unfold part;rw [jAc h0];simp);generalize mk u v p=X at *
    clear h0 HST;have Ft:=Bt.f;have Fa:=Ba.f;go_wp2_with fail;have g_ta:=J2 Bt.cells Ba.cells;refine rgl 12 7 46 (fun w41 bkz hb h1b h2b Bz=>?_);have ltz:=Bt.lt;have laz:=Ba.lt;have hw0z:=hw.size;clear g_ta;clear Ft Fa;obtain ⟨Bt,Ba,hw,-⟩:=qX2 Bt Ba hw hb;have fz:=h1b;have hwz:w.heap.size≤w21.heap.size:=hw0z;replace hown:=zDd hown hb;clear hb h1b h2b hw0z;simp only [Act.put];have Ft:=Bt.f;have Fa:=Ba.f;have Fz:=Bz.f;go_wp2
    go_roundw
    case rel=>exact ⟨1,1,by omega,by first | rfl | go_num,hdd rfl,by rw [HL1.out,HL.out];exact hown,Bt,Ba,hw⟩
    case measure=>simp [intOf]
   ·rw [show (!decide (ori u v p=0))=true by simp [h0]] at c3;have HL:=hdd (show L1=L0 ++ [mk u v p] by rw [HST.out];unfold part;rw [jA0 h0]);generalize mk u v p=X at *
    clear h0 HST;have Ft:=Bt.f;have Fa:=Ba.f;go_wp2_with fail;have g_ta:=J2 Bt.cells Ba.cells;refine rgl 12 7 46 (fun w41 bkz hb h1b h2b Bz=>?_);have ltz:=Bt.lt;have laz:=Ba.lt;have hw0z:=hw.size;clear g_ta;clear Ft Fa;obtain ⟨Bt,Ba,hw,-⟩:=qX2 Bt Ba hw hb;have fz:=h1b;have hwz:w.heap.size≤w21.heap.size:=hw0z;replace hown:=zDd hown hb;clear hb h1b h2b hw0z;simp only [Act.put];have Ft:=Bt.f;have Fa:=Ba.f;have Fz:=Bz.f;have HB:=hdd hw.size;go_wp2_with (at_builtin;refine zBb rfl _ _ rfl (w.heap.size+2) _ L0 rfl (hown.alloc _) (w41.heap.size) X rfl (Box.new (by simp)) (by have:=HLE.out;omega) (by have:=HB.out;have:=Ba.lt;simp;omega) ?_;intro w4 v4 hown4 hg4)
    have hlt:=fun k hk=>((hown.alloc (.cells (cT X).toArray 56)).lt k hk).1;have Bt4:=(Bt.old (.cells (cT X).toArray 56)).grown2 hg4 (fun k hk=>by have:=hlt k hk;omega);have Ba4:=(Ba.old (.cells (cT X).toArray 56)).grown2 hg4 (fun k hk=>by have:=hlt k hk;omega);have hw4:=(hw.alloc hw.size (.cells (cT X).toArray 56)).grown hg4 (by have:=hw.size;simp;omega) (fun k hk=>by have:=hlt k hk;omega)
    go_roundw
    case rel=>exact ⟨1,1,by omega,by first | rfl | go_num,hdd rfl,by rw [HL1.out,HL.out];exact hown4,Bt4,Ba4,hw4⟩
    case measure=>simp [intOf]
  ·have hj:j=1:=by simpa using hj.out
   subst hj;have hq1:IntKind.i64.wrap (1+1)=2:=by decide
   have hq2:IntKind.i64.wrap 2=2:=by decide
   have c1:=zBc T 1;have c2:=zBc T 2;have c3:=zB4 (crn T 1) (crn T 2) p;have hst:cutK p T (1+1)=cutK p T 1 ++ part p (crn T 1) (crn T 2):=rfl;have hle:=zI7 p T 1;have HST:=hdd hst;have HLE:=hdd hle;clear hst hle;generalize eu:crn T 1=u at *
   generalize ev:crn T 2=v at *
   clear eu ev;obtain ⟨L1,hL1⟩:∃ L1,cutK p T 2=L1:=⟨_,rfl⟩;have HL1:=hdd hL1;rw [show cutK p T (1+1)=L1 from hL1] at HST;clear hL1;generalize cutK p T 1=L0 at *
   have Ft:=Bt.f;have Fa:=Ba.f;go_wp2_with fail;refine (cH _).mono ?_;rintro e w21 ⟨rfl,hb⟩;clear Ft Fa;replace Bt:=Bt.ee hb;replace Ba:=Ba.ee hb;replace hown:=zDd hown hb;replace hw:=upB hw hb;clear hb;by_cases h0:ori u v p=0
   ·rw [show (!decide (ori u v p=0))=false by simp [h0]] at c3;have HL:=hdd (show L1=L0 by rw [HST.out];unfold part;rw [jAc h0];simp);generalize mk u v p=X at *
    clear h0 HST;have Ft:=Bt.f;have Fa:=Ba.f;go_wp2_with fail;have g_ta:=J2 Bt.cells Ba.cells;refine rgl 12 7 46 (fun w41 bkz hb h1b h2b Bz=>?_);have ltz:=Bt.lt;have laz:=Ba.lt;have hw0z:=hw.size;clear g_ta;clear Ft Fa;obtain ⟨Bt,Ba,hw,-⟩:=qX2 Bt Ba hw hb;have fz:=h1b;have hwz:w.heap.size≤w21.heap.size:=hw0z;replace hown:=zDd hown hb;clear hb h1b h2b hw0z;simp only [Act.put];have Ft:=Bt.f;have Fa:=Ba.f;have Fz:=Bz.f;go_wp2
    go_roundw
    case rel=>exact ⟨2,2,by omega,by first | rfl | go_num,hdd rfl,by rw [HL1.out,HL.out];exact hown,Bt,Ba,hw⟩
    case measure=>simp [intOf]
   ·rw [show (!decide (ori u v p=0))=true by simp [h0]] at c3;have HL:=hdd (show L1=L0 ++ [mk u v p] by rw [HST.out];unfold part;rw [jA0 h0]);generalize mk u v p=X at *
    clear h0 HST;have Ft:=Bt.f;have Fa:=Ba.f;go_wp2_with fail;have g_ta:=J2 Bt.cells Ba.cells;refine rgl 12 7 46 (fun w41 bkz hb h1b h2b Bz=>?_);have ltz:=Bt.lt;have laz:=Ba.lt;have hw0z:=hw.size;clear g_ta;clear Ft Fa;obtain ⟨Bt,Ba,hw,-⟩:=qX2 Bt Ba hw hb;have fz:=h1b;have hwz:w.heap.size≤w21.heap.size:=hw0z;replace hown:=zDd hown hb;clear hb h1b h2b hw0z;simp only [Act.put];have Ft:=Bt.f;have Fa:=Ba.f;have Fz:=Bz.f;have HB:=hdd hw.size;go_wp2_with (at_builtin;refine zBb rfl _ _ rfl (w.heap.size+2) _ L0 rfl (hown.alloc _) (w41.heap.size) X rfl (Box.new (by simp)) (by have:=HLE.out;omega) (by have:=HB.out;have:=Ba.lt;simp;omega) ?_;intro w4 v4 hown4 hg4)
    have hlt:=fun k hk=>((hown.alloc (.cells (cT X).toArray 56)).lt k hk).1;have Bt4:=(Bt.old (.cells (cT X).toArray 56)).grown2 hg4 (fun k hk=>by have:=hlt k hk;omega);have Ba4:=(Ba.old (.cells (cT X).toArray 56)).grown2 hg4 (fun k hk=>by have:=hlt k hk;omega);have hw4:=(hw.alloc hw.size (.cells (cT X).toArray 56)).grown hg4 (by have:=hw.size;simp;omega) (fun k hk=>by have:=hlt k hk;omega)
    go_roundw
    case rel=>exact ⟨2,2,by omega,by first | rfl | go_num,hdd rfl,by rw [HL1.out,HL.out];exact hown4,Bt4,Ba4,hw4⟩
    case measure=>simp [intOf]
  ·have hj:j=2:=by simpa using hj.out
   subst hj;have hq1:IntKind.i64.wrap (2+1)=3:=by decide
   have hq2:IntKind.i64.wrap 3=3:=by decide
   have c1:=zBc T 2;have c2:=zBc T 3;have c3:=zB4 (crn T 2) (crn T 3) p;have hst:cutK p T (2+1)=cutK p T 2 ++ part p (crn T 2) (crn T 3):=rfl;have hle:=zI7 p T 2;have HST:=hdd hst;have HLE:=hdd hle;clear hst hle;generalize eu:crn T 2=u at *
   generalize ev:crn T 3=v at *
   clear eu ev;obtain ⟨L1,hL1⟩:∃ L1,cutK p T 3=L1:=⟨_,rfl⟩;have HL1:=hdd hL1;rw [show cutK p T (2+1)=L1 from hL1] at HST;clear hL1;generalize cutK p T 2=L0 at *
   have Ft:=Bt.f;have Fa:=Ba.f;go_wp2_with fail;refine (cH _).mono ?_;rintro e w21 ⟨rfl,hb⟩;clear Ft Fa;replace Bt:=Bt.ee hb;replace Ba:=Ba.ee hb;replace hown:=zDd hown hb;replace hw:=upB hw hb;clear hb;by_cases h0:ori u v p=0
   ·rw [show (!decide (ori u v p=0))=false by simp [h0]] at c3;have HL:=hdd (show L1=L0 by rw [HST.out];unfold part;rw [jAc h0];simp);generalize mk u v p=X at *
    clear h0 HST;have Ft:=Bt.f;have Fa:=Ba.f;go_wp2_with fail;have g_ta:=J2 Bt.cells Ba.cells;refine rgl 12 7 46 (fun w41 bkz hb h1b h2b Bz=>?_);have ltz:=Bt.lt;have laz:=Ba.lt;have hw0z:=hw.size;clear g_ta;clear Ft Fa;obtain ⟨Bt,Ba,hw,-⟩:=qX2 Bt Ba hw hb;have fz:=h1b;have hwz:w.heap.size≤w21.heap.size:=hw0z;replace hown:=zDd hown hb;clear hb h1b h2b hw0z;simp only [Act.put];have Ft:=Bt.f;have Fa:=Ba.f;have Fz:=Bz.f;go_wp2
    go_roundw
    case rel=>exact ⟨3,3,by omega,by first | rfl | go_num,hdd rfl,by rw [HL1.out,HL.out];exact hown,Bt,Ba,hw⟩
    case measure=>simp [intOf]
   ·rw [show (!decide (ori u v p=0))=true by simp [h0]] at c3;have HL:=hdd (show L1=L0 ++ [mk u v p] by rw [HST.out];unfold part;rw [jA0 h0]);generalize mk u v p=X at *
    clear h0 HST;have Ft:=Bt.f;have Fa:=Ba.f;go_wp2_with fail;have g_ta:=J2 Bt.cells Ba.cells;refine rgl 12 7 46 (fun w41 bkz hb h1b h2b Bz=>?_);have ltz:=Bt.lt;have laz:=Ba.lt;have hw0z:=hw.size;clear g_ta;clear Ft Fa;obtain ⟨Bt,Ba,hw,-⟩:=qX2 Bt Ba hw hb;have fz:=h1b;have hwz:w.heap.size≤w21.heap.size:=hw0z;replace hown:=zDd hown hb;clear hb h1b h2b hw0z;simp only [Act.put];have Ft:=Bt.f;have Fa:=Ba.f;have Fz:=Bz.f;have HB:=hdd hw.size;go_wp2_with (at_builtin;refine zBb rfl _ _ rfl (w.heap.size+2) _ L0 rfl (hown.alloc _) (w41.heap.size) X rfl (Box.new (by simp)) (by have:=HLE.out;omega) (by have:=HB.out;have:=Ba.lt;simp;omega) ?_;intro w4 v4 hown4 hg4)
    have hlt:=fun k hk=>((hown.alloc (.cells (cT X).toArray 56)).lt k hk).1;have Bt4:=(Bt.old (.cells (cT X).toArray 56)).grown2 hg4 (fun k hk=>by have:=hlt k hk;omega);have Ba4:=(Ba.old (.cells (cT X).toArray 56)).grown2 hg4 (fun k hk=>by have:=hlt k hk;omega);have hw4:=(hw.alloc hw.size (.cells (cT X).toArray 56)).grown hg4 (by have:=hw.size;simp;omega) (fun k hk=>by have:=hlt k hk;omega)
    go_roundw
    case rel=>exact ⟨3,3,by omega,by first | rfl | go_num,hdd rfl,by rw [HL1.out,HL.out];exact hown4,Bt4,Ba4,hw4⟩
    case measure=>simp [intOf]
  ·have hj:j=3:=by simpa using hj.out
   subst hj;rw [cutK3 p T] at hown;obtain ⟨a1,c1,rfl,hc1,hr1⟩:=zAt zIc hown;have hle:=zN4 p T;have hlen:=hdd (show (cutP p T).length=(srt cmpT (cutP p T)).length from (srt_perm _).length_eq.symm);have Ft:=Bt.f;have Fa:=Ba.f;go_wp2_with fail;refine (zG4 _ _ _ _ (hdd rfl) (by omega) hc1 _ hr1).mono ?_;rintro e w9 ⟨a,cap,rfl,hcap,hr,hb⟩;go_wp2
   go_ret
   exact ⟨a,cap,by rw [hlen.out];rfl,by rw [←hlen.out];exact hcap,hr,(upB hw hb)⟩
theorem rcut_cap (T:Tri3) (p:Pt) (w:World):Calls prog 105 #[T,p] w fun e w'=>∃ a cap,e=.returned (.slice a (srt cmpT (cutR T p)).length cap)∧(srt cmpT (cutR T p)).length≤cap∧RowAt cT 6 w' a (srt cmpT (cutR T p))∧Below w w w':=by
 unfold cutR cutOk;have z:srt cmpT ([]:List Tri3)=[]:=jB8.1 (by rw [(srt_perm _).length_eq];rfl);cases h0:hasP T p with
 | false=>simpa [z] using rcut_no0 T p h0 w
 | true=>
  cases h1:peqI p.x p.y T.A.x T.A.y with
  | true=>simpa [z] using rcut_no1 T p h0 h1 w
  | false=>
   cases h2:peqI p.x p.y T.B.x T.B.y with
   | true=>simpa [z] using rcut_no2 T p h0 h1 h2 w
   | false=>
    cases h3:peqI p.x p.y T.C.x T.C.y with
    | true=>simpa [z] using rcut_no3 T p h0 h1 h2 h3 w
    | false=>simpa using rcut_yes T p h0 h1 h2 h3 w
theorem rcut_any (T : Tri3) (p : Pt) (w : World) :
    Calls prog 105 #[T,p] w fun e w'=>∃ a cap,e=.returned (.slice a (srt cmpT (cutR T p)).length cap)∧RowAt cT 6 w' a (srt cmpT (cutR T p))∧Below w w w':=(rcut_cap T p w).mono fun _ _ ⟨a,cap,h1,_,h3,h4⟩=>⟨a,cap,h1,h3,h4⟩
def starE (p:Pt) (E:Es):List Tri3:=(E.filter fun e=>decide (e.1.1=p)).map (·.2)
theorem zIi {p:Pt} {E F:Es} (h:E.Perm F):(starE p E).Perm (starE p F):=(h.filter _).map _
theorem zE1 (p:Pt) (E F:Es):starE p (E ++ F)=starE p E ++ starE p F:=by unfold starE;rw [jC9,jBn]
theorem zK6 (p:Pt) (E:Es):(starE p E).length≤E.length:=by unfold starE;rw [jCl];exact jCk _ _
theorem starE_yes {p:Pt} {e:(Pt×Pt)×Tri3} (h:e.1.1=p):starE p [e]=[e.2]:=by simp [starE,h]
theorem starE_no {p:Pt} {e:(Pt×Pt)×Tri3} (h:¬ e.1.1=p):starE p [e]=[]:=by simp [starE,h]
theorem zCe (mb b:Nat) (E:Es) (p:Pt) (hE:E.length≤1000000) (w:World) (Bm:Box w mb [.map (some b)] 90) (Hm:HoldsMap eW eT okW w b E):Calls prog 104 #[pt0 mb,p] w fun e w'=>∃ a cap,e=.returned (.slice a (srt cmpT (starE p E)).length cap)∧RowAt cT 6 w' a (srt cmpT (starE p E))∧Below w w w':=by
 have Fm:=Bm.f
 go_enter func104,ntmps104
 go_wp2_with (at_range;refine zB1 _ rfl _ rfl kvR rfl (Hm.alloc _) ?_)
 intro w0 HR0 hw0 hs0;have Bp0:Box w0 w [p.x,p.y] 54:=(Box.new rfl).ext hw0 (by simp);replace hw0:Below w w w0:=((Below.refl w.heap.size w).alloc (jA9 _) _).trans (hw0.mono (by simp));clear Fm;go_wp2
 go_loopw [5] (fun v wr=>∃ D R:Es,Hid ((D ++ R).Perm E)∧wr.ownsRow (w.heap.size+1) 56 6 v (starE p D).length ((starE p D).flatMap cT)∧Ranging eW eT okW wr b (w.heap.size+1) E R∧Box wr w [p.x,p.y] 54∧Below w w wr) (fun _ wr=>wr.rangeLeft b (w.heap.size+1))
 case atStart=>exact ⟨[],E,hdd (by simp),World.ownsRow_nil _ _ _ _,by simpa using HR0,Bp0,hw0⟩
 case round=>
  clear HR0 hw0 Bp0;obtain ⟨D,R,hD,hown,HR,Bp,hw⟩:=hrel;go_wp2_with (at_next;refine zB8 _ rfl _ rfl rfl HR ?_ ?_)
  ·intro hR;subst hR;have hp0:(starE p D).Perm (starE p E):=zIi (by simpa using hD.out);have hle:(starE p D).length≤1000000:=by have:=hp0.length_eq;have:=zK6 p E;omega
   have HS:=hdd (wholeT.srt_of_perm hp0);obtain ⟨a1,c1,rfl,hc1,hr1⟩:=zAt zIc hown;have hlen:=hdd (show (starE p D).length=(srt cmpT (starE p E)).length by rw [←HS.out];exact (srt_perm _).length_eq.symm);go_wp2_with fail;refine (zCj _ _ _ _ (hdd rfl) hle hc1 _ hr1).mono ?_;rintro e w2 ⟨a,cap,rfl,hr,hb⟩;go_wp2
   go_ret
   rw [HS.out] at hr;exact ⟨a,cap,by rw [hlen.out];rfl,hr,(upB hw hb)⟩
  ·intro u x T R' w1 hperm HR1 hg1 hs1 hen;have hD2:=hdd (show ((D ++ [((u,x),T)]) ++ R').Perm E by have:=(hperm.append_left D).symm.trans hD.out;simpa using this);have own1:=hown.kept hg1 (.inr (fun e=>zAr hown HR e.symm));have Bp1:=Bp.grown1 hg1;have hw1:=hw.grown hg1 hw.size (fun k hk=>by cases hk;omega);have HL:=hdd (show w1.rangeLeft b (w.heap.size+1) < wr.rangeLeft b (w.heap.size+1) by rw [zAc HR1,zAc HR,hperm.length_eq];simp);have hen2:(Instr.entry (.pointer (some ⟨w+1,0,none⟩))).run prog w1=.ok (.tuple #[.agg #[u.x,u.y,x.x,x.y],T]) w1:=hen;have hle:(starE p D).length≤1000000:=by have:=hD2.out.length_eq;have:=zK6 p D;simp at *;omega
   have HB:=hdd hw1.size;clear hown HR hg1 hs1 hen hperm hw Bp;have e1:(w.heap.size=w1.heap.size+1)=False:=by have:=Bp1.lt;simp;omega
   by_cases hA:u=p
   ·have hd:peqI u.x u.y p.x p.y=true:=zBe.2 hA;have HH:=hdd (show starE p (D ++ [((u,x),T)])=starE p D ++ [T] by rw [zE1,starE_yes hA]);clear hA;have Fp:=Bp1.f;have hb3:Below w1 w1 ((w1.alloc (.cells #[u.x,u.y,x.x,x.y] 92)).alloc (.cells (cT T).toArray 56)):=by go_grown
    have own3:=(own1.alloc (.cells #[u.x,u.y,x.x,x.y] 92)).alloc (.cells (cT T).toArray 56);go_wp2_with (at_builtin;refine zBb rfl _ _ rfl (w.heap.size+1) _ (starE p D) rfl (own3.alloc _) (w1.heap.size+1+1) T rfl (Box.new (by simp)) hle (by have:=HB.out;simp;omega) ?_;intro w4 v4 hown4 hg4)
    have hR3:=(HR1.ee hb3).kept (World.grownBy_alloc _ (.cells (cT T).toArray 56) none) (by simp) (by simp);have hR4:=hR3.kept hg4 (zB5 (own3.alloc _) hR3.holds) (zAr (own3.alloc _) hR3);have hw4:=((((upB hw1 hb3)).alloc (by have:=HB.out;simp;omega) (.cells (cT T).toArray 56))).grown hg4 (by have:=HB.out;simp;omega) (fun k hk=>by have:=((own3.alloc (.cells (cT T).toArray 56)).lt k hk).1;omega);have Bp4:=(((Bp1.old _).old _).old _).grown2 hg4 (fun k hk=>by have:=((own3.alloc (.cells (cT T).toArray 56)).lt k hk).1;omega)
    go_roundw
    case rel=>exact ⟨D ++ [((u,x),T)],R',hD2,by rw [HH.out];exact hown4,hR4,Bp4,hw4⟩
    case measure=>rw [zAc hR4,←zAc HR1];exact HL.out
   ·have hd:peqI u.x u.y p.x p.y=false:=by rw [←jBl,zBe];exact hA
    have HH:=hdd (show starE p (D ++ [((u,x),T)])=starE p D by rw [zE1,starE_no hA];simp);clear hA;have Fp:=Bp1.f;go_wp2
    go_roundw
    case rel=>exact ⟨D ++ [((u,x),T)],R',hD2,by rw [HH.out];exact (own1.alloc _).alloc _,HR1.ext (by go_grown) rfl,(Bp1.old _).old _,by have:=hw1.size;go_grown⟩
    case measure=>rw [zAc ((HR1.ext (w':=(w1.alloc _).alloc _) (by go_grown) rfl)),←zAc HR1];exact HL.out
end
end Go.Proofs.YtogffkimgmlilaaGreat
