/- Put together: CdtG, CdtD, CdtF. -/
import Derived.Test.YtogffkimgmlilaaGreatPfb25
set_option maxRecDepth 100000
set_option maxHeartbeats 8000000
set_option linter.all false
namespace Go.Proofs.YtogffkimgmlilaaGreat
open Go.RowKit Go.Sort _root_.Go.Proofs.Tryz
section
attribute [local go_sem] rOper rAt rUpon cell_set sg_i64 sg_u64 alloc_cell alloc_frozen
attribute [local go_sem 10000] pt_eql pt_neq tri_eql
attribute [local irreducible] rWalk
def badsD (E:Es) (W:List Wl) (D:Es):List Wl:=D.filterMap fun e=>if decide (cmpP e.1.1 e.1.2 < 0) && badD E W e.1.1 e.1.2 then some ⟨e.1.1,e.1.2,1⟩ else none
theorem zE5 (E:Es) (W:List Wl) (D F:Es):badsD E W (D ++ F)=badsD E W D ++ badsD E W F:=by unfold badsD;rw [List.filterMap_append]
theorem zId (E:Es) (W:List Wl) (u x:Pt) (T:Tri3):badsD E W [((u,x),T)]=if (decide (cmpP u x < 0) && badD E W u x)=true then [⟨u,x,1⟩] else []:=by
 unfold badsD;simp only [List.filterMap_cons,List.filterMap_nil];generalize (decide (cmpP u x < 0) && badD E W u x)=c
 cases c <;> rfl
theorem zLh (E:Es) (W:List Wl) (D:Es):(badsD E W D).length≤D.length:=List.length_filterMap_le _ _
theorem badsD_perm (E:Es) (W:List Wl) {D F:Es} (h:D.Perm F):(badsD E W D).Perm (badsD E W F):=h.filterMap _
theorem badsD_kind {E:Es} {W:List Wl} {D:Es} {x:Wl} (h:x∈badsD E W D):x.K=1:=by
 unfold badsD at h;rw [jDc] at h;obtain ⟨e,_,he⟩:=h;split at he
 ·simp only [jCh] at he;rw [←he]
 ·cases he
theorem zCh {L:List Wl} {X:Wl} (k:Nat):(L.take k ++ X :: L.drop k).Perm (X :: L):=by
 refine (jC2).trans ?_;rw [jBu]
theorem Frm.grown {w w':World} {b:Nat} (h:Frm w w' (· = b)):w.grownBy w' (some b):=⟨h.os,h.tape,h.output,h.size,fun i hi hn=>h.block i hi (fun e=>hn (by rw [e]))⟩
def BadPost (E:Es) (W:List Wl) (w:World) (e:Ending) (w':World):Prop:=∃ a c L,e=.returned (.slice a L.length c)∧L.Perm (badsD E W E)∧RowAt cW 5 w' a L∧Below w w w'
theorem rBad_any (mb b db:Nat) (a0:Option Addr) (c n:Nat) (E:Es) (W:List Wl) (hE:E.length≤100000) (hok:∀ e∈E,okW e.1) (w:World) (Bm:Box w mb [.map (some b)] 90) (Hm:HoldsMap eW eT okW w b E) (Dw:DocRd w db a0 c n W):Calls prog 14 #[pt0 mb,pt0 db] w (BadPost E W w):=by
 have cB:=fun p q hk w B H D=>zM2 mb b db a0 c n E W p q hk w B H D;have Fm:=Bm.f
 go_enter func14,ntmps14
 go_wp2_with (at_range;refine zB1 _ rfl _ rfl kvR rfl (Hm.alloc _) ?_)
 intro w0 HR0 hw0 hs0;have So0:DocAt w0 w.heap.size (.slice none 0 0) []:=⟨(Box.new rfl).ext hw0 (by simp),World.ownsRow_nil _ _ _ _,by simp [Value.ownBlock],by simp⟩;replace hw0:Below w w w0:=((Below.refl w.heap.size w).alloc (jA9 _) _).trans (hw0.mono (by simp));clear Fm;go_wp2
 go_loopw [] (fun wr=>∃ (D R:Es) (v:Value) (L:List Wl),Hid ((D ++ R).Perm E)∧Hid (L.Perm (badsD E W D))∧DocAt wr w.heap.size v L∧Ranging eW eT okW wr b (w.heap.size+1) E R∧Below w w wr) (fun wr=>wr.rangeLeft b (w.heap.size+1))
 case atStart=>exact ⟨[],E,_,[],hdd (by simp),hdd (.refl _),So0,by simpa using HR0,hw0⟩
 case round=>
  clear HR0 hw0 So0;obtain ⟨D,R,v,L,hD,hL,So,HR,hw⟩:=hrel;go_wp2_with (at_next;refine zB8 _ rfl _ rfl rfl HR ?_ ?_)
  ·intro hR;subst hR;have hp0:=hdd (show L.Perm (badsD E W E) from hL.out.trans (badsD_perm E W (by simpa using hD.out)));obtain ⟨a,c',rfl,Dr,_⟩:=So.rd;have Fo:=Dr.box.f;go_wp2
   go_ret
   exact ⟨a,c',L,rfl,hp0.out,Dr.row,hw⟩
  ·intro u x T R' w1 hperm HR1 hg1 hs1 hen;have hD2:=hdd (show ((D ++ [((u,x),T)]) ++ R').Perm E by have:=(hperm.append_left D).symm.trans hD.out;simpa using this);have hk:okW (u,x):=hok ((u,x),T) (hD2.out.mem_iff.1 (by simp));have So1:DocAt w1 w.heap.size v L:=⟨So.box.grown1 hg1,So.row.kept hg1 (.inr (fun e=>zAr So.row HR e.symm)),So.ne,So.le⟩;have hw1:=hw.grown hg1 hw.size (fun k hk=>by cases hk;omega);have HL:=hdd (show w1.rangeLeft b (w.heap.size+1) < wr.rangeLeft b (w.heap.size+1) by rw [zAc HR1,zAc HR,hperm.length_eq];simp);have hen2:(Instr.entry (.pointer (some ⟨w+1,0,none⟩))).run prog w1=.ok (.tuple #[.agg #[u.x,u.y,x.x,x.y],T]) w1:=hen;have hle:L.length < 1000000:=by have:=hL.out.length_eq;have:=zLh E W D;have:=hD2.out.length_eq;simp at *;omega
   have hgk:∀ X∈L,0≤X.K∧X.K≤2:=fun X hX=>by have:=badsD_kind (hL.out.mem_iff.1 hX);omega
   have HB:=hdd hw1.size;clear So HR hg1 hs1 hen hperm hw;go_wp2_with fail;refine zA4 fun W2 hW=>?_;have Be:Box W2 w1 [u.x,u.y,x.x,x.y] 92:=by rw [hW];exact Box.new rfl
   have hw2:Below w1 w1 W2:=by rw [hW];go_grown
   clear hW;have So2:=So1.ee hw2;have HR2:=HR1.ee hw2;have hwx:=(upB hw1 hw2);have HL2:=hdd (show W2.rangeLeft b (w.heap.size+1) < wr.rangeLeft b (w.heap.size+1) by rw [zAc HR2,←zAc HR1];exact HL.out);clear So1 HR1 hw1 hw2 HL HB;refine (zAe u x _).mono ?_;rintro e w3 ⟨rfl,hb⟩;replace Be:=Be.ee hb;replace So2:=So2.ee hb;have HR3:=HR2.ee hb;replace hwx:=upB hwx hb;have HL3:=hdd (show w3.rangeLeft b (w.heap.size+1) < wr.rangeLeft b (w.heap.size+1) by rw [zAc HR3,←zAc HR2];exact HL2.out);have HF:=hdd (fun (h1:decide (cmpP u x < 0)=false)=>show L.Perm (badsD E W (D ++ [((u,x),T)])) by
    rw [zE5,zId,h1,Bool.false_and,jA0 (by decide),jAs];exact hL.out)
   have HG:=hdd (fun (h1:badD E W u x=false)=>show L.Perm (badsD E W (D ++ [((u,x),T)])) by
    rw [zE5,zId,h1,Bool.and_false,jA0 (by decide),jAs];exact hL.out)
   have HH:=hdd (fun (h1:decide (cmpP u x < 0)=true) (h2:badD E W u x=true)=>show ∀ k,(L.take k ++ (⟨u,x,1⟩:Wl) :: L.drop k).Perm (badsD E W (D ++ [((u,x),T)])) from fun k=>by
    rw [zE5,zId,h1,h2,jCp,jAc rfl];exact (zCh k).trans ((hL.out.cons _).trans (jB5 (l₁:=[(⟨u,x,1⟩:Wl)]))))
   have hl6:L.length+1≤1000000:=hle;clear hb HR2 HL2 hL;have Fe:=Be.f;cases h1:decide (cmpP u x < 0) with
   | false=>
    have HQ:=hdd (HF.out h1);clear HF HG HH;go_wp2
    go_roundw
    case rel=>exact ⟨D ++ [((u,x),T)],R',v,L,hD2,HQ,So2,HR3,hwx⟩
    case measure=>exact HL3.out
   | true=>
    have HH:=hdd (HH.out h1);clear HF;go_wp2_with fail;refine (cB u x hk _ (Bm.ee hwx) HR3.holds (Dw.ee hwx)).mono ?_;rintro e w4 ⟨rfl,hb⟩;clear Fe;replace Be:=Be.ee hb;have So4:=So2.ee hb;have HR4:=HR3.ee hb;have hw4:=(upB hwx hb);have HL4:=hdd (show w4.rangeLeft b (w.heap.size+1) < wr.rangeLeft b (w.heap.size+1) by rw [zAc HR4,←zAc HR3];exact HL3.out);clear hb So2 HR3 hwx HL3;have Fe:=Be.f;cases h2:badD E W u x with
    | false=>
     have HQ:=hdd (HG.out h2);clear HG HH;go_wp2
     go_roundw
     case rel=>exact ⟨D ++ [((u,x),T)],R',v,L,hD2,HQ,So4,HR4,hw4⟩
     case measure=>exact HL4.out
    | true=>
     have HQ:=hdd (HH.out h2);clear HG HH h2;have cp:=zCt w.heap.size v L ⟨u,x,1⟩ hle hgk ⟨by show (0:Int)≤1;decide,by show (1:Int)≤2;decide⟩ w4 So4;go_wp2_with fail;refine cp.mono ?_;rintro e w5 ⟨k,v',rfl,hk5,So5,hf5,hv5⟩;have hg5:=hf5.grown;have HR5:=HR4.kept hg5 (fun e=>So4.box.ne_map HR4.holds (jAl e).symm) (by simp);have hw5:=hf5.below (n:=w.heap.size) (fun k hk=>Nat.le_of_eq hk.symm) hw4.size;have HL5:=hdd (show w5.rangeLeft b (w.heap.size+1) < wr.rangeLeft b (w.heap.size+1) by rw [zAc HR5,←zAc HR4];exact HL4.out);have HP:=hdd (HQ.out k);clear Fe cp HQ hf5 hg5;go_wp2
     go_roundw
     case rel=>exact ⟨D ++ [((u,x),T)],R',v',_,hD2,HP,So5,HR5,hw4.trans hw5⟩
     case measure=>exact HL5.out
attribute [local go_sem] rmap_nil
theorem zHk (mb b:Nat) (E:Es) (T:Tri3) (hk:okT T) (w:World) (Bm:Box w mb [.map (some b)] 90) (Hm:HoldsMap eW eT okW w b E):Calls prog 79 #[pt0 mb,T] w fun e w'=>e=.returned (.tuple #[])∧w.grownBy w' (some b)∧HoldsMap eW eT okW w' b (takeT E T):=by
 have ce:=zDa T
 go_enter func79,ntmps79
 go_wp2_with fail;refine qE1 fun W1 Bt hw=>?_;refine qC1 (ce _) Bt hw fun w2 Bt hw Ft=>?_;go_wp2_with fail;refine zA1 fun W3 hW=>?_;obtain ⟨bke,hbe⟩:∃ b,w2.heap.size=b:=⟨_,rfl⟩;rw [hbe];obtain ⟨lte,fe,Be,Bt,hw⟩:=qM1 hW hbe Bt hw;clear hW hbe;have BM:Box W3 (mb) [.map (some b)] 90:=Bm.ee hw;refine wp_loop_rounds 5 ?_;have HF:=Hm.ee hw;have hg:w.grownBy W3 (some b):=zA6 hw _;clear hw;try rw [rounds_succ]
 have Ft:=Bt.f;have Fe:=Be.f;have FM:=BM.f;go_wp2_with fail;have hw:Below W3 W3 W3:=Below.refl _ _;have g_teM:=J3 Bt.cells Be.cells BM.cells;refine rgn 7 (fun w4 hb=>?_);clear g_teM;clear Ft Fe FM;obtain ⟨Bt,Be,BM,hw,-⟩:=qX3 Bt Be BM hw hb;replace HF:=HF.ee hw;replace hg:=zA9 hg hw;clear hw;refine zC5 _ rfl _ _ rfl kvR rfl HF (T.A,T.B) rfl (okT_w hk).1 ?_;intro c0 HG hh hs;replace Bt:=Bt.turn HF hh;replace Be:=Be.turn HF hh;replace BM:=BM.turn HF hh;replace hg:=zAa hg hh;clear HF hh hs;have HF:=HG;clear HG;have F_teM:=J3 Bt.f Be.f BM.f;go_wp2_with fail;clear F_teM;try rw [rounds_succ]
 have Ft:=Bt.f;have Fe:=Be.f;have FM:=BM.f;go_wp2_with fail;have hw:Below c0 c0 c0:=Below.refl _ _;have g_teM:=J3 Bt.cells Be.cells BM.cells;refine rgn 7 (fun w5 hb=>?_);clear g_teM;clear Ft Fe FM;obtain ⟨Bt,Be,BM,hw,-⟩:=qX3 Bt Be BM hw hb;replace HF:=HF.ee hw;replace hg:=zA9 hg hw;clear hw;refine zC5 _ rfl _ _ rfl kvR rfl HF (T.B,T.C) rfl (okT_w hk).2.1 ?_;intro c1 HG hh hs;replace Bt:=Bt.turn HF hh;replace Be:=Be.turn HF hh;replace BM:=BM.turn HF hh;replace hg:=zAa hg hh;clear HF hh hs;have HF:=HG;clear HG;have F_teM:=J3 Bt.f Be.f BM.f;go_wp2_with fail;clear F_teM;try rw [rounds_succ]
 have Ft:=Bt.f;have Fe:=Be.f;have FM:=BM.f;go_wp2_with fail;have hw:Below c1 c1 c1:=Below.refl _ _;have g_teM:=J3 Bt.cells Be.cells BM.cells;refine rgn 7 (fun w6 hb=>?_);clear g_teM;clear Ft Fe FM;obtain ⟨Bt,Be,BM,hw,-⟩:=qX3 Bt Be BM hw hb;replace HF:=HF.ee hw;replace hg:=zA9 hg hw;clear hw;refine zC5 _ rfl _ _ rfl kvR rfl HF (T.C,T.A) rfl (okT_w hk).2.2 ?_;intro c2 HG hh hs;replace Bt:=Bt.turn HF hh;replace Be:=Be.turn HF hh;replace BM:=BM.turn HF hh;replace hg:=zAa hg hh;clear HF hh hs;have HF:=HG;clear HG;have F_teM:=J3 Bt.f Be.f BM.f;go_wp2_with fail;clear F_teM;try rw [rounds_succ]
 have Ft:=Bt.f;have Fe:=Be.f;have FM:=BM.f;go_wp2;refine bodyPost_end (results_none rfl _ _ _) rfl ⟨rfl,hg,HF⟩
end
section
attribute [local go_sem] rOper rAt rUpon cell_set sg_i64 sg_u64 alloc_cell alloc_frozen
attribute [local go_sem 10000] pt_eql pt_neq tri_eql
attribute [local irreducible] rWalk
theorem zM1 (mb b:Nat) (E:Es) (p q:Pt) (hk:okW (p,q)) (S R U V:Tri3) (C D:Pt) (h0:getE E (p,q)=some S) (h1:getE E (q,p)=some R) (hC:apx S p q=C) (hD:apx R p q=D) (o1:decide (ori p D C≤0)=false) (o2:decide (ori D q C≤0)=false) (hU:mk p D C=U) (hV:mk D q C=V) (he:getE E (D,C)=none) (hf:getE E (C,D)=none) (hc:okW (C,D)) (hS:okT S) (hR:okT R) (hu:okT U) (hv:okT V) (f1:freeE (takeT (takeT E S) R) U=true) (f2:freeE (putT (takeT (takeT E S) R) U) V=true) (w:World) (Bm:Box w mb [.map (some b)] 90) (Hm:HoldsMap eW eT okW w b E):Calls prog 41 #[pt0 mb,p,q] w fun e w'=>e=.returned (.int .i64 0)∧w.grownBy w' (some b)∧HoldsMap eW eT okW w' b (putT (putT (takeT (takeT E S) R) U) V):=by
 have cl:=zAj mb b E p q hk;have cr:=zAj mb b E q p ⟨hk.2,hk.1⟩;rw [lftE_some h0] at cl;rw [lftE_some h1] at cr;clear h0 h1;have ca:=zC2 S p q;have cb:=zC2 R p q;have c1:=zA3 p D C;have c2:=zA3 D q C;rw [hC] at ca;rw [hD] at cb;have cu:=zB4 p D C;have cv:=zB4 D q C;rw [hU] at cu;rw [hV] at cv;have ce:=zAj mb b E D C ⟨hc.2,hc.1⟩;have cf:=zAj mb b E C D hc;rw [lftE_none he] at ce;rw [lftE_none hf] at cf;have t1:=zHk mb b E S hS;have t2:=zHk mb b (takeT E S) R hR;have p1:=zHl mb b (takeT (takeT E S) R) U f1 hu;have p2:=zHl mb b (putT (takeT (takeT E S) R) U) V f2 hv;clear hU hV hC hD he hf hS hR hu hv f1 f2 hc
 go_enter func41,ntmps41
 go_wp2_with fail;refine qE2 fun W1 Bp Bq hw=>?_;refine qC2 (cl _ (Bm.ee hw) (Hm.ee hw)) Bp Bq hw fun w2 Bp Bq hw F_pq=>?_;go_wp2_with fail;clear F_pq;refine zA4 fun W3 hW=>?_;obtain ⟨bks,hbs⟩:∃ b,w2.heap.size=b:=⟨_,rfl⟩;rw [hbs];obtain ⟨lps,lqs,fs,Bs,Bp,Bq,hw⟩:=qM2 hW hbs Bp Bq hw;clear hW hbs;refine qC3 (cr _ (Bm.ee hw) (Hm.ee hw)) Bp Bq Bs hw fun w4 Bp Bq Bs hw F_pqs=>?_;go_wp2_with fail;clear F_pqs;refine zA1 fun W5 hW=>?_;obtain ⟨bkr,hbr⟩:∃ b,w4.heap.size=b:=⟨_,rfl⟩;rw [hbr];obtain ⟨lpr,lqr,lsr,fr,Br,Bp,Bq,Bs,hw⟩:=qM3 hW hbr Bp Bq Bs hw;clear hW hbr;have g_pqsr:=J4 Bp.cells Bq.cells Bs.cells Br.cells;refine zAq 10 [⟨8,11,54,[(),()]⟩,⟨9,12,54,[(),()]⟩] ?_ (by kernel_rfl) (by decide) (by decide) (by kernel_rfl) (by decide) (C:=fun w'=>∃ p:Regrown,w'=grow (redrawn W5 p.d) p.os) rgB ?_
 ·simp only [jBt];refine ⟨⟨_,rfl,rfl,rfl,rfl,fun ρ W=>by simp [execOp,go_sem]⟩,⟨_,rfl,rfl,rfl,rfl,fun ρ W=>by simp [execOp,go_sem]⟩,fun _ h=>(by cases h)⟩
 simp only [jBf,jCg,jAv,jD0,dropIdx,jC4,jC8,Nat.reduceBEq,Nat.reduceAdd,jCz,jD7,jD8,jBb,jDs,jDf];refine wkx ?_;intro w6 β hL;simp only [putD,jBy,jC0];have qc:=hL.box ⟨8,11,54,[(),()]⟩ (by simp) (by simp);simp only at qc;have qd:=hL.box ⟨9,12,54,[(),()]⟩ (by simp) (by simp);simp only at qd;have ncd:=hL.apart 11 (by simp) 12 (by simp) (by decide);have ndc:=hL.apart 12 (by simp) 11 (by simp) (by decide);have hb:=hL.below;have lp:=Bp.lt;have lq:=Bq.lt;have ls:=Bs.lt;have lr:=Br.lt;clear g_pqsr;replace Bp:=Bp.ee hb;replace Bq:=Bq.ee hb;replace Bs:=Bs.ee hb;replace Br:=Br.ee hb;have hw0:=hw.size;replace hw:=upB hw hb;clear hb hL;generalize β 11=bkc at *
 generalize β 12=bkd at *
 clear β;obtain ⟨fc,Bc⟩:=qc;obtain ⟨fd,Bd⟩:=qd;simp only [Act.put];have Fc:=Bc.f;have Fd:=Bd.f;have Fp:=Bp.f;have Fq:=Bq.f;have Fs:=Bs.f;have Fr:=Br.f;have epbkc:(w.heap.size=bkc)=False:=by simp;omega
 have epbkc':(bkc=w.heap.size)=False:=by simp;omega
 have epbkd:(w.heap.size=bkd)=False:=by simp;omega
 have epbkd':(bkd=w.heap.size)=False:=by simp;omega
 have eqbkc:(w.heap.size+1=bkc)=False:=by simp;omega
 have eqbkc':(bkc=w.heap.size+1)=False:=by simp;omega
 have eqbkd:(w.heap.size+1=bkd)=False:=by simp;omega
 have eqbkd':(bkd=w.heap.size+1)=False:=by simp;omega
 have esbkc:(bks=bkc)=False:=by simp;omega
 have esbkc':(bkc=bks)=False:=by simp;omega
 have esbkd:(bks=bkd)=False:=by simp;omega
 have esbkd':(bkd=bks)=False:=by simp;omega
 have erbkc:(bkr=bkc)=False:=by simp;omega
 have erbkc':(bkc=bkr)=False:=by simp;omega
 have erbkd:(bkr=bkd)=False:=by simp;omega
 have erbkd':(bkd=bkr)=False:=by simp;omega
 have ebkcbkd:(bkc=bkd)=False:=by simp;omega
 have ebkdbkc:(bkd=bkc)=False:=by simp;omega
 go_wp2_with fail;refine zA4 fun W7 hW=>?_;replace Bp:=sto Bp hW;replace Bq:=sto Bq hW;replace Bs:=sto Bs hW;replace Br:=sto Br hW;replace Bc:=sto Bc hW;replace Bd:=sto Bd hW;replace hw:=stw hw hW;clear Fc Fd;clear Fp Fq Fs Fr epbkc epbkc' epbkd epbkd' eqbkc eqbkc' eqbkd eqbkd' esbkc esbkc' esbkd esbkd' erbkc erbkc' erbkd erbkd' ebkcbkd ebkdbkc;clear hW;refine qK6 (c1 _) Bp Bq Bs Br Bc Bd hw fun w8 Bp Bq Bs Br Bc Bd hw=>?_;have Fp:=Bp.f;have Fq:=Bq.f;have Fs:=Bs.f;have Fr:=Br.f;have Fc:=Bc.f;have Fd:=Bd.f;go_wp2_with fail;clear Fp Fq Fs Fr Fc Fd;refine qK6 (c2 _) Bp Bq Bs Br Bc Bd hw fun w9 Bp Bq Bs Br Bc Bd hw=>?_;have Fp:=Bp.f;have Fq:=Bq.f;have Fs:=Bs.f;have Fr:=Br.f;have Fc:=Bc.f;have Fd:=Bd.f;go_wp2_with fail;clear Fp Fq Fs Fr Fc Fd;refine qC6 (cu _) Bp Bq Bs Br Bc Bd hw fun w10 Bp Bq Bs Br Bc Bd hw F_pqsrcd=>?_;go_wp2_with fail;clear F_pqsrcd;refine zA4 fun W11 hW=>?_;obtain ⟨bku,hbu⟩:∃ b,w10.heap.size=b:=⟨_,rfl⟩;rw [hbu];obtain ⟨lpu,lqu,lsu,lru,lcu,ldu,fu,Bu,Bp,Bq,Bs,Br,Bc,Bd,hw⟩:=qM6 hW hbu Bp Bq Bs Br Bc Bd hw;clear hW hbu;refine qC7 (cv _) Bp Bq Bs Br Bc Bd Bu hw fun w12 Bp Bq Bs Br Bc Bd Bu hw F_pqsrcdu=>?_;go_wp2_with fail;clear F_pqsrcdu;refine zA4 fun W13 hW=>?_;obtain ⟨bkv,hbv⟩:∃ b,w12.heap.size=b:=⟨_,rfl⟩;rw [hbv];obtain ⟨lpv,lqv,lsv,lrv,lcv,ldv,luv,fv,Bv,Bp,Bq,Bs,Br,Bc,Bd,Bu,hw⟩:=qM7 hW hbv Bp Bq Bs Br Bc Bd Bu hw;clear hW hbv;refine qC8 (ce _ (Bm.ee hw) (Hm.ee hw)) Bp Bq Bs Br Bc Bd Bu Bv hw fun w14 Bp Bq Bs Br Bc Bd Bu Bv hw F_pqsrcduv=>?_;go_wp2_with fail;clear F_pqsrcduv;refine zA4 fun W15 hW=>?_;obtain ⟨bko,hbo⟩:∃ b,w14.heap.size=b:=⟨_,rfl⟩;rw [hbo];obtain ⟨lpo,lqo,lso,lro,lco,ldo,luo,lvo,fo,Bo,Bp,Bq,Bs,Br,Bc,Bd,Bu,Bv,hw⟩:=qM8 hW hbo Bp Bq Bs Br Bc Bd Bu Bv hw;clear hW hbo;refine qC9 (cf _ (Bm.ee hw) (Hm.ee hw)) Bp Bq Bs Br Bc Bd Bu Bv Bo hw fun w16 Bp Bq Bs Br Bc Bd Bu Bv Bo hw F_pqsrcduvo=>?_;go_wp2_with fail;clear F_pqsrcduvo;refine zA4 fun W17 hW=>?_;obtain ⟨bkk,hbk⟩:∃ b,w16.heap.size=b:=⟨_,rfl⟩;rw [hbk];have lpk:=Bp.lt;rw [hbk] at lpk;have lqk:=Bq.lt;rw [hbk] at lqk;have lsk:=Bs.lt;rw [hbk] at lsk;have lrk:=Br.lt;rw [hbk] at lrk;have lck:=Bc.lt;rw [hbk] at lck;have ldk:=Bd.lt;rw [hbk] at ldk;have luk:=Bu.lt;rw [hbk] at luk;have lvk:=Bv.lt;rw [hbk] at lvk;have lok:=Bo.lt;rw [hbk] at lok;have fk:=hw.size;rw [hbk] at fk;have Bk:Box W17 bkk [(),(),(),(),(),()] 56:=by rw [hW];exact Box.new hbk.symm
 replace Bp:Box W17 w [p.x,p.y] 54:=by rw [hW];exact Bp.old _
 replace Bq:Box W17 (w+1) [q.x,q.y] 54:=by rw [hW];exact Bq.old _
 replace Bs:Box W17 (bks) [S.A.x,S.A.y,S.B.x,S.B.y,S.C.x,S.C.y] 56:=by rw [hW];exact Bs.old _
 replace Br:Box W17 (bkr) [R.A.x,R.A.y,R.B.x,R.B.y,R.C.x,R.C.y] 56:=by rw [hW];exact Br.old _
 replace Bc:Box W17 (bkc) [C.x,C.y] 54:=by rw [hW];exact Bc.old _
 replace Bd:Box W17 (bkd) [D.x,D.y] 54:=by rw [hW];exact Bd.old _
 replace Bu:Box W17 (bku) [U.A.x,U.A.y,U.B.x,U.B.y,U.C.x,U.C.y] 56:=by rw [hW];exact Bu.old _
 replace Bv:Box W17 (bkv) [V.A.x,V.A.y,V.B.x,V.B.y,V.C.x,V.C.y] 56:=by rw [hW];exact Bv.old _
 replace Bo:Box W17 (bko) [(),(),(),(),(),()] 56:=by rw [hW];exact Bo.old _
 replace hw:Below w w W17:=by have hl:=hw.size;rw [hW];go_grown
 clear hW hbk;have BM:=Bm.ee hw;have HF:=Hm.ee hw;have hg:w.grownBy W17 (some b):=zA6 hw _;clear hw Bm Hm;refine (t1 _ BM HF).mono ?_;rintro e c18 ⟨rfl,hh,HG⟩;replace Bp:=Bp.turn HF hh;replace Bq:=Bq.turn HF hh;replace Bs:=Bs.turn HF hh;replace Br:=Br.turn HF hh;replace Bc:=Bc.turn HF hh;replace Bd:=Bd.turn HF hh;replace Bu:=Bu.turn HF hh;replace Bv:=Bv.turn HF hh;replace Bo:=Bo.turn HF hh;replace Bk:=Bk.turn HF hh;replace BM:=BM.turn HF hh;replace hg:=zAa hg hh;clear HF hh;have HF:=HG;clear HG;have Fp:=Bp.f;have Fq:=Bq.f;have Fs:=Bs.f;have Fr:=Br.f;have Fc:=Bc.f;have Fd:=Bd.f;have Fu:=Bu.f;have Fv:=Bv.f;have Fo:=Bo.f;have Fk:=Bk.f;go_wp2_with fail;refine (t2 _ BM HF).mono ?_;rintro e c19 ⟨rfl,hh,HG⟩;clear Fp Fq Fs Fr Fc Fd Fu Fv Fo Fk;replace Bp:=Bp.turn HF hh;replace Bq:=Bq.turn HF hh;replace Bs:=Bs.turn HF hh;replace Br:=Br.turn HF hh;replace Bc:=Bc.turn HF hh;replace Bd:=Bd.turn HF hh;replace Bu:=Bu.turn HF hh;replace Bv:=Bv.turn HF hh;replace Bo:=Bo.turn HF hh;replace Bk:=Bk.turn HF hh;replace BM:=BM.turn HF hh;replace hg:=zAa hg hh;clear HF hh;have HF:=HG;clear HG;have Fp:=Bp.f;have Fq:=Bq.f;have Fs:=Bs.f;have Fr:=Br.f;have Fc:=Bc.f;have Fd:=Bd.f;have Fu:=Bu.f;have Fv:=Bv.f;have Fo:=Bo.f;have Fk:=Bk.f;go_wp2_with fail;refine (p1 _ BM HF).mono ?_;rintro e c20 ⟨rfl,hh,HG⟩;clear Fp Fq Fs Fr Fc Fd Fu Fv Fo Fk;replace Bp:=Bp.turn HF hh;replace Bq:=Bq.turn HF hh;replace Bs:=Bs.turn HF hh;replace Br:=Br.turn HF hh;replace Bc:=Bc.turn HF hh;replace Bd:=Bd.turn HF hh;replace Bu:=Bu.turn HF hh;replace Bv:=Bv.turn HF hh;replace Bo:=Bo.turn HF hh;replace Bk:=Bk.turn HF hh;replace BM:=BM.turn HF hh;replace hg:=zAa hg hh;clear HF hh;have HF:=HG;clear HG;have Fp:=Bp.f;have Fq:=Bq.f;have Fs:=Bs.f;have Fr:=Br.f;have Fc:=Bc.f;have Fd:=Bd.f;have Fu:=Bu.f;have Fv:=Bv.f;have Fo:=Bo.f;have Fk:=Bk.f;go_wp2_with fail;refine (p2 _ BM HF).mono ?_;rintro e w99 ⟨rfl,hh,HG⟩;clear Fp Fq Fs Fr Fc Fd Fu Fv Fo Fk;replace hg:=zAa hg hh;go_wp2
 go_ret
 exact ⟨rfl,hg,HG⟩
end
end Go.Proofs.YtogffkimgmlilaaGreat
