import Derived.Test.YtmpfadapbbjbkaaGreatPgn7
import Derived.Test.YtmpfadapbbjbkaaGreatPgn5
set_option maxRecDepth 100000
set_option maxHeartbeats 8000000
set_option linter.all false
namespace Go.Proofs.YtmpfadapbbjbkaaGreat
open _root_.Go.Proofs.Tryz
section
open Go.RowKit
theorem tn {W H:Int} (hW0:0 < W) (hH0:0 < H) (hW:W < 16777216) (hH:H < 16777216) (k:Nat):∃ a b,sqW W H k=⟨a,b,2⟩/\GoodW (sqW W H k)/\((a=sqP W H k/\b=sqP W H (k+1))\/(a=sqP W H (k+1)/\b=sqP W H k)):=by
 have vb:∀ q,inBox W H q->vld q=true:=λq hq=>by rw [zj];unfold inBox at hq;omega
 have bx:∀ j,inBox W H (sqP W H j):=λj=>by unfold sqP inBox;(repeat' split) <;> simp only <;> omega
 have ne:sqP W H k≠sqP W H (k+1):=λe=>by
  have:=Pt.eq_iff.1 e;unfold sqP at this;have h4:k % 4=0\/k % 4=1\/k % 4=2\/k % 4=3:=by omega
  rcases h4 with h | h | h | h
  ·have h2:(k+1) % 4=1:=by omega
   simp [h,h2] at this;omega
  ·have h2:(k+1) % 4=2:=by omega
   simp [h,h2] at this;omega
  ·have h2:(k+1) % 4=3:=by omega
   simp [h,h2] at this;omega
  ·have h2:(k+1) % 4=0:=by omega
   simp [h,h2] at this;omega
 have hm:mkOk (sqP W H k) (sqP W H (k+1)) 2=true:=by
  unfold mkOk mkK;simp [ne,vb _ (bx k),vb _ (bx (k+1))]
 have e:sqW W H k=⟨lo2 (sqP W H k) (sqP W H (k+1)),hi2 (sqP W H k) (sqP W H (k+1)),2⟩:=by unfold sqW mkW;rw [J1 hm]
 refine ⟨_,_,e,by rw [e];exact X6 hm,?_⟩;unfold lo2 hi2;split
 ·exact .inr ⟨rfl,rfl⟩
 ·exact .inl ⟨rfl,rfl⟩
theorem ZO {W H:Int} (hW0:0 < W) (hH0:0 < H) {i j:Nat} (hi:i < 4) (hj:j < 4) (hij:i≠j):¬ ((sqP W H i=sqP W H j/\sqP W H (i+1)=sqP W H (j+1))\/(sqP W H i=sqP W H (j+1)/\sqP W H (i+1)=sqP W H j)):=by
 have hi':i=0\/i=1\/i=2\/i=3:=by omega
 have hj':j=0\/j=1\/j=2\/j=3:=by omega
 rcases hi' with rfl | rfl | rfl | rfl <;> rcases hj' with rfl | rfl | rfl | rfl <;> first | exact absurd rfl hij | (simp [sqP,Pt.eq_iff];omega)
theorem sqW_rim {W H:Int} (hW0:0 < W) (hH0:0 < H) (hW:W < 16777216) (hH:H < 16777216) (k:Nat):onRim W H (sqW W H k).A (sqW W H k).B:=by
 obtain ⟨a,b,e,_,h⟩:=tn hW0 hH0 hW hH k;rw [e];have hr:onRim W H (sqP W H k) (sqP W H (k+1)):=by
  unfold sqP onRim;have h4:k % 4=0\/k % 4=1\/k % 4=2\/k % 4=3:=by omega
  rcases h4 with h | h | h | h
  ·have h2:(k+1) % 4=1:=by omega
   simp [h,h2]
  ·have h2:(k+1) % 4=2:=by omega
   simp [h,h2]
  ·have h2:(k+1) % 4=3:=by omega
   simp [h,h2]
  ·have h2:(k+1) % 4=0:=by omega
   simp [h,h2]
 rcases h with ⟨rfl,rfl⟩ | ⟨rfl,rfl⟩
 ·exact hr
 ·exact tD hr
theorem Xi {W H:Int} (hW0:0 < W) (hH0:0 < H) (hW:W < 16777216) (hH:H < 16777216) {k:Nat} (hk:k < 4) (x:Wl) (hx:x∈(List.range k).map (sqW W H)) (e:x=mkW (sqP W H k) (sqP W H (k+1)) 2):False:=by
 obtain ⟨i,hi,rfl⟩:=JN.1 hx;rw [Jz] at hi
 change sqW W H i=sqW W H k at e
 obtain ⟨a,b,e1,_,h1⟩:=tn hW0 hH0 hW hH i;obtain ⟨c,d,e2,_,h2⟩:=tn hW0 hH0 hW hH k;rw [e1,e2] at e;simp only [Wl.mk.injEq,Va] at e;obtain ⟨rfl,rfl⟩:=e;refine ZO hW0 hH0 (by omega:i < 4) hk (by omega) ?_;rcases h1 with ⟨p1,p2⟩ | ⟨p1,p2⟩ <;> rcases h2 with ⟨q1,q2⟩ | ⟨q1,q2⟩
 ·exact .inl ⟨p1.symm.trans q1,p2.symm.trans q2⟩
 ·exact .inr ⟨p1.symm.trans q1,p2.symm.trans q2⟩
 ·exact .inr ⟨p2.symm.trans q2,p1.symm.trans q1⟩
 ·exact .inl ⟨p2.symm.trans q2,p1.symm.trans q1⟩
theorem winv_square {W H:Int} (hW0:0 < W) (hH0:0 < H) (hW:W < 16777216) (hH:H < 16777216) {L:List Tri3} (t:Tiles W H L) (hE:edgeL L ⟨0,0⟩ ⟨W,0⟩/\edgeL L ⟨W,0⟩ ⟨W,H⟩/\edgeL L ⟨W,H⟩ ⟨0,H⟩/\edgeL L ⟨0,H⟩ ⟨0,0⟩) {D:List Wl} (hP:D.Perm ((List.range 4).map (sqW W H))) (hR:Ris D):WInv L D:=by
 have he:∀ i,i < 4->edgeL L (sqP W H i) (sqP W H (i+1)):=λi hi=>by
  have hi':i=0\/i=1\/i=2\/i=3:=by omega
  rcases hi' with rfl | rfl | rfl | rfl
  ·exact hE.1
  ·exact hE.2.1
  ·exact hE.2.2.1
  ·exact hE.2.2.2
 have hs:∀ i,i < 4->edgeL L (sqW W H i).A (sqW W H i).B:=λi hi=>by
  obtain ⟨a,b,e,_,h⟩:=tn hW0 hH0 hW hH i;rw [e];rcases h with ⟨rfl,rfl⟩ | ⟨rfl,rfl⟩
  ·exact he i hi
  ·exact (he i hi).turn
 refine ⟨λx hx=>?_,hR,qV hP.symm ?_,λx hx=>?_⟩
 ·obtain ⟨i,_,rfl⟩:=JN.1 (hP.mem_iff.1 hx);obtain ⟨_,_,_,g,_⟩:=tn hW0 hH0 hW hH i;exact g
 ·unfold Apart;rw [Vq];have hn:(List.range 4).Pairwise (λa b=>a≠b):=List.nodup_range;refine List.Pairwise.imp_of_mem (λ{i j} hi hj hij=>?_) hn;rw [Jz] at hi hj;refine t.edges_apart hW hH (hs i hi) (hs j hj) ?_;obtain ⟨a,b,e1,_,h1⟩:=tn hW0 hH0 hW hH i;obtain ⟨c,d,e2,_,h2⟩:=tn hW0 hH0 hW hH j;rw [e1,e2];intro h;refine ZO hW0 hH0 hi hj hij ?_;rcases h with ⟨rfl,rfl⟩ | ⟨rfl,rfl⟩ <;> rcases h1 with ⟨p1,p2⟩ | ⟨p1,p2⟩ <;> rcases h2 with ⟨q1,q2⟩ | ⟨q1,q2⟩
  ·exact .inl ⟨p1.symm.trans q1,p2.symm.trans q2⟩
  ·exact .inr ⟨p1.symm.trans q1,p2.symm.trans q2⟩
  ·exact .inr ⟨p2.symm.trans q2,p1.symm.trans q1⟩
  ·exact .inl ⟨p2.symm.trans q2,p1.symm.trans q1⟩
  ·exact .inr ⟨p1.symm.trans q2,p2.symm.trans q1⟩
  ·exact .inl ⟨p1.symm.trans q2,p2.symm.trans q1⟩
  ·exact .inl ⟨p2.symm.trans q1,p1.symm.trans q2⟩
  ·exact .inr ⟨p2.symm.trans q1,p1.symm.trans q2⟩
 ·obtain ⟨i,hi,rfl⟩:=JN.1 (hP.mem_iff.1 hx);exact hs i (Jz.1 hi)
open Go.Sort
attribute [local go_sem] rOper rAt rUpon cell_set sg_i64 sg_u64 alloc_cell alloc_frozen
attribute [local go_sem 10000] pt_eql pt_neq tri_eql
attribute [local irreducible] rWalk
def NewCPostW (W H:Int) (w:World) (e:Ending) (w':World):Prop:=
 ∃ cb mb b db v E L D,e=.returned (.pointer (some ⟨cb,0,none⟩))/\CdtAt w' cb mb b db v W H E D/\CInvW W H E L D/\L.length=2/\(∀ q,someC L q↔q=⟨0,0⟩\/q=⟨W,0⟩\/q=⟨W,H⟩\/q=⟨0,H⟩)/\D.Perm [sqW W H 0,sqW W H 1,sqW W H 2,sqW W H 3]/\Below w w w'/\w.heap.size<=b/\w.heap.size<=db/\w.heap.size<=mb/\w.heap.size<=cb
theorem rnewcdtX_any (W H:Int) (hW0:0 < W) (hH0:0 < H) (hW:W < 16777216) (hH:H < 16777216) (w:World):Calls prog 36 #[W,H] w (NewCPostW W H w):=by
 have k1:decide (W < 1)=false:=by simp;omega
 have k2:decide (16777216<=W)=false:=by simp;omega
 have k3:decide (H < 1)=false:=by simp;omega
 have k4:decide (16777216<=H)=false:=by simp;omega
 have vb:∀ q,inBox W H q->vld q=true:=λq hq=>by rw [zj];unfold inBox at hq;omega
 have v0:vld (⟨0,0⟩:Pt)=true:=vb _ (by unfold inBox;simp only;omega);have v1:vld (⟨W,0⟩:Pt)=true:=vb _ (by unfold inBox;simp only;omega);have v2:vld (⟨W,H⟩:Pt)=true:=vb _ (by unfold inBox;simp only;omega);have v3:vld (⟨0,H⟩:Pt)=true:=vb _ (by unfold inBox;simp only;omega);have pWH:=JI hW0 hH0;have d1:0 < det (⟨0,0⟩:Pt) ⟨W,0⟩ ⟨W,H⟩:=by
  have:det (⟨0,0⟩:Pt) ⟨W,0⟩ ⟨W,H⟩=W * H:=by unfold det;grind
  omega
 have d2:0 < det (⟨0,0⟩:Pt) ⟨W,H⟩ ⟨0,H⟩:=by
  have:det (⟨0,0⟩:Pt) ⟨W,H⟩ ⟨0,H⟩=W * H:=by unfold det;grind
  omega
 obtain ⟨cX,vX⟩:=yG v0 v1 v2 d1;obtain ⟨cY,vY⟩:=yG v0 v2 v3 d2;have tS:=tiles_square hW0 hH0 cX cY;have o1:¬ ori (⟨0,0⟩:Pt) ⟨W,0⟩ ⟨W,H⟩=0:=by rw [ori_v v0 v1 v2,yY];omega
 have o2:¬ ori (⟨0,0⟩:Pt) ⟨W,H⟩ ⟨0,H⟩=0:=by rw [ori_v v0 v2 v3,yY];omega
 have c1:=yS ⟨0,0⟩ ⟨W,0⟩ ⟨W,H⟩;have c2:=yS ⟨0,0⟩ ⟨W,H⟩ ⟨0,H⟩;rw [show (!decide (ori (⟨0,0⟩:Pt) ⟨W,0⟩ ⟨W,H⟩=0))=true by simp [o1]] at c1;rw [show (!decide (ori (⟨0,0⟩:Pt) ⟨W,H⟩ ⟨0,H⟩=0))=true by simp [o2]] at c2;dsimp only at c1 c2;have HC:=hdd (show ∀ q,someC [mk ⟨0,0⟩ ⟨W,0⟩ ⟨W,H⟩,mk ⟨0,0⟩ ⟨W,H⟩ ⟨0,H⟩] q↔q=⟨0,0⟩\/q=⟨W,0⟩\/q=⟨W,H⟩\/q=⟨0,H⟩ from λq=>by
  simp only [k8,cX.cnr_iff,cY.cnr_iff,U5 (jA q),Jj];constructor
  ·rintro ((k | k | k) | (k | k | k)) <;> simp [k]
  ·rintro (k | k | k | k) <;> simp [k])
 generalize mk ⟨0,0⟩ ⟨W,0⟩ ⟨W,H⟩=X at *
 generalize mk ⟨0,0⟩ ⟨W,H⟩ ⟨0,H⟩=Y at *
 have hok:∀ T∈[X,Y],okT T:=λT hT=>by
  simp only [Km,JB,Jj] at hT;rcases hT with rfl | rfl
  ·exact ye vX
  ·exact ye vY
 have gp:=Good.puts (I:=[X,Y]) (E:=[]) (M:=[]) ⟨.refl _,List.nodup_nil,λT hT=>by cases hT⟩ (λT hT=>by
  simp only [Km,JB,Jj] at hT;rcases hT with rfl | rfl
  ·exact vX
  ·exact vY) tS.once
 have cn:=λa w0 R=>rnew_any a 2 2 [X,Y] (hdd rfl) (by omega) hok w0 R;have HT:=hdd tS;have HXY:=hdd (show edgeL [X,Y] ⟨0,0⟩ ⟨W,0⟩/\edgeL [X,Y] ⟨W,0⟩ ⟨W,H⟩/\edgeL [X,Y] ⟨W,H⟩ ⟨0,H⟩/\edgeL [X,Y] ⟨0,H⟩ ⟨0,0⟩ from ⟨.inl (y6 (by simp) cX.way),.inl (y6 (by simp) cX.turn.way),.inl (y6 (by simp) cY.turn.way),.inl (y6 (by simp) cY.turn.turn.way)⟩);have HG:=hdd gp;have cs:=rsquare_any W H;clear v0 v1 v2 v3 vb d1 d2 o1 o2 cX cY vX vY hok tS gp pWH
 go_enter func36,ntmps36
 go_wp2_with fail;refine (cs _).mono ?_;rintro e w1 ⟨rfl,hb⟩;have hw:=hb;clear hb;go_wp2_with fail;refine zI λW2 hW=>?_;obtain ⟨bkq,hbq⟩:∃ b,w1.heap.size=b:=⟨_,rfl⟩;rw [hbq];obtain ⟨fq,Bq,hw⟩:=qM0 hW hbq hw;clear hW hbq;refine qC1 (c1 _) Bq hw λw3 Bq hw Fq=>?_;go_wp2_with fail;clear Fq;refine zI λW4 hW=>?_;obtain ⟨bkx,hbx⟩:∃ b,w3.heap.size=b:=⟨_,rfl⟩;rw [hbx];obtain ⟨lqx,fx,Bx,Bq,hw⟩:=qM1 hW hbx Bq hw;clear hW hbx;refine qC2 (c2 _) Bq Bx hw λw5 Bq Bx hw RY=>?_;go_wp2_with fail;clear RY;refine zI λW9 hW=>?_;have R1:RowAt cT 6 W9 (some ⟨w5+1,0,none⟩) [X,Y]:=jy (S:=[X,Y]) (by rw [hW];exact Box.new (by simp));have Bq9:Box W9 bkq [(),(),W,(),W,H,(),H] 115:=by rw [hW];exact (Bq.old _).old _
 replace hw:Below w w W9:=by have:=hw.size;rw [hW];go_grown
 have lq:=Bq.lt;have lq9:=Bq9.lt;clear hW Bq Bx;refine (cn _ _ R1).mono ?_;rintro e w10 hpost;unfold RNewPost at hpost;obtain ⟨mb,b,rfl,BM,HM,hbl,hml,hb,_⟩ | ⟨_,_,h⟩:=hpost
 rotate_left
 ·exact absurd h (by rw [HG.o.1];simp)
 have Bq10:=Bq9.ee hb;have hw10:=(upB hw hb);have hl1:=hw.size;replace hbl:=JQ hl1 hbl;replace hml:=JQ hl1 hml;have lm:=BM.lt;have lb:=HM.lt;have lq10:=Bq10.lt;generalize (putRun [] [X,Y]).2=E at *
 have HG:=hdd HG.o.2;clear hb cn R1 Bq9 hw c1 c2 cs;go_wp2;refine zG λW11 hW=>?_;have So:DocAt W11 w10.heap.size (.slice none 0 0) []:=⟨by rw [hW];exact (Box.new rfl).old _,World.ownsRow_nil _ _ _ _,by simp [Value.ownBlock],by simp⟩;have Bc:Box W11 (w10+1) [W,H,pt0 mb,pt0 w10.heap.size] 46:=by rw [hW];exact Box.new (by simp)
 have Bq:Box W11 bkq [(),(),W,(),W,H,(),H] 115:=by rw [hW];exact (Bq10.old _).old _
 have Bm:Box W11 mb [.map (some b)] 93:=by rw [hW];exact (BM.old _).old _
 have Hm:Hs W11 b E:=by rw [hW];exact (HM.alloc _).alloc _
 have hw:Below w w W11:=by have:=hw10.size;rw [hW];go_grown
 have hws:=hw10.size;clear hW BM HM Bq10 hw10;obtain ⟨db,hdb⟩:∃ db,w10.heap.size=db:=⟨_,rfl⟩;rw [hdb] at So Bc lm lb lq10 hws;rw [hdb];clear hdb;have HP0:=hdd (show ([]:List Wl).Perm ((List.range 0).map (sqW W H))/\Ris ([]:List Wl) from ⟨.refl _,List.Pairwise.nil⟩)
 go_loopw [11] (λv11 wr=>∃ (k:Nat) (j:Int) (v:Value) (D:List Wl),k<=4/\v11=.int .i64 j/\Hi (j=k)/\DocAt wr db v D/\Hi (D.Perm ((List.range k).map (sqW W H))/\Ris D)/\Box wr bkq [(),(),W,(),W,H,(),H] 115/\Box wr (db+1) [W,H,pt0 mb,pt0 db] 46/\Box wr mb [.map (some b)] 93/\Hs wr b E/\Below w w wr) (λv11 _=>4 - (intOf v11).toNat)
 case atStart=>exact ⟨0,0,_,[],by omega,rfl,hdd rfl,So,HP0,Bq,Bc,Bm,Hm,hw⟩
 case round=>
  clear So Bq Bc Bm Hm hw HP0;obtain ⟨k,j,v,D,hk,rfl,hj,So,HP,Bq,Bc,Bm,Hm,hw⟩:=hrel;have hk':k=0\/k=1\/k=2\/k=3\/k=4:=by omega
  rcases hk' with rfl | rfl | rfl | rfl | rfl
  ·have hj:j=0:=by simpa using hj.o
   subst hj;have cw:=kv ⟨0,0⟩ ⟨W,0⟩ 2;have HZ:=hdd (show (List.range (0+1)).map (sqW W H)=(List.range 0).map (sqW W H) ++ [mkW ⟨0,0⟩ ⟨W,0⟩ 2] by rw [VA,QA];rfl);have hZk:=xu ⟨0,0⟩ ⟨W,0⟩;have HNE:=hdd (show ∀ x∈D,x≠mkW ⟨0,0⟩ ⟨W,0⟩ 2 from λx hx e=>Xi hW0 hH0 hW hH (k:=0) (by omega) x (HP.o.1.mem_iff.1 hx) e);dsimp only at cw;generalize mkW ⟨0,0⟩ ⟨W,0⟩ 2=Z at *
   generalize mkOk ⟨0,0⟩ ⟨W,0⟩ 2=zk at *
   have hq1:IntKind.i64.wrap (0+1)=1:=by decide
   have hq2:IntKind.i64.wrap 1=1:=by decide
   have Fq:=Bq.f;have Fc:=Bc.f;go_wp2_with fail;have gq:=Bq.cells;have gc:=Bc.cells;refine rgl5 12 12 75 (λw41 bkz hb h1b h2b Bz=>?_);have lqz:=Bq.lt;have lcz:=Bc.lt;have hw0z:=hw.size;clear gq gc;clear Fq Fc;obtain ⟨Bq,Bc,hw,-⟩:=qX2 Bq Bc hw hb;have fz:=h1b;have hwz:w.heap.size<=wr.heap.size:=hw0z;replace So:=So.ee hb;replace Bm:=Bm.ee hb;replace Hm:=Hm.ee hb;clear hb h1b h2b hw0z;simp only [Act.put];have GV:=J3 Bq.f Bc.f Bz.f;go_wp2_with fail;clear GV;have gc:=Bc.cells;have gz:=Bz.cells;refine rgn 5 (λw60 hb=>?_);clear gc gz;replace So:=So.ee hb;replace Bm:=Bm.ee hb;replace Hm:=Hm.ee hb;obtain ⟨Bq,Bc,hw,-⟩:=qX2 Bq Bc hw hb;clear hb Bz;have hlD:D.length=0:=by have:=HP.o.1.length_eq;simpa using this
   have hkD:∀ x∈D,0<=x.K/\x.K<=2:=λx hx=>by
    obtain ⟨i,_,rfl⟩:=JN.1 (HP.o.1.mem_iff.1 hx);exact xu _ _
   have cp:=xq db v D Z (by omega) hkD hZk w60 So;clear hlD hkD;go_wp2_with fail;refine cp.mono ?_;rintro e w61 ⟨kp,v',rfl,hk5,So5,hf5,hv5⟩;have hdw:w.heap.size<=db:=hws;have hbd:(some b)≠(some db):=λe=>So.box.ne_map Hm (JL e).symm;have Bq5:=hf5.box Bq (by omega);have Bc5:=hf5.box Bc (by omega);have Bm5:=hf5.box Bm (by omega);have Hm5:=Hm.kept hf5.grown hbd;have hw5:=hw.trans (hf5.below (n:=w.heap.size) (λk hk=>by rw [hk];exact hdw) hw.size);have HP5:=hdd (show (D.take kp ++ Z :: D.drop kp).Perm ((List.range (0+1)).map (sqW W H))/\Ris (D.take kp ++ Z :: D.drop kp) from ⟨by
    rw [HZ.o];exact (xT kp).trans ((HP.o.1.cons _).trans (Jl (l₁:=[Z]))),jS HP.o.2 hk5 HNE.o⟩)
   clear cp HP HZ HNE hk5 hf5 hv5 So Bq Bc Bm Hm hw;go_wp2
   go_roundw
   case rel=>exact ⟨1,1,v',_,by omega,by first | rfl | go_num,hdd rfl,So5,HP5,Bq5,Bc5,Bm5,Hm5,hw5⟩
   case measure=>simp [intOf]
  ·have hj:j=1:=by simpa using hj.o
   subst hj;have cw:=kv ⟨W,0⟩ ⟨W,H⟩ 2;have HZ:=hdd (show (List.range (1+1)).map (sqW W H)=(List.range 1).map (sqW W H) ++ [mkW ⟨W,0⟩ ⟨W,H⟩ 2] by rw [VA,QA];rfl);have hZk:=xu ⟨W,0⟩ ⟨W,H⟩;have HNE:=hdd (show ∀ x∈D,x≠mkW ⟨W,0⟩ ⟨W,H⟩ 2 from λx hx e=>Xi hW0 hH0 hW hH (k:=1) (by omega) x (HP.o.1.mem_iff.1 hx) e);dsimp only at cw;generalize mkW ⟨W,0⟩ ⟨W,H⟩ 2=Z at *
   generalize mkOk ⟨W,0⟩ ⟨W,H⟩ 2=zk at *
   have hq1:IntKind.i64.wrap (1+1)=2:=by decide
   have hq2:IntKind.i64.wrap 2=2:=by decide
   have Fq:=Bq.f;have Fc:=Bc.f;go_wp2_with fail;have gq:=Bq.cells;have gc:=Bc.cells;refine rgl5 12 12 75 (λw41 bkz hb h1b h2b Bz=>?_);have lqz:=Bq.lt;have lcz:=Bc.lt;have hw0z:=hw.size;clear gq gc;clear Fq Fc;obtain ⟨Bq,Bc,hw,-⟩:=qX2 Bq Bc hw hb;have fz:=h1b;have hwz:w.heap.size<=wr.heap.size:=hw0z;replace So:=So.ee hb;replace Bm:=Bm.ee hb;replace Hm:=Hm.ee hb;clear hb h1b h2b hw0z;simp only [Act.put];have GV:=J3 Bq.f Bc.f Bz.f;go_wp2_with fail;clear GV;have gc:=Bc.cells;have gz:=Bz.cells;refine rgn 5 (λw60 hb=>?_);clear gc gz;replace So:=So.ee hb;replace Bm:=Bm.ee hb;replace Hm:=Hm.ee hb;obtain ⟨Bq,Bc,hw,-⟩:=qX2 Bq Bc hw hb;clear hb Bz;have hlD:D.length=1:=by have:=HP.o.1.length_eq;simpa using this
   have hkD:∀ x∈D,0<=x.K/\x.K<=2:=λx hx=>by
    obtain ⟨i,_,rfl⟩:=JN.1 (HP.o.1.mem_iff.1 hx);exact xu _ _
   have cp:=xq db v D Z (by omega) hkD hZk w60 So;clear hlD hkD;go_wp2_with fail;refine cp.mono ?_;rintro e w61 ⟨kp,v',rfl,hk5,So5,hf5,hv5⟩;have hdw:w.heap.size<=db:=hws;have hbd:(some b)≠(some db):=λe=>So.box.ne_map Hm (JL e).symm;have Bq5:=hf5.box Bq (by omega);have Bc5:=hf5.box Bc (by omega);have Bm5:=hf5.box Bm (by omega);have Hm5:=Hm.kept hf5.grown hbd;have hw5:=hw.trans (hf5.below (n:=w.heap.size) (λk hk=>by rw [hk];exact hdw) hw.size);have HP5:=hdd (show (D.take kp ++ Z :: D.drop kp).Perm ((List.range (1+1)).map (sqW W H))/\Ris (D.take kp ++ Z :: D.drop kp) from ⟨by
    rw [HZ.o];exact (xT kp).trans ((HP.o.1.cons _).trans (Jl (l₁:=[Z]))),jS HP.o.2 hk5 HNE.o⟩)
   clear cp HP HZ HNE hk5 hf5 hv5 So Bq Bc Bm Hm hw;go_wp2
   go_roundw
   case rel=>exact ⟨2,2,v',_,by omega,by first | rfl | go_num,hdd rfl,So5,HP5,Bq5,Bc5,Bm5,Hm5,hw5⟩
   case measure=>simp [intOf]
  ·have hj:j=2:=by simpa using hj.o
   subst hj;have cw:=kv ⟨W,H⟩ ⟨0,H⟩ 2;have HZ:=hdd (show (List.range (2+1)).map (sqW W H)=(List.range 2).map (sqW W H) ++ [mkW ⟨W,H⟩ ⟨0,H⟩ 2] by rw [VA,QA];rfl);have hZk:=xu ⟨W,H⟩ ⟨0,H⟩;have HNE:=hdd (show ∀ x∈D,x≠mkW ⟨W,H⟩ ⟨0,H⟩ 2 from λx hx e=>Xi hW0 hH0 hW hH (k:=2) (by omega) x (HP.o.1.mem_iff.1 hx) e);dsimp only at cw;generalize mkW ⟨W,H⟩ ⟨0,H⟩ 2=Z at *
   generalize mkOk ⟨W,H⟩ ⟨0,H⟩ 2=zk at *
   have hq1:IntKind.i64.wrap (2+1)=3:=by decide
   have hq2:IntKind.i64.wrap 3=3:=by decide
   have Fq:=Bq.f;have Fc:=Bc.f;go_wp2_with fail;have gq:=Bq.cells;have gc:=Bc.cells;refine rgl5 12 12 75 (λw41 bkz hb h1b h2b Bz=>?_);have lqz:=Bq.lt;have lcz:=Bc.lt;have hw0z:=hw.size;clear gq gc;clear Fq Fc;obtain ⟨Bq,Bc,hw,-⟩:=qX2 Bq Bc hw hb;have fz:=h1b;have hwz:w.heap.size<=wr.heap.size:=hw0z;replace So:=So.ee hb;replace Bm:=Bm.ee hb;replace Hm:=Hm.ee hb;clear hb h1b h2b hw0z;simp only [Act.put];have GV:=J3 Bq.f Bc.f Bz.f;go_wp2_with fail;clear GV;have gc:=Bc.cells;have gz:=Bz.cells;refine rgn 5 (λw60 hb=>?_);clear gc gz;replace So:=So.ee hb;replace Bm:=Bm.ee hb;replace Hm:=Hm.ee hb;obtain ⟨Bq,Bc,hw,-⟩:=qX2 Bq Bc hw hb;clear hb Bz;have hlD:D.length=2:=by have:=HP.o.1.length_eq;simpa using this
   have hkD:∀ x∈D,0<=x.K/\x.K<=2:=λx hx=>by
    obtain ⟨i,_,rfl⟩:=JN.1 (HP.o.1.mem_iff.1 hx);exact xu _ _
   have cp:=xq db v D Z (by omega) hkD hZk w60 So;clear hlD hkD;go_wp2_with fail;refine cp.mono ?_;rintro e w61 ⟨kp,v',rfl,hk5,So5,hf5,hv5⟩;have hdw:w.heap.size<=db:=hws;have hbd:(some b)≠(some db):=λe=>So.box.ne_map Hm (JL e).symm;have Bq5:=hf5.box Bq (by omega);have Bc5:=hf5.box Bc (by omega);have Bm5:=hf5.box Bm (by omega);have Hm5:=Hm.kept hf5.grown hbd;have hw5:=hw.trans (hf5.below (n:=w.heap.size) (λk hk=>by rw [hk];exact hdw) hw.size);have HP5:=hdd (show (D.take kp ++ Z :: D.drop kp).Perm ((List.range (2+1)).map (sqW W H))/\Ris (D.take kp ++ Z :: D.drop kp) from ⟨by
    rw [HZ.o];exact (xT kp).trans ((HP.o.1.cons _).trans (Jl (l₁:=[Z]))),jS HP.o.2 hk5 HNE.o⟩)
   clear cp HP HZ HNE hk5 hf5 hv5 So Bq Bc Bm Hm hw;go_wp2
   go_roundw
   case rel=>exact ⟨3,3,v',_,by omega,by first | rfl | go_num,hdd rfl,So5,HP5,Bq5,Bc5,Bm5,Hm5,hw5⟩
   case measure=>simp [intOf]
  ·have hj:j=3:=by simpa using hj.o
   subst hj;have cw:=kv ⟨0,H⟩ ⟨0,0⟩ 2;have HZ:=hdd (show (List.range (3+1)).map (sqW W H)=(List.range 3).map (sqW W H) ++ [mkW ⟨0,H⟩ ⟨0,0⟩ 2] by rw [VA,QA];rfl);have hZk:=xu ⟨0,H⟩ ⟨0,0⟩;have HNE:=hdd (show ∀ x∈D,x≠mkW ⟨0,H⟩ ⟨0,0⟩ 2 from λx hx e=>Xi hW0 hH0 hW hH (k:=3) (by omega) x (HP.o.1.mem_iff.1 hx) e);dsimp only at cw;generalize mkW ⟨0,H⟩ ⟨0,0⟩ 2=Z at *
   generalize mkOk ⟨0,H⟩ ⟨0,0⟩ 2=zk at *
   have hq1:IntKind.i64.wrap (3+1)=4:=by decide
   have hq2:IntKind.i64.wrap 4=4:=by decide
   have Fq:=Bq.f;have Fc:=Bc.f;go_wp2_with fail;have gq:=Bq.cells;have gc:=Bc.cells;refine rgl5 12 12 75 (λw41 bkz hb h1b h2b Bz=>?_);have lqz:=Bq.lt;have lcz:=Bc.lt;have hw0z:=hw.size;clear gq gc;clear Fq Fc;obtain ⟨Bq,Bc,hw,-⟩:=qX2 Bq Bc hw hb;have fz:=h1b;have hwz:w.heap.size<=wr.heap.size:=hw0z;replace So:=So.ee hb;replace Bm:=Bm.ee hb;replace Hm:=Hm.ee hb;clear hb h1b h2b hw0z;simp only [Act.put];have GV:=J3 Bq.f Bc.f Bz.f;go_wp2_with fail;clear GV;have gc:=Bc.cells;have gz:=Bz.cells;refine rgn 5 (λw60 hb=>?_);clear gc gz;replace So:=So.ee hb;replace Bm:=Bm.ee hb;replace Hm:=Hm.ee hb;obtain ⟨Bq,Bc,hw,-⟩:=qX2 Bq Bc hw hb;clear hb Bz;have hlD:D.length=3:=by have:=HP.o.1.length_eq;simpa using this
   have hkD:∀ x∈D,0<=x.K/\x.K<=2:=λx hx=>by
    obtain ⟨i,_,rfl⟩:=JN.1 (HP.o.1.mem_iff.1 hx);exact xu _ _
   have cp:=xq db v D Z (by omega) hkD hZk w60 So;clear hlD hkD;go_wp2_with fail;refine cp.mono ?_;rintro e w61 ⟨kp,v',rfl,hk5,So5,hf5,hv5⟩;have hdw:w.heap.size<=db:=hws;have hbd:(some b)≠(some db):=λe=>So.box.ne_map Hm (JL e).symm;have Bq5:=hf5.box Bq (by omega);have Bc5:=hf5.box Bc (by omega);have Bm5:=hf5.box Bm (by omega);have Hm5:=Hm.kept hf5.grown hbd;have hw5:=hw.trans (hf5.below (n:=w.heap.size) (λk hk=>by rw [hk];exact hdw) hw.size);have HP5:=hdd (show (D.take kp ++ Z :: D.drop kp).Perm ((List.range (3+1)).map (sqW W H))/\Ris (D.take kp ++ Z :: D.drop kp) from ⟨by
    rw [HZ.o];exact (xT kp).trans ((HP.o.1.cons _).trans (Jl (l₁:=[Z]))),jS HP.o.2 hk5 HNE.o⟩)
   clear cp HP HZ HNE hk5 hf5 hv5 So Bq Bc Bm Hm hw;go_wp2
   go_roundw
   case rel=>exact ⟨4,4,v',_,by omega,by first | rfl | go_num,hdd rfl,So5,HP5,Bq5,Bc5,Bm5,Hm5,hw5⟩
   case measure=>simp [intOf]
  ·have hj:j=4:=by simpa using hj.o
   subst hj;have gc:=Bc.cells;go_wp2_with fail;refine rgn 8 (λw60 hb=>?_);clear gc;have S6:CdtAt w60 (db+1) mb b db v W H E D:=⟨Bc.ee hb,Bm.ee hb,Hm.ee hb,So.ee hb,by omega,by omega⟩;have hw6:=(upB hw hb);obtain ⟨a9,c9,hv9,Dr,_⟩:=S6.doc.rd;have cr:=ka mb b db a9 c9 D.length E [X,Y] D W H hW hH (by simp) HG.o HT.o w60 S6.mesh S6.map Dr;clear hb So Bq Bc Bm Hm hw hv9 Dr;go_wp2_with fail;refine cr.mono ?_;rintro e w7 ⟨rfl,E2,L2,g5,H5,r5,f5⟩;have S7:CdtAt w7 (db+1) mb b db v W H E2 D:=⟨S6.box.turn S6.map g5,S6.mesh.turn S6.map g5,H5,S6.doc.turn S6.map g5,S6.cdb,S6.mdb⟩;have hw7:=hw6.grown g5 hw6.size (λk hk=>by cases hk;exact hbl);have HI:=hdd (show CInvW W H E2 L2 D from ⟨r5.good,f5,λx hx=>by
    obtain ⟨i,_,rfl⟩:=JN.1 (HP.o.1.mem_iff.1 hx);exact xu _ _,(winv_square hW0 hH0 hW hH HT.o HXY.o HP.o.1 HP.o.2).kept r5.kept,λx hx _=>by
    obtain ⟨i,hi,rfl⟩:=JN.1 (HP.o.1.mem_iff.1 hx);exact sqW_rim hW0 hH0 hW hH i⟩)
   have HL:=hdd (show L2.length=2 by rw [r5.kept.len];rfl);have HQ:=hdd (show ∀ q,someC L2 q↔q=⟨0,0⟩\/q=⟨W,0⟩\/q=⟨W,H⟩\/q=⟨0,H⟩ from λq=>(r5.kept.cnr q).trans (HC.o q));have HP4:=hdd (show D.Perm [sqW W H 0,sqW W H 1,sqW W H 2,sqW W H 3] from HP.o.1);clear cr g5 H5 r5 f5 S6 hw6;go_wp2
   go_ret
   exact ⟨db+1,mb,b,db,v,E2,L2,D,rfl,S7,HI.o,HL.o,HQ.o,HP4.o,hw7,hbl,hws,hml,by omega⟩
def Sq0 (s:Int) (L:List Tri3) (D:List Wl):Prop:=L.length=2/\D.Perm [sqW s s 0,sqW s s 1,sqW s s 2,sqW s s 3]
def Built9Post (s:Int) (P:List Int) (m0:Nat) (w:World) (e:Ending) (w':World):Prop:=
 ∃ n0 m2 b2 sb v7 cb mb b db v E2 E L D,e=.returned (.tuple #[pt0 m2,pt0 sb,pt0 cb])/\Box w' m2 [.map (some b2)] 102/\Hs w' b2 E2/\Good E2 L/\SetAt w' sb v7 D /\
  CdtAt w' cb mb b db v s s E D/\CInvW s s E L D/\(∀ q,someC L q↔PutPt s P q)/\L.length<=2+2 * P.length/\D.length<=6000/\(m0=0->P.length=0->Sq0 s L D)/\Below w w w'/\w.heap.size<=b/\w.heap.size<=db /\
  w.heap.size<=n0/\(cb < n0/\mb < n0/\b < n0/\db < n0/\∀ g,v.ownBlock=some g->g < n0)/\n0<=m2/\n0<=b2/\n0<=sb/\(∀ g,v7.ownBlock=some g->n0<=g)/\m2 < sb/\¬ Foot sb v7 m2
theorem jl (s:Int) (hs:0 < s) (hs2:s<=60) (a0 a1:Option Addr) (n m0 c0 c1:Nat) (P:List Int) (hP:Hi (P.length=n)) (hn:n<=30) (Q:List Pt) (hQ:Hi (Q.length=m0)) (hm0:m0<=30) (w:World) (h0:RowAt cI 1 w a0 P) (hq0:RowAt cP 2 w a1 Q):Calls prog 11 #[s,.slice a0 n c0,.slice a1 m0 c1] w (Built9Post s P m0 w):=by
 have cn:=rnewcdtX_any s s hs hs (by omega) (by omega);have csp:=λx=>vu s x hs hs2
 go_enter func11,ntmps11
 go_wp2_with fail;refine (cn _).mono ?_;rintro e w1 ⟨cb,mb,b,db,v,E,L,D,rfl,S,hI,hL,hC,hD,hw,hb1,hb2,hb3,hb4⟩;have hC':=hdd (show ∀ q,someC L q↔PutPt s [] q from λq=>by rw [hC q];simp [PutPt]);have hI':=hdd hI;have hL':=hdd (show L.length<=2+2 * 0 by omega);have hD':=hdd (show D.length<=4+2 * 0 by rw [hD.length_eq];simp);have hK':=hdd (show 0=0->Sq0 s L D from λ_=>⟨hL,hD⟩);replace hb1:=hdd hb1;replace hb2:=hdd hb2;clear cn hI hL hC hD;go_wp2_with fail
 go_loopw [10] (λvi wr=>∃ (k:Nat) (v:Value) (E:Es) (L:List Tri3) (D:List Wl),vi=.int .i64 k/\k<=n/\CdtAt wr cb mb b db v s s E D/\Hi (CInvW s s E L D)/\Hi (∀ q,someC L q↔PutPt s (P.take k) q)/\Hi (L.length<=2+2 * k)/\Hi (D.length<=4+2 * k)/\Hi (k=0->Sq0 s L D)/\Below w w wr) (λvi _=>n - (intOf vi).toNat)
 case atStart=>exact ⟨0,v,E,L,D,rfl,JZ _,S,hI',by simpa using hC',hL',hD',hdd (λ_=>hK'.o trivial),hw⟩
 case round=>
  clear S hI' hC' hL' hD' hK' hw;obtain ⟨k,v,E,L,D,rfl,hk,S,hI,hC,hL,hD,hK,hw⟩:=hrel;by_cases hlt:k < n
  case neg=>
   obtain rfl:n=k:=by omega
   have hC2:=hdd (show ∀ q,someC L q↔PutPt s P q from λq=>by rw [hC.o q,JM (by rw [hP.o];omega)]);clear hC hlt hk;have hDQ:=hdd (show D.length<=64+186 * 0 by have:=hD.o;omega);have hKQ:=hK;clear hK;have hLQ:=hdd (show L.length<=2+2 * n from hL.o);clear hD hL;go_wp2
   go_loopw [11] (λvi wr=>∃ (k:Nat) (v:Value) (E:Es) (L:List Tri3) (D:List Wl),vi=.int .i64 k/\k<=m0/\CdtAt wr cb mb b db v s s E D/\Hi (CInvW s s E L D)/\Hi (∀ q,someC L q↔PutPt s P q)/\Hi (L.length<=2+2 * n)/\Hi (D.length<=64+186 * k)/\Hi (k=0->n=0->Sq0 s L D)/\Below w w wr) (λvi _=>m0 - (intOf vi).toNat)
   case atStart=>exact ⟨0,v,E,L,D,rfl,JZ _,S,hI,hC2,hLQ,hDQ,hdd (λ_=>hKQ.o),hw⟩
   case round=>
    clear S hI hC2 hLQ hDQ hKQ hw;obtain ⟨k,v,E,L,D,rfl,hk,S,hI,hC2,hL,hD,hKQ,hw⟩:=hrel;by_cases hlt:k < m0
    case neg=>
     have hkn:¬ (k:Int) < (m0:Int):=by omega
     clear hlt;have hG:=hI.o.good;have hLk:=hL.o;have hE:E.length<=1000000:=by rw [hG.len];omega
     have ht:=λW B H=>ZR mb b E hE W B H;have hp0:(srt cmpT (heads (λ_=>true) E)).Perm L:=(zS _).trans hG.heads;generalize srt cmpT (heads (λ_=>true) E)=I at *
     obtain ⟨m,hm⟩:∃ m,I.length=m:=⟨_,rfl⟩;rw [hm] at ht;have hm1:m<=1000000:=by rw [<-hm,hp0.length_eq];omega
     have hv:∀ T∈I,valT T=true:=λT h=>hG.val T (hp0.mem_iff.1 h);have hgo:=Good.puts (I:=I) (E:=[]) (M:=[]) ⟨by simp,by simp [KeysNodup],by simp⟩ hv (by
      rw [Jf];exact ((hp0.flatMap_right ways).nodup_iff).2 hG.once)
     rw [Jf,hm] at hgo;obtain ⟨hg1,hg2⟩:=hgo;have hG2:=hdd (show Good (putRun [] I).2 L from ⟨hg2.perm.trans (hp0.flatMap_right wys),hg2.nodup,hG.val⟩);have hn2:=λa cap W H=>mnew_1 a cap m I (hdd hm) hm1 (λT h=>ye (hv T h)) hg1 W H;clear hg1 hg2 hv hp0 hm1 hE hG hLk hm;have Fs:=S.box.f;go_wp2_with fail;clear Fs;refine (ht _ S.mesh S.map).mono ?_;rintro e w5 ⟨a5,c5,rfl,hr5,hb⟩;replace S:=S.ee hb;have hw5:=(upB hw hb);clear hb ht hw;go_wp2_with fail;refine (hn2 _ _ _ hr5).mono ?_;rintro e w6 ⟨m2,b2,rfl,B2,H2,h1,h2,hb⟩;have S6:=S.ee hb;have hw6:=(upB hw5 hb);have hbl:=S.map.lt;have hdl:=S.doc.box.lt;have hcl:=S.box.lt;have hml:=S.mesh.lt;have hvl:=hdd (show ∀ g,v.ownBlock=some g->g < w5.heap.size from λg hg=>(S.doc.row.lt g hg).2);have hs6:=hb.size;clear hb hn2 hr5;obtain ⟨a9,c9,rfl,Dr,hz⟩:=S6.doc.rd;have hD9:D.length < 1000000:=by have:=hD.o;omega
     have cw:=λW R=>new_set (a:=a9) (c:=c9) hD9 Dr.flat (λe=>(hz e).1) hI.o.wal.ris hI.o.wal.apart hI.o.wal.good W R;have Fs:=S6.box.f;have Fd:=Dr.box.f;go_wp2_with fail;clear Fs Fd;refine (cw _ Dr.row).mono ?_;rintro e w7 ⟨sb,v7,rfl,A7,hs7,ho7,hb⟩;have hm7:=B2.lt;have hbs:=hb.size;have HF:=hdd (show ¬ Foot sb v7 m2 from λh=>by
      rcases h with h | h
      ·omega
      ·have:=ho7 _ h;omega)
     have HO:=hdd (show ∀ g,v7.ownBlock=some g->w5.heap.size<=g from λg hg=>by have:=ho7 g hg;omega);clear hbs ho7;have S7:=S6.ee hb;have hw7:=(upB hw6 hb);have B7:=B2.ee hb;have H7:=H2.ee hb;clear hb cw;go_wp2;refine bodyPost_ret (v:=.tuple #[pt0 m2,pt0 sb,pt0 cb]) (by simp [results,results11,go_sem]) rfl ?_;exact ⟨w5.heap.size,m2,b2,sb,v7,cb,mb,b,db,_,_,E,L,D,rfl,B7,H7,hG2.o,A7,S7,hI.o,hC2.o,by rw [hP.o];exact hL.o,by have:=hD.o;omega,λe1 e2=>hKQ.o (by omega) (by rw [<-hP.o];exact e2),hw7,hb1.o,hb2.o,hw5.size,⟨hcl,hml,hbl,hdl,hvl.o⟩,h2,h1,by omega,HO.o,by omega,HF.o⟩
    case pos=>
     have hlk:k < Q.length:=hQ.o▸hlt;obtain ⟨ad,A,ea,eA,hA0⟩:=hq0.two hlk;have hA:=hA0.ee hw;generalize Q[k]=x at *
     have cs1:=λw0=>vu s x.x hs hs2 w0;have cs2:=λw0=>vu s x.y hs hs2 w0;have hLk:=hL.o;have hDk:=hD.o;have ca:=λp q W0 S0=>rcaddwX_any cb mb b db v s s hs hs (by omega) (by omega) E L D hI.o (by omega) (by omega) p q W0 S0;subst ea;obtain ⟨s0,s1⟩:=hA.cells;have q0:(k:Int) < (m0:Int):=by omega
     clear hA hA0 hLk hDk;go_wp2_with fail;refine wrt 15 (by kernel_rfl) (by kernel_rfl) ?_;simp only [tK1,tK0,dP1,dP0];refine wkx ?_;intro w3 hb;clear s0 s1 cs1 cs2;replace S:=S.ee hb;replace hw:=upB hw hb;clear hb;go_wp2_with fail;refine (ca _ _ w3 S).mono ?_;rintro e w4 ⟨r,v',E1,E',L',D',rfl,S',hI2,_,_,_,hC3,hL2,hD2,hf⟩;have hw4:Below w w w4:=hw.trans (hf.below (λj hj=>by have:=hb1.o;have:=hb2.o;rcases hj with rfl | rfl <;> omega) hw.size);have hC4:=hdd (show ∀ q,someC L' q↔PutPt s P q from λq=>(hC3 q).trans (hC2.o q));have hL3:=hdd (show L'.length<=2+2 * n by rw [hL2];exact hL.o);have hD3:=hdd (show D'.length<=64+186 * (k+1) by have:=hL.o;have:=hD.o;omega);have hI3:=hdd hI2;clear hC3 hL2 hD2 hf hI2 S hw ca hC2 hL hD hI;go_wp2_with fail
     go_roundw
     case rel=>exact ⟨k+1,v',E',L',D',by go_num,by omega,S',hI3,hC4,hL3,hD3,hdd (λe=>absurd e (Nat.succ_ne_zero k)),hw4⟩
     case measure=>simp [intOf];omega
  case pos=>
   have hlk:k < P.length:=hP.o▸hlt;have HN:=hdd (show P.take (k+1)=P.take k ++ [P[k]] from JD hlk);obtain ⟨ad,ea,hab0,hA0⟩:=h0.num hlk;have hA:=(h0.ee hw).num hlk;obtain ⟨ad2,ea2,hab,hA⟩:=hA;obtain rfl:ad=ad2:=by rw [ea] at ea2;exact JL ea2
   clear hA0 ea2;generalize P[k]=x at *
   go_wp2_with fail;refine (csp x _).mono ?_;rintro e w3 ⟨rfl,hb⟩;replace S:=S.ee hb;replace hw:=upB hw hb;clear hb hA;go_wp2_with fail;have hLk:=hL.o;have hDk:=hD.o;refine (rcaddX_any cb mb b db v s s hs hs (by omega) (by omega) E L D hI.o (by omega) (by omega) (spt s x) _ S).mono ?_;rintro e w4 ⟨r,v',E',L',D',rfl,S',hI2,hr,hC2,hL2,hD2,hkk,hf⟩;have hw4:Below w w w4:=hw.trans (hf.below (λj hj=>by have:=hb1.o;have:=hb2.o;rcases hj with rfl | rfl <;> omega) hw.size);have hC3:=hdd (show ∀ q,someC L' q↔PutPt s (P.take (k+1)) q from λq=>by
    rw [hC2 q,hC.o q,HN.o];have hin:inBox s s (spt s x):=YS hs x;unfold PutPt;constructor
    ·rintro ((h | ⟨y,h1,h2⟩) | ⟨h,_⟩)
     ·exact .inl h
     ·exact .inr ⟨y,Jo _ h1,h2⟩
     ·exact .inr ⟨x,by simp,h⟩
    ·rintro (h | ⟨y,h1,h2⟩)
     ·exact .inl (.inl h)
     ·rcases JG.1 h1 with h1 | h1
      ·exact .inl (.inr ⟨y,h1,h2⟩)
      ·rw [QX] at h1;rw [h1] at h2;exact .inr ⟨h2,hin⟩)
   have hL3:=hdd (show L'.length<=2+2 * (k+1) by omega);have hD3:=hdd (show D'.length<=4+2 * (k+1) by omega);have hI3:=hdd hI2;have hK3:=hdd (show k+1=0->Sq0 s L' D' from λe=>by omega);clear hkk hK;clear hC2 hL2 hD2 hf hr hLk hDk hI2 S hw;go_wp2_with fail;rw [<-ea]
   go_roundw
   case rel=>exact ⟨k+1,v',E',L',D',by go_num,by omega,S',hI3,hC3,hL3,hD3,hK3,hw4⟩
   case measure=>simp [intOf];omega
theorem built9_two {s:Int} {P:List Int} {m0:Nat} {w w':World} {e:Ending} (h:Built9Post s P m0 w e w'):∃ m2 b2 sb v cb mb b db vd E E1 L D,e=.returned (.tuple #[pt0 m2,pt0 sb,pt0 cb])/\Two9 s w.heap.size w' m2 b2 sb v E L D cb mb b db vd E1 L D/\L.length<=2+2 * P.length/\D.length<=6000/\Below w w w':=by
 obtain ⟨n0,m2,b2,sb,v,cb,mb,b,db,vd,E,E1,L,D,rfl,B2,H2,G2,S2,C2,I2,_,hL,hD,_,hb,hbb,hdb,hn0,⟨hc1,hc2,hc3,hc4,hc5⟩,hm1,hb1,hs1,ho1,_,hF⟩:=h;have hA:∀ {k:Nat},k < n0->Apt b2 sb v k:=λ{k} hk=>⟨by omega,λh=>by
  rcases h with h | h
  ·omega
  ·have:=ho1 k h;omega⟩
 exact ⟨m2,b2,sb,v,cb,mb,b,db,vd,E,E1,L,D,rfl,⟨⟨B2,H2,S2,⟨G2,I2.fix,I2.kinds,I2.wal,I2.rim⟩,hF⟩,C2,I2,⟨hA hc1,hA hc2,hA hc3,hA hc4,λg hg=>hA (hc5 g hg),by omega,by omega,by omega,λk h=>by
  rcases h with h | h
  ·omega
  ·have:=ho1 k h;omega,hbb,hdb⟩⟩,hL,hD,hb⟩
def OnE (L:List Tri3) (M:Int) (x:Pt):Prop:=∃ p q r,(p,q)∈L.flatMap ways/\0 < det p q r/\det (sc M p) (sc M q) x=0/\0<=det (sc M q) (sc M r) x/\0<=det (sc M r) (sc M p) x
theorem seenG {W H:Int} {L1 L2:List Tri3} (hW:W < 16777216) (hH:H < 16777216) {wl:Pt->Pt->Prop} (h1:Fixed W H wl L1) (h2:Tiles W H L2) (hw:∀ S∈L1,∀ R∈L1,∀ a b c d,Cyc S a b c->Cyc R b a d->wl a b->∀ (M:Int) (x:Pt),0 < M->det (sc M a) (sc M b) x=0->0<=det (sc M b) (sc M c) x->0<=det (sc M c) (sc M a) x->OnE L2 M x) {ht:Pt->Int} (hh:Hts ht) {T2:Tri3} (m2:T2∈L2) {v:Pt} (hc2:isCnr T2 v) (hv:∃ S∈L1,isCnr S v) {T1:Tri3} (m1:T1∈L1) {M:Int} (hM:0 < M) {x:Pt} (x2:insM M T2 x) (x1:hasM M T1 x):pH ht v T1<=0:=by
 classical
 have vb:∀ q,inBox W H q->vld q=true:=λq hq=>by rw [zj];unfold inBox at hq;omega
 have bv:inBox W H v:=by
  obtain ⟨b,c,hc⟩:=qo hc2;exact h2.cyc_box m2 hc
 have hv2:hasT T2 v:=(Y6 (h2.pos T2 m2) hc2).1;obtain ⟨Sv,mSv,cSv⟩:=hv
 let F:List Tri3:=L1.filter λT=>decide (∃ M x,0 < M/\insM M T2 x/\hasM M T x)
 have mF:∀ T,T∈F↔T∈L1/\∃ M x,0 < M/\insM M T2 x/\hasM M T x:=by
  intro T;simp only [F,JS,Kn]
 have f1:T1∈F:=(mF T1).2 ⟨m1,M,x,hM,x2,x1⟩;obtain ⟨X,hX,hmax⟩:=uP (pH ht v) (λT=>det T.A T.B T.C) F (List.ne_nil_of_mem f1) (λT hT=>h1.tiles.pos T ((mF T).1 hT).1);obtain ⟨mX,N,y,hN,y2,yX⟩:=(mF X).1 hX;have pX:=h1.tiles.pos X mX;have hXp:pH ht v X<=0:=by
  refine JJ λk=>?_;have nC:¬ isCnr X v:=λg=>by
   obtain ⟨b,c,hc⟩:=qo g;have:=hc.pH ht v;rw [PH_cnr] at this;omega
  have nh:¬ hasT X v:=λg=>nC (h1.tiles.cnr_all mSv mX cSv g);obtain ⟨a,b,c,Q,n,hc,hneg,n0,nQ,z1,z2,z3⟩:=leave hN yX nh;have p1:=h1.tiles.cyc_pos mX hc;rcases h1.tiles.rim (a,b) (y6 mX hc.way) with hr | hr
  ·obtain ⟨R,hR,hwy⟩:=JH.1 hr;have hwy:(b,a)∈ways R:=hwy;obtain ⟨d,hd⟩:=yZ hwy;have p2:=h1.tiles.cyc_pos hR hd;have hQN:0 < N * Q:=JI hN (by omega)
   -- the place lies within T2
   have in2:insM (N * Q) T2 ⟨(Q - n) * y.x+n * (N * v.x),(Q - n) * y.y+n * (N * v.y)⟩:=by
    have val:∀ p q:Pt,det (sc (N * Q) p) (sc (N * Q) q) ⟨(Q - n) * y.x+n * (N * v.x),(Q - n) * y.y+n * (N * v.y)⟩=Q * ((Q - n) * det (sc N p) (sc N q) y+n * (N * (N * det p q v))):=by
     intro p q;unfold det sc;grind
    have pos:∀ p q:Pt,0 < det (sc N p) (sc N q) y->0<=det p q v->0 < det (sc (N * Q) p) (sc (N * Q) q) ⟨(Q - n) * y.x+n * (N * v.x),(Q - n) * y.y+n * (N * v.y)⟩:=by
     intro p q k1 k2;rw [val];have a1:=JI (show 0 < Q - n by omega) k1;have a2:=Kr n0 (Kr (JT hN) (Kr (JT hN) k2));exact JI (by omega) (by omega)
    exact ⟨pos _ _ y2.1 hv2.1,pos _ _ y2.2.1 hv2.2.1,pos _ _ y2.2.2 hv2.2.2⟩
   have nw:¬ wl a b:=by
    intro w;obtain ⟨p,q,r,hm,r0,hz,r1,r2⟩:=hw X mX R hR a b c d hc hd w _ _ hQN z1 z2 z3;obtain ⟨U,mU,hU⟩:=JH.1 hm;obtain ⟨s,hs⟩:=yZ hU;have pU:=h2.cyc_pos mU hs
    -- p q r and p q s lie on one side
    have e1:det p q r * det (sc (N * Q) q) (sc (N * Q) s) ⟨(Q - n) * y.x+n * (N * v.x),(Q - n) * y.y+n * (N * v.y)⟩=det (sc (N * Q) q) (sc (N * Q) r) ⟨(Q - n) * y.x+n * (N * v.x),(Q - n) * y.y+n * (N * v.y)⟩ * det p q s+det (sc (N * Q) p) (sc (N * Q) q) ⟨(Q - n) * y.x+n * (N * v.x),(Q - n) * y.y+n * (N * v.y)⟩ * det q s r:=by
     generalize (⟨(Q - n) * y.x+n * (N * v.x),(Q - n) * y.y+n * (N * v.y)⟩:Pt)=z
     unfold det sc;grind
    have e2:det p q r * det (sc (N * Q) s) (sc (N * Q) p) ⟨(Q - n) * y.x+n * (N * v.x),(Q - n) * y.y+n * (N * v.y)⟩=det (sc (N * Q) r) (sc (N * Q) p) ⟨(Q - n) * y.x+n * (N * v.x),(Q - n) * y.y+n * (N * v.y)⟩ * det p q s - det (sc (N * Q) p) (sc (N * Q) q) ⟨(Q - n) * y.x+n * (N * v.x),(Q - n) * y.y+n * (N * v.y)⟩ * det p s r:=by
     generalize (⟨(Q - n) * y.x+n * (N * v.x),(Q - n) * y.y+n * (N * v.y)⟩:Pt)=z
     unfold det sc;grind
    rw [hz,Jh] at e1 e2;have g1:=Kr r1 (JT pU);have g2:=Kr r2 (JT pU);have hU':hasM (N * Q) U ⟨(Q - n) * y.x+n * (N * v.x),(Q - n) * y.y+n * (N * v.y)⟩:=(xU hs).2 ⟨by omega,(zd r0).1 (by omega),(zd r0).1 (by omega)⟩;have e:=h2.insM_one m2 mU hQN in2 hU';rw [e] at in2;have:=((insM_cyc hs).1 in2).1;omega
   have hnb:=h1.good X mX R hR a b c d hc hd nw;obtain ⟨q1,q2,q3⟩:=zP p2;have dc:d≠c:=by
    rintro rfl;rw [zV] at p2;omega
   have sg:=hh.sign a b c d (vb _ (h1.tiles.cyc_box mX hc)) (vb _ (h1.tiles.cyc_box mX hc.turn)) (vb _ (h1.tiles.cyc_box mX hc.turn.turn)) (vb _ (h1.tiles.cyc_box hR hd.turn.turn)) p1 (Ne.symm q2) q3 dc;have hneg2:PH ht a b c d < 0:=by omega
   have o:=tK p1 p2 z1 z2 z3;have fR:R∈F:=(mF R).2 ⟨hR,_,_,hQN,in2,(xU hd).2 ⟨by rw [zV];omega,o.1,o.2⟩⟩;have st:=PH_step ht a b c d v;have mx:pH ht v R * det X.A X.B X.C<=pH ht v X * det R.A R.B R.C:=hmax R fR;rw [hd.pH,hc.pH,<-hc.det,<-hd.det] at mx;have:0 < det b a v:=by rw [zV];omega
   have:=Int.mul_neg_of_neg_of_pos hneg2 this;have e1:det a b c * PH ht b a d v=PH ht b a d v * det a b c:=VM _ _;have e2:det b a d * PH ht a b c v=PH ht a b c v * det b a d:=VM _ _;omega
  ·have hr:onRim W H a b:=hr;have:=uE hr p1 (h1.tiles.cyc_box mX hc.turn.turn) bv;omega
 have mx:pH ht v T1 * det X.A X.B X.C<=pH ht v X * det T1.A T1.B T1.C:=hmax T1 f1;have pT:=h1.tiles.pos T1 m1;have:pH ht v X * det T1.A T1.B T1.C<=0:=VI hXp (by omega);refine JJ λk=>?_;have:=JI (show 0 < pH ht v T1 by omega) pX;omega
theorem one_meshG {W H:Int} {L1:List Tri3} (hW0:0 < W) (hH0:0 < H) (hW:W < 16777216) (hH:H < 16777216) (h1:Tiles W H L1) {ht:Pt->Int} (hh:Hts ht) {T2:Tri3} (p2:0 < det T2.A T2.B T2.C) (b2:inBox W H T2.A/\inBox W H T2.B/\inBox W H T2.C) (t1:∀ T1∈L1,∀ (M:Int) (x:Pt),0 < M->insM M T2 x->hasM M T1 x->∀ q,isCnr T2 q->pH ht q T1<=0) (t2:∀ T1∈L1,∀ (M:Int) (x:Pt),0 < M->insM M T1 x->hasM M T2 x->∀ q,isCnr T1 q->pH ht q T2<=0):∃ T1∈L1,Cyc T1 T2.A T2.B T2.C:=by
 have vb:∀ q,inBox W H q->vld q=true:=λq hq=>by rw [zj];unfold inBox at hq;omega
 -- the middle of T2,and a triangle that has it
 let x:Pt:=⟨T2.A.x+T2.B.x+T2.C.x,T2.A.y+T2.B.y+T2.C.y⟩
 have ex:∀ a b:Pt,det (sc 3 a) (sc 3 b) x=3 * (det a b T2.A+det a b T2.B+det a b T2.C):=by
  intro a b;show det (sc 3 a) (sc 3 b) ⟨T2.A.x+T2.B.x+T2.C.x,T2.A.y+T2.B.y+T2.C.y⟩=_;unfold det sc;grind
 have z1:det T2.A T2.B T2.A=0:=by unfold det;grind
 have z2:det T2.A T2.B T2.B=0:=by unfold det;grind
 have z3:det T2.B T2.C T2.B=0:=by unfold det;grind
 have z4:det T2.B T2.C T2.C=0:=by unfold det;grind
 have z5:det T2.C T2.A T2.C=0:=by unfold det;grind
 have z6:det T2.C T2.A T2.A=0:=by unfold det;grind
 have c1:=zW T2.A T2.B T2.C;have c2:=zW T2.B T2.C T2.A;have x2:insM 3 T2 x:=⟨by rw [ex];omega,by rw [ex];omega,by rw [ex];omega⟩;have bx:inBox (3 * W) (3 * H) x:=by
  show inBox (3 * W) (3 * H) ⟨T2.A.x+T2.B.x+T2.C.x,T2.A.y+T2.B.y+T2.C.y⟩;unfold inBox at *;simp only;omega
 obtain ⟨T1,m1,x1⟩:=h1.covM hW0 hH0 (M:=3) (by omega) bx;refine ⟨T1,m1,?_⟩;have p1:=h1.pos T1 m1;have b1:=h1.box T1 m1
 -- a place within both
 let v:Pt:=⟨3 * (T1.A.x+T1.B.x+T1.C.x) - 3 * x.x,3 * (T1.A.y+T1.B.y+T1.C.y) - 3 * x.y⟩
 let K:Int:=big 3 T1 v+big 3 T2 v+1
 have hK:0 < K:=by show 0 < big 3 T1 v+big 3 T2 v+1;unfold big;omega
 have n1:=uL (M:=3) (by omega) p1 x1;have n2:=Zd x2 v;have g2:∀ (T:Tri3),near 3 T x v->big 3 T v < K->insM (K * 3) T ⟨K * x.x+v.x,K * x.y+v.y⟩:=by
  intro T ⟨k1,k2,k3⟩ hb;unfold big at hb;exact ⟨kV (by omega) hK k1 (xS 3 K _ _ x v) (by omega),kV (by omega) hK k2 (xS 3 K _ _ x v) (by omega),kV (by omega) hK k3 (xS 3 K _ _ x v) (by omega)⟩
 have i1:=g2 T1 n1 (by show big 3 T1 v < big 3 T1 v+big 3 T2 v+1;unfold big;omega);have i2:=g2 T2 n2 (by show big 3 T2 v < big 3 T1 v+big 3 T2 v+1;unfold big;omega);generalize hy:(⟨K * x.x+v.x,K * x.y+v.y⟩:Pt)=y at i1 i2
 have hK3:0 < K * 3:=by omega
 generalize K * 3=N at *
 have weak:∀ {T:Tri3},insM N T y->hasM N T y:=λ⟨k1,k2,k3⟩=>⟨by omega,by omega,by omega⟩;have s1:∀ q,isCnr T2 q->pH ht q T1<=0:=λq hq=>t1 T1 m1 _ _ hK3 i2 (weak i1) q hq;have s2:∀ q,isCnr T1 q->pH ht q T2<=0:=λq hq=>t2 T1 m1 _ _ hK3 i1 (weak i2) q hq;have pl:=planes ht T2.A T2.B T2.C T1.A T1.B T1.C y N;have a1:=s1 T2.A (.inl rfl);have a2:=s1 T2.B (.inr (.inl rfl));have a3:=s1 T2.C (.inr (.inr rfl));have a4:=s2 T1.A (.inl rfl);have a5:=s2 T1.B (.inr (.inl rfl));have a6:=s2 T1.C (.inr (.inr rfl));unfold pH at a1 a2 a3 a4 a5 a6;have np:∀ u w:Int,0 < u->w<=0->u * w<=0:=λu w hu hw=>QN (by omega) hw;have e1:=np _ _ i2.2.1 a1;have e2:=np _ _ i2.2.2 a2;have e3:=np _ _ i2.1 a3;have e4:=np _ _ i1.2.1 a4;have e5:=np _ _ i1.2.2 a5;have e6:=np _ _ i1.1 a6;have zz:∀ u w:Int,0 < u->u * w=0->w=0:=λu w hu h=>(J0.1 h).resolve_left (by omega);have f1:=zz _ _ i2.2.1 (show det (sc N T2.B) (sc N T2.C) y * PH ht T1.A T1.B T1.C T2.A=0 by omega);have f2:=zz _ _ i2.2.2 (show det (sc N T2.C) (sc N T2.A) y * PH ht T1.A T1.B T1.C T2.B=0 by omega);have f3:=zz _ _ i2.1 (show det (sc N T2.A) (sc N T2.B) y * PH ht T1.A T1.B T1.C T2.C=0 by omega);have cn:∀ q,inBox W H q->PH ht T1.A T1.B T1.C q=0->q=T1.A\/q=T1.B\/q=T1.C:=by
  intro q hq hz;refine JJ λk=>?_;simp only [U8] at k;have:=hh.sign _ _ _ q (vb _ b1.1) (vb _ b1.2.1) (vb _ b1.2.2) (vb _ hq) p1 k.1 k.2.1 k.2.2;omega
 have q1:=cn _ b2.1 f1;have q2:=cn _ b2.2.1 f2;have q3:=cn _ b2.2.2 f3;obtain ⟨d1,d2,d3⟩:=zP p2;have turn:∀ a b c:Pt,0 < det a b c->0 < det a c b->False:=λa b c k1 k2=>by
  have:det a c b = - det a b c:=by unfold det;grind
  omega
 unfold Cyc;generalize T1.A=A at *
 generalize T1.B=B at *
 generalize T1.C=C at *
 have cA:=zW A B C;have cB:=zW B C A;have k1:=zW A C B;have k2:=zW C B A;have sw:det A C B = - det A B C:=by unfold det;grind
 rcases q1 with q1 | q1 | q1 <;> rcases q2 with q2 | q2 | q2 <;> rcases q3 with q3 | q3 | q3
 all_goals first
  | (exfalso;apply d1;rw [q1,q2];done)
  | (exfalso;apply d2;rw [q2,q3];done)
  | (exfalso;apply d3;rw [q3,q1];done)
  | (exfalso;rw [q1,q2,q3] at p2;omega)
  | exact .inl ⟨q1,q2,q3⟩
  | exact .inr (.inl ⟨q1,q2,q3⟩)
  | exact .inr (.inr ⟨q1,q2,q3⟩)
theorem col_zero {M:Int} {a b x z:Pt} (hab:a≠b) (h1:det a b x=0) (h2:det (sc M a) (sc M b) z=0):det (sc M a) (sc M x) z=0:=by
 have e1:(b.x - a.x) * det (sc M a) (sc M x) z=(x.x - a.x) * det (sc M a) (sc M b) z - M * ((z.x - M * a.x) * det a b x):=by unfold det sc;grind
 have e2:(b.y - a.y) * det (sc M a) (sc M x) z=(x.y - a.y) * det (sc M a) (sc M b) z - M * ((z.y - M * a.y) * det a b x):=by unfold det sc;grind
 rw [h1,h2,Jd,Jd,Jd] at e1 e2;rcases J0.1 (show (b.x - a.x) * det (sc M a) (sc M x) z=0 by omega) with k1 | k1
 ·rcases J0.1 (show (b.y - a.y) * det (sc M a) (sc M x) z=0 by omega) with k2 | k2
  ·exact absurd (Pt.eq_iff.2 ⟨by omega,by omega⟩) hab
  ·exact k2
 ·exact k1
theorem on_edge {W H:Int} {L:List Tri3} (t:Tiles W H L) {a b c z:Pt} {M:Int} (he:edgeL L a b) (p1:0 < det a b c) (z1:det (sc M a) (sc M b) z=0) (z2:0<=det (sc M b) (sc M c) z) (z3:0<=det (sc M c) (sc M a) z):OnE L M z:=by
 rcases he with h | h
 ·exact ⟨a,b,c,h,p1,z1,z2,z3⟩
 ·obtain ⟨U,mU,hU⟩:=JH.1 h;obtain ⟨d,hd⟩:=yZ hU;have p2:=t.cyc_pos mU hd;have o:=tK p1 p2 z1 z2 z3;exact ⟨b,a,d,h,p2,by rw [zV];omega,o.1,o.2⟩
theorem onR_swap (p a b:Pt):onR p b a=onR p a b:=by rw [<-on_eq,<-on_eq,vL]
theorem edg_of {a b c x:Pt} (va:vld a=true) (vb:vld b=true) (ho:onR x a b=true) (na:x≠a) (nb:x≠b) (hD:0 < det a b c):edg a b c x:=by
 obtain ⟨k1,k2,k3⟩:=(seg_onH va vb (on_vldH ho) hD).1 ho;have h1:=corner0 x hD;have h2:=corner0 x (show 0 < det b c a by rw [zW];exact hD);refine ⟨k1,?_,?_⟩
 ·rcases Jx k2 with k | k
  ·exact k
  ·exact absurd (h2.2 ⟨k.symm,k1⟩) nb
 ·rcases Jx k3 with k | k
  ·exact k
  ·exact absurd (h1.2 ⟨k1,k.symm⟩) na
theorem part_one {p q x c z:Pt} {M:Int} (vp:vld p=true) (vq:vld q=true) (ho:onR x p q=true) (np:x≠p) (nq:x≠q) (hpq:p≠q) (h0:0 < det p x c) (z1:det (sc M p) (sc M x) z=0) (z2:0<=det (sc M x) (sc M c) z) (z3:0<=det (sc M c) (sc M p) z):0 < det p q c/\det (sc M p) (sc M q) z=0/\0<=det (sc M q) (sc M c) z/\0<=det (sc M c) (sc M p) z:=by
 have hx:=on_detH ho;have hD:0 < det p q c:=by
  rcases Qw (det p q c) 0 with k | k | k
  ·exfalso
   have e:=edg_of vq vp (by rw [onR_swap];exact ho) nq np (show 0 < det q p c by rw [zV];omega);have:=e.2.1;rw [det_swap2] at this;omega
  ·exfalso
   have:=col_zero (M:=1) (a:=p) (b:=q) (x:=x) (z:=c) hpq hx (by simpa only [jo] using k);simp only [jo] at this;omega
  ·exact k
 have e:=edg_of vp vq ho np nq hD;refine ⟨hD,?_,?_,z3⟩
 ·exact col_zero (Ne.symm np) (by rw [det_swap2];omega) z1
 ·have id : det p x c * det (sc M q) (sc M c) z = det (sc M x) (sc M c) z * det q c p + det (sc M c) (sc M p) z * det q c x := by
    unfold det sc;grind
  have hq:0 < det q c p:=by rw [zW];exact hD
  have g1:=Kr z2 (JT hq);have g2:=Kr z3 (JT e.2.1);exact (zd h0).1 (by omega)
theorem part_two {p q x c z:Pt} {M:Int} (vp:vld p=true) (vq:vld q=true) (ho:onR x p q=true) (np:x≠p) (nq:x≠q) (hpq:p≠q) (h0:0 < det x q c) (z1:det (sc M x) (sc M q) z=0) (z2:0<=det (sc M q) (sc M c) z) (z3:0<=det (sc M c) (sc M x) z):0 < det p q c/\det (sc M p) (sc M q) z=0/\0<=det (sc M q) (sc M c) z/\0<=det (sc M c) (sc M p) z:=by
 have hx:=on_detH ho;have hD:0 < det p q c:=by
  rcases Qw (det p q c) 0 with k | k | k
  ·exfalso
   have e:=edg_of vq vp (by rw [onR_swap];exact ho) nq np (show 0 < det q p c by rw [zV];omega);have:=e.2.2;have c1:=zW x q c;have c2:=det_swap2 c q x;have c3:=zW x c q;have:det c q x = - det x q c:=by unfold det;grind
   omega
  ·exfalso
   have h1:det q p x=0:=by rw [zV];omega
   have:=col_zero (M:=1) (a:=q) (b:=p) (x:=x) (z:=c) (Ne.symm hpq) h1 (by simp only [jo];rw [zV];omega);simp only [jo] at this;rw [zV] at this;omega
  ·exact k
 have e:=edg_of vp vq ho np nq hD;refine ⟨hD,?_,z2,?_⟩
 ·have h1 : det q x p = 0 := by have : det q x p = det p q x := by unfold det; grind
                                omega
  have:=col_zero (M:=M) (a:=q) (b:=x) (x:=p) (z:=z) (Ne.symm nq) h1 (by rw [zV];omega);rw [zV];omega
 ·have id : det x q c * det (sc M c) (sc M p) z = det (sc M q) (sc M c) z * det c p x + det (sc M c) (sc M x) z * det c p q := by
    unfold det sc;grind
  have hq : 0 < det c p q := by have : det c p q = det p q c := by unfold det; grind
                                omega
  have g1:=Kr z2 (JT e.2.2);have g2:=Kr z3 (JT hq);exact (zd h0).1 (by omega)
theorem gn_ins {L:List Wl} {X:Wl} {k:Nat} (x:Wl):x∈insW L X k↔x=X\/x∈L:=(yk L X k).mem_iff.trans (by simp)
theorem wll_ex {D:List Wl} {a b:Pt} (k:wll D a b):∃ X∈D,(X.A=a/\X.B=b)\/(X.A=b/\X.B=a):=by
 unfold wll kindD at k;cases hf:D.find? (isE a b) with
 | none=>rw [hf] at k;exact absurd rfl k
 | some x=>
  have he:=VC hf;unfold isE at he;simp only [Qs,Ko,Kn] at he;exact ⟨x,Jr hf,he⟩
theorem rem_mem {L L':List Wl} {p q:Pt} {r:Int} (h:RemAt L p q r L'):(∀ x∈L',x∈L)/\∀ x∈L,x∈L'\/(x.A=p/\x.B=q):=by
 rcases h with ⟨_,rfl,_⟩ | ⟨_,k,hk,hW,rfl⟩
 ·exact ⟨λx h=>h,λx h=>.inl h⟩
 ·refine ⟨λx h=>?_,λx h=>?_⟩
  ·rcases JG.1 h with h | h
   ·exact QT h
   ·exact Qc h
  ·have e:L=L.take k ++ L[k] :: L.drop (k+1):=by rw [VD,Ja]
   rw [e] at h;rcases JG.1 h with h | h
   ·exact .inl (Jo _ h)
   ·rcases Km.1 h with rfl | h
    ·exact .inr (xY.1 hW)
    ·exact .inl (Jp _ h)
theorem add_mem {D D':List Wl} {x:Pt} (hg:∀ X∈D,GoodW X) (h:AddD D x D'):(∀ X∈D,X∈D'\/∃ Y,D.find? (onD x)=some Y/\X.A=Y.A/\X.B=Y.B/\(⟨Y.A,x,Y.K⟩:Wl)∈D'/\(⟨x,Y.B,Y.K⟩:Wl)∈D')/\(∀ X∈D',X∈D\/∃ Y,D.find? (onD x)=some Y/\(X=⟨Y.A,x,Y.K⟩\/X=⟨x,Y.B,Y.K⟩)):=by
 rcases h with ⟨_,rfl⟩ | ⟨Y,r,D1,k1,k2,hY,hR,_,_,rfl⟩
 ·exact ⟨λX h=>.inl h,λX h=>.inl h⟩
 ·obtain ⟨lA,lB⟩:=vP (hg _ (Jr hY));rw [(Xk Y.A Y.B).1,(Xk Y.A Y.B).2,lA,lB] at hR;obtain ⟨m1,m2⟩:=rem_mem hR;refine ⟨λX hX=>?_,λX hX=>?_⟩
  ·rcases m2 X hX with k | k
   ·exact .inl ((gn_ins _).2 (.inr ((gn_ins _).2 (.inr k))))
   ·exact .inr ⟨Y,hY,k.1,k.2,(gn_ins _).2 (.inr ((gn_ins _).2 (.inl rfl))),(gn_ins _).2 (.inl rfl)⟩
  ·rcases (gn_ins _).1 hX with k | k
   ·exact .inr ⟨Y,hY,.inr k⟩
   ·rcases (gn_ins _).1 k with k | k
    ·exact .inr ⟨Y,hY,.inl k⟩
    ·exact .inl (m1 X k)
theorem onD_un {x:Pt} {Y:Wl} (h:onD x Y=true):onR x Y.A Y.B=true/\x≠Y.A/\x≠Y.B:=by
 unfold onD at h;simp only [Ko,V8,QB] at h;exact ⟨h.2.2,h.1,h.2.1⟩
section
variable {s:Int} {E E':Es} {L L':List Tri3} {D D':List Wl} {x:Pt}
theorem walls_old (i:CInvW s s E L D) (i':CInvW s s E' L' D') (hA:AddD D x D'):∀ S∈L,∀ R∈L,∀ a b c d,Cyc S a b c->Cyc R b a d->wll D a b->∀ (M:Int) (z:Pt),0 < M->det (sc M a) (sc M b) z=0->0<=det (sc M b) (sc M c) z->0<=det (sc M c) (sc M a) z->OnE L' M z:=by
 intro S hS R hR a b c d cS cR w M z hM z1 z2 z3;have p1:=i.fix.tiles.cyc_pos hS cS;obtain ⟨X,hX,hab⟩:=wll_ex w;rcases (add_mem i.wal.good hA).1 X hX with k | ⟨Y,hY,e1,e2,m1,m2⟩
 ·have he:=i'.wal.edge X k;rcases hab with ⟨rfl,rfl⟩ | ⟨rfl,rfl⟩
  ·exact on_edge i'.fix.tiles he p1 z1 z2 z3
  ·exact on_edge i'.fix.tiles he.turn p1 z1 z2 z3
 ·have gY:=i.wal.good Y (Jr hY);obtain ⟨ho,nA,nB⟩:=onD_un (VC hY);have hh:(onR x a b=true/\x≠a/\x≠b/\vld a=true/\vld b=true)/\edgeL L' a x/\edgeL L' x b:=by
   rw [e1,e2] at hab;have h1:=i'.wal.edge _ m1;have h2:=i'.wal.edge _ m2;rcases hab with ⟨rfl,rfl⟩ | ⟨rfl,rfl⟩
   ·exact ⟨⟨ho,nA,nB,gY.va,gY.vb⟩,h1,h2⟩
   ·exact ⟨⟨by rw [onR_swap];exact ho,nB,nA,gY.vb,gY.va⟩,h2.turn,h1.turn⟩
  obtain ⟨⟨ho,na,nb,va,vb⟩,h1,h2⟩:=hh;have e:=edg_of va vb ho na nb p1;obtain ⟨q1,q2,q3⟩:=zP p1;have c1:det x b c=det b c x:=by unfold det;grind
  have c2:det a x c=det c a x:=by unfold det;grind
  by_cases hz:0<=det (sc M x) (sc M c) z
  ·exact on_edge i'.fix.tiles h1 (by rw [c2];exact e.2.2) (col_zero q1 e.1 z1) hz z3
  ·refine on_edge i'.fix.tiles h2 (by rw [c1];exact e.2.1) ?_ z2 (by rw [zV];omega);have:=col_zero (M:=M) (a:=b) (b:=a) (x:=x) (z:=z) (Ne.symm q1) (by rw [zV];have:=e.1;omega) (by rw [zV];omega);rw [zV];omega
theorem walls_new (i:CInvW s s E L D) (i':CInvW s s E' L' D') (hA:AddD D x D'):∀ S∈L',∀ R∈L',∀ a b c d,Cyc S a b c->Cyc R b a d->wll D' a b->∀ (M:Int) (z:Pt),0 < M->det (sc M a) (sc M b) z=0->0<=det (sc M b) (sc M c) z->0<=det (sc M c) (sc M a) z->OnE L M z:=by
 intro S hS R hR a b c d cS cR w M z hM z1 z2 z3;have p1:=i'.fix.tiles.cyc_pos hS cS;obtain ⟨X,hX,hab⟩:=wll_ex w;rcases (add_mem i.wal.good hA).2 X hX with k | ⟨Y,hY,hXY⟩
 ·have he:=i.wal.edge X k;rcases hab with ⟨rfl,rfl⟩ | ⟨rfl,rfl⟩
  ·exact on_edge i.fix.tiles he p1 z1 z2 z3
  ·exact on_edge i.fix.tiles he.turn p1 z1 z2 z3
 ·have mY:=Jr hY;have gY:=i.wal.good Y mY;obtain ⟨ho,nA,nB⟩:=onD_un (VC hY);have he:=i.wal.edge Y mY;have hne:=(i.fix.tiles.edge_box he).2.2;have ho2:onR x Y.B Y.A=true:=by rw [onR_swap];exact ho
  rcases hXY with rfl | rfl
  ·rcases hab with ⟨rfl,rfl⟩ | ⟨rfl,rfl⟩
   ·obtain ⟨k1,k2,k3,k4⟩:=part_one gY.va gY.vb ho nA nB hne p1 z1 z2 z3;exact on_edge i.fix.tiles he k1 k2 k3 k4
   ·obtain ⟨k1,k2,k3,k4⟩:=part_two gY.vb gY.va ho2 nB nA (Ne.symm hne) p1 z1 z2 z3;exact on_edge i.fix.tiles he.turn k1 k2 k3 k4
  ·rcases hab with ⟨rfl,rfl⟩ | ⟨rfl,rfl⟩
   ·obtain ⟨k1,k2,k3,k4⟩:=part_two gY.va gY.vb ho nA nB hne p1 z1 z2 z3;exact on_edge i.fix.tiles he k1 k2 k3 k4
   ·obtain ⟨k1,k2,k3,k4⟩:=part_one gY.vb gY.va ho2 nB nA (Ne.symm hne) p1 z1 z2 z3;exact on_edge i.fix.tiles he.turn k1 k2 k3 k4
theorem near_keep (h0:0 < s) (h1:s < 16777216) (i:CInvW s s E L D) (i':CInvW s s E' L' D') (hA:AddD D x D') (hx:inBox s s x) (hn:¬ someC L x) (hc:∀ q,someC L' q↔someC L q\/q=x):(∀ T∈L,circ T.A T.B T.C x≠1->T∈L')/\(∀ U∈L',¬ isCnr U x->U∈L):=by
 obtain ⟨ht,hh⟩:=Ki;have W1:=walls_old i i' hA;have W2:=walls_new i i' hA;have vb:∀ q,inBox s s q->vld q=true:=λq hq=>by rw [zj];unfold inBox at hq;omega
 refine ⟨λT mT hcirc=>?_,λU mU hU=>?_⟩
 ·have hxT : pH ht x T <= 0 := by
    have nc:¬ isCnr T x:=λk=>hn ⟨T,mT,k⟩;unfold isCnr at nc;simp only [U8] at nc;obtain ⟨b1,b2,b3⟩:=i.fix.tiles.box T mT;have sg:=hh.sign T.A T.B T.C x (vb _ b1) (vb _ b2) (vb _ b3) (vb _ hx) (i.fix.tiles.pos T mT) nc.1 nc.2.1 nc.2.2;unfold pH;omega
  obtain ⟨T1,m1,c1⟩:=one_meshG h0 h0 h1 h1 i'.fix.tiles hh (i.fix.tiles.pos T mT) (i.fix.tiles.box T mT)
   (λT1 m1 M z hM z2 z1 q hq=>seenG h1 h1 i'.fix i.fix.tiles W2 hh mT hq ((hc q).2 (.inl ⟨T,mT,hq⟩)) m1 hM z2 z1)
   (λT1 m1 M z hM z2 z1 q hq=>by
    by_cases e:q=x
    ·rw [e];exact hxT
    ·have hq':someC L q:=((hc q).1 ⟨T1,m1,hq⟩).resolve_right e;exact seenG h1 h1 i.fix i'.fix.tiles W1 hh m1 hq hq' mT hM z2 z1)
  rw [<-val_cyc (i'.good.val T1 m1) (i.good.val T mT) c1];exact m1
 ·obtain ⟨T1, m1, c1⟩ := one_meshG h0 h0 h1 h1 i.fix.tiles hh (i'.fix.tiles.pos U mU) (i'.fix.tiles.box U mU)
    (λT1 m1 M z hM z2 z1 q hq=>by
     have hq':someC L q:=((hc q).1 ⟨U,mU,hq⟩).resolve_right (λe=>hU (e▸hq));exact seenG h1 h1 i.fix i'.fix.tiles W1 hh mU hq hq' m1 hM z2 z1)
    (λT1 m1 M z hM z2 z1 q hq=>seenG h1 h1 i'.fix i.fix.tiles W2 hh m1 hq ((hc q).2 (.inl ⟨T1,m1,hq⟩)) mU hM z2 z1)
  rw [<-val_cyc (i.good.val T1 m1) (i'.good.val U mU) c1];exact m1
end
theorem row_keep {w w':World} {p:Nat->Prop} {a:Option Addr} {L:List Tri3} (h:RowAt cT 6 w a L) (F:Frm w w' p) (hn:∀ ad,a=some ad->¬ p ad.block):RowAt cT 6 w' a L:=λj x hx=>by
 obtain ⟨ad,ea,hlt,hc⟩:=h j x hx;refine ⟨ad,ea,QI hlt F.size,λi u hu=>?_⟩;have:=hc i u hu;have hb:=F.block ad.block hlt (hn ad ea);unfold World.cell? at *;rw [zi,zi] at *;rw [hb];exact this
theorem gn_facts {s:Int} (hs:0 < s) (hs2:s<=40) {x:Pt} {E E':Es} {L L':List Tri3} {D D':List Wl} {r:Int} (hx:inBox s s x) (i:CInvW s s E L D) (i':CInvW s s E' L' D') (T:GTold s L D x r L' D'):(r=0\/r=5)/\(r=5->∀ T∈L,hasE E' T=true)/\(∀ T∈L,circ T.A T.B T.C x≠1->hasE E' T=true)/\(∀ U∈L',hasE E U=true\/isCb x U=true):=by
 obtain ⟨t1,t2,_,_,t3,t4⟩:=T;have hr:r=0\/r=5:=by
  rcases t1 with ⟨_,h⟩ | ⟨h,_⟩ | ⟨h,_⟩
  ·exact absurd hx h
  ·exact .inr h
  ·exact .inl h
 by_cases h0:r=0
 ·have hn : ¬ someC L x := by
    rcases t1 with ⟨_,h⟩ | ⟨h,_⟩ | ⟨_,_,h⟩
    ·exact absurd hx h
    ·omega
    ·exact h
  obtain ⟨k1,k2⟩:=near_keep hs (by omega) i i' (t3 h0).1 hx hn (λq=>by rw [t2];simp only [hx,Va]);refine ⟨hr,λh=>by omega,λT mT hc=>i'.good.has.2 (k1 T mT hc),λU mU=>?_⟩;by_cases hU:isCnr U x
  ·exact .inr (kj.2 hU)
  ·exact .inl (i.good.has.2 (k2 U mU hU))
 ·obtain ⟨e1,_⟩:=t4 h0;subst e1;exact ⟨hr,λ_ T mT=>i'.good.has.2 mT,λT mT _=>i'.good.has.2 mT,λU mU=>.inl (i.good.has.2 mU)⟩
theorem gn_cases {U:Tri3} {p:Pt} (h:isCb p U=true):peqI U.A.x U.A.y p.x p.y=true\/(peqI U.A.x U.A.y p.x p.y=false/\peqI U.B.x U.B.y p.x p.y=true)\/(peqI U.A.x U.A.y p.x p.y=false/\peqI U.B.x U.B.y p.x p.y=false/\peqI U.C.x U.C.y p.x p.y=true):=by
 have h':=kj.1 h;unfold isCnr at h';have k:∀ q:Pt,p=q->peqI q.x q.y p.x p.y=true:=λq e=>by subst e;rw [zo];simp
 cases e1:peqI U.A.x U.A.y p.x p.y with
 | true=>exact .inl rfl
 | false=>
  cases e2:peqI U.B.x U.B.y p.x p.y with
  | true=>exact .inr (.inl ⟨rfl,rfl⟩)
  | false=>
   refine .inr (.inr ⟨rfl,rfl,?_⟩);rcases h' with e | e | e
   ·rw [k _ e] at e1;cases e1
   ·rw [k _ e] at e2;cases e2
   ·exact k _ e
theorem gcut_out (T:Tri3) (p:Pt) (h0:hasP T p=false) (w:World):Calls prog 15 #[T,p] w (Rt w (.slice none 0 0)):=by
 have cH:=Zn T p;rw [Xq,h0] at cH;clear h0
 go_enter func15,ntmps15
 go_wp2_with fail;refine zI λW1 hW=>?_;have hw:Below w w W1:=by rw [hW];go_grown
 clear hW;refine (cH _).mono ?_;rintro e w2 ⟨rfl,hb⟩;replace hw:=upB hw hb;clear hb cH;go_wp2
 go_ret
 exact ⟨rfl,hw⟩
theorem gcut_at (T:Tri3) (p:Pt) (h0:hasP T p=true) (h1:isCb p T=true) (w:World):Calls prog 15 #[T,p] w (Rt w (.slice none 0 0)):=by
 have cH:=Zn T p;rw [Xq,h0] at cH;have cC:=uT T p;rw [h1] at cC;clear h0 h1
 go_enter func15,ntmps15
 go_wp2_with fail;refine qE2 λW1 Bt Ba hw=>?_;refine (cH _).mono ?_;rintro e w2 ⟨rfl,hb⟩;obtain ⟨Bt,Ba,hw,-⟩:=qX2 Bt Ba hw hb;clear hb cH;have Gk:=J2 Bt.f Ba.f;go_wp2_with fail;refine (cC _).mono ?_;rintro e w3 ⟨rfl,hb⟩;clear Gk;replace hw:=upB hw hb;clear hb cC;go_wp2
 go_ret
 exact ⟨rfl,hw⟩
theorem ZA (T:Tri3) (p:Pt) (w:World):Calls prog 15 #[T,p] w λe w'=>∃ a cap,e=.returned (.slice a (cutS p T).length cap)/\RowAt cT 6 w' a (cutS p T)/\Below w w w':=by
 have none (h:cutOk T p=false):cutS p T=[]:=by unfold cutS cutR;rw [Kl (by rw [h];decide)];exact (zS []).eq_nil
 cases h0:hasP T p with
 | false=>
  rw [none (by unfold cutOk;rw [h0];rfl)];refine (gcut_out T p h0 w).mono ?_;rintro e w' ⟨rfl,hb⟩;exact ⟨_,_,rfl,λj x hx=>by simp at hx,hb⟩
 | true=>
  cases h1:isCb p T with
  | true=>
   have hc:=kj.1 h1;rw [none (by
    unfold cutOk isCnr at *;have k:∀ q:Pt,peqI q.x q.y q.x q.y=true:=λq=>by rw [zo];simp
    rcases hc with rfl | rfl | rfl <;> rw [k] <;> simp)]
   refine (gcut_at T p h0 h1 w).mono ?_;rintro e w' ⟨rfl,hb⟩;exact ⟨_,_,rfl,λj x hx=>by simp at hx,hb⟩
  | false=>
   have hv:valT T=true/\vld p=true:=by
    unfold hasP at h0;simp only [Ko] at h0;exact ⟨h0.1,h0.2.1⟩
   rw [XL h0 h1];refine (XC T p h0 h1 (XM hv.1 hv.2 ((Z7 hv.1 hv.2).1 h0)) w).mono ?_;rintro e w' ⟨g,cap,rfl,hr,_,hb⟩;exact ⟨_,_,rfl,hr,hb⟩
theorem k9_sq:∀ x∈[sqW 2 2 0,sqW 2 2 1,sqW 2 2 2,sqW 2 2 3],x.K=2/\onD ⟨1,1⟩ x=false/\(onD ⟨1,0⟩ x=true->x.A=⟨0,0⟩/\x.B=⟨2,0⟩):=by decide
theorem k9_on:onD ⟨1,0⟩ (sqW 2 2 0)=true:=by decide
theorem k9_mid {L:List Tri3} {D:List Wl} (h:Sq0 2 L D):D.find? (onD ⟨1,1⟩)=none:=QG.2 λx hx=>by rw [(k9_sq x (h.2.mem_iff.1 hx)).2.1];decide
theorem k9_rim {L:List Tri3} {D D':List Wl} (h:Sq0 2 L D) (hA:AddD D ⟨1,0⟩ D'):(D.find? (onD ⟨1,0⟩)).isSome=true/\kindW D' ⟨0,0⟩ ⟨1,0⟩=2:=by
 have h1:(D.find? (onD ⟨1,0⟩)).isSome=true:=List.find?_isSome.2 ⟨_,h.2.mem_iff.2 (JU ..),k9_on⟩;refine ⟨h1,?_⟩;have hk:∀ x∈D',x.K=2:=λx hx=>by
  obtain ⟨y,hy,e⟩:=Xg hA x hx;rw [e];exact (k9_sq y (h.2.mem_iff.1 hy)).1
 rcases hA with ⟨n1,_⟩ | ⟨X,r,D1,k1,k2,hX,_,_,_,rfl⟩
 ·rw [n1] at h1;cases h1
 ·obtain ⟨eA,eB⟩:=(k9_sq X (h.2.mem_iff.1 (Jr hX))).2.2 (VC hX);have hm:(⟨X.A,⟨1,0⟩,X.K⟩:Wl)∈insW (insW D1 ⟨X.A,⟨1,0⟩,X.K⟩ k1) ⟨⟨1,0⟩,X.B,X.K⟩ k2:=(yk _ _ _).mem_iff.2 (.tail _ ((yk _ _ _).mem_iff.2 (.head _)));unfold kindW;cases hf:(insW (insW D1 ⟨X.A,⟨1,0⟩,X.K⟩ k1) ⟨⟨1,0⟩,X.B,X.K⟩ k2).find? (isW ⟨0,0⟩ ⟨1,0⟩) with
  | none=>
   have:=QG.1 hf _ hm;exact absurd (show isW ⟨0,0⟩ ⟨1,0⟩ (⟨X.A,⟨1,0⟩,X.K⟩:Wl)=true from xY.2 ⟨eA,rfl⟩) this
  | some x=>exact hk x (Jr hf)
theorem k9_put {L:List Tri3} (c:∀ q,someC L q↔PutPt 2 [] q):inBox 2 2 ⟨1,1⟩/\¬ someC L ⟨1,1⟩/\inBox 2 2 ⟨1,0⟩/\¬ someC L ⟨1,0⟩/\¬ inBox 2 2 ⟨3,0⟩/\¬ atRim 2 2 ⟨1,1⟩/\atRim 2 2 ⟨1,0⟩:=by
 rw [c,c];unfold PutPt inBox atRim;refine ⟨by decide,?_,by decide,?_,by decide,by decide,by decide⟩
 ·rintro ((h | h | h | h) | ⟨x,hx,_⟩)
  ·revert h;decide
  ·revert h;decide
  ·revert h;decide
  ·revert h;decide
  ·cases hx
 ·rintro ((h | h | h | h) | ⟨x,hx,_⟩)
  ·revert h;decide
  ·revert h;decide
  ·revert h;decide
  ·revert h;decide
  ·cases hx
theorem Kg:cutS ⟨1,1⟩ ⟨⟨0,0⟩,⟨2,0⟩,⟨2,2⟩⟩=srt cmpT (cutP ⟨1,1⟩ ⟨⟨0,0⟩,⟨2,0⟩,⟨2,2⟩⟩)/\(cutP ⟨1,1⟩ ⟨⟨0,0⟩,⟨2,0⟩,⟨2,2⟩⟩).length=2/\cutR ⟨⟨0,0⟩,⟨2,0⟩,⟨2,2⟩⟩ ⟨0,0⟩=[]:=by
 refine ⟨XL (by decide) (by decide),by decide,by decide⟩
theorem k9_len {L:List Tri3} (h:L.length=5) {E:Es} (g:Good E L):E.length=3 * 5:=by rw [g.len,h]
theorem gpoint_nil (v:Value) (x y:Int) (w:World):Calls prog 12 #[.pointer none,v,.agg #[x,y]] w (Rt w (.int .i64 16)):=by
 go_enter func12,ntmps12
 go_wp2_with fail
 go_ret
 exact ⟨rfl,by go_grown⟩
theorem k9_all {L L1 L2 L3 L4:List Tri3} {D D1 D2 D3 D4:List Wl} {r1 r2 r3 r4:Int} (h0:Sq0 2 L D) (c:∀ q,someC L q↔PutPt 2 [] q) (t1:GTold 2 L D ⟨1,1⟩ r1 L1 D1) (t2:GTold 2 L1 D1 ⟨1,1⟩ r2 L2 D2) (t3:GTold 2 L2 D2 ⟨3,0⟩ r3 L3 D3) (t4:GTold 2 L3 D3 ⟨1,0⟩ r4 L4 D4):r1=0/\r2=5/\r3=1/\r4=0/\L4.length=5/\D4.length=5/\kindW D4 ⟨0,0⟩ ⟨1,0⟩=2:=by
 obtain ⟨q1,q2,q3,q4,q5,q6,q7⟩:=k9_put c;have e1:r1=0:=by
  rcases t1.1 with ⟨_,h⟩ | ⟨_,_,h⟩ | ⟨h,_⟩
  ·exact absurd q1 h
  ·exact absurd h q2
  ·exact h
 obtain ⟨a1,b1,d1⟩:=t1.2.2.2.2.1 e1;have m1:D1=D:=by
  rcases a1 with ⟨_,h⟩ | ⟨X,_,_,_,_,h,_⟩
  ·exact h
  ·rw [k9_mid h0] at h;cases h
 have l1:L1.length=4:=by rcases b1 with ⟨h,_⟩ | ⟨_,h⟩;rw [h,h0.1];exact absurd h q6
 have s1:someC L1 ⟨1,1⟩:=(t1.2.1 _).2 (.inr ⟨rfl,q1⟩);have e2:r2=5:=by
  rcases t2.1 with ⟨_,h⟩ | ⟨h,_⟩ | ⟨_,_,h⟩
  ·exact absurd q1 h
  ·exact h
  ·exact absurd s1 h
 obtain ⟨x2,y2⟩:=t2.2.2.2.2.2 (by omega);have e3:r3=1:=by
  rcases t3.1 with ⟨h,_⟩ | ⟨_,h,_⟩ | ⟨_,h,_⟩
  ·exact h
  ·exact absurd h q5
  ·exact absurd h q5
 obtain ⟨x3,y3⟩:=t3.2.2.2.2.2 (by omega);subst m1 x2 y2 x3 y3;have n4:¬ someC L3 ⟨1,0⟩:=λh=>by
  rcases (t1.2.1 _).1 h with k | ⟨k,_⟩
  ·exact q4 k
  ·revert k;decide
 have e4:r4=0:=by
  rcases t4.1 with ⟨_,h⟩ | ⟨_,_,h⟩ | ⟨h,_⟩
  ·exact absurd q3 h
  ·exact absurd h n4
  ·exact h
 obtain ⟨a4,b4,d4⟩:=t4.2.2.2.2.1 e4;obtain ⟨k1,k2⟩:=k9_rim h0 a4;have ld:D3.length=4:=by rw [h0.2.length_eq];rfl
 refine ⟨e1,e2,e3,e4,?_,?_,k2⟩
 ·rcases b4 with ⟨_,h⟩ | ⟨h,_⟩
  ·exact absurd q7 h
  ·omega
 ·rw [d4,k1,ld];rfl
theorem awake9_of (cb:∀ W,Calls prog 11 #[.int .i64 2,.slice none 0 0,.slice none 0 0] W (Built9Post 2 [] 0 W)) (w:World):Calls prog 10 #[] w (Rt w (.bool true)):=by
 go_enter func10,ntmps10
 go_wp2_with fail;refine (cb _).mono ?_;rintro e w1 ⟨n0,m,b,sb,v,_,_,_,_,_,E0,E1,L,D,rfl,B,H,G,S,_,hI,hC,hL,hD,hS,hw,_,_,hn,_,hm1,hb1,hs1,ho1,_,hF⟩;have HQ0:=hdd (show Sq0 2 L D/\∀ q,someC L q↔PutPt 2 [] q from ⟨hS rfl rfl,hC⟩);have S1:GSt 2 w1 m b sb v E0 L D:=⟨B,H,S,⟨G,hI.fix,hI.kinds,hI.wal,hI.rim⟩,hF⟩;have HN:=hdd (show w.heap.size<=m/\w.heap.size<=b/\∀ k,Foot sb v k->w.heap.size<=k from ⟨by omega,by omega,λk h=>by rcases h with h | h;omega;have:=ho1 k h;omega⟩);have HL:=hdd (show L.length<=2/\D.length<=6000 from ⟨hL,hD⟩);clear cb B H G S hI hC hL hD hS hn hm1 hb1 hs1 ho1 hF;go_wp2_with fail;refine zI λW1 hW=>?_;obtain ⟨bp,hbp⟩:∃ b,w1.heap.size=b:=⟨_,rfl⟩;rw [hbp];have Bp:Box W1 bp [.int .i64 1,.int .i64 1] 26:=by rw [hW];exact (Box.new hbp.symm).old _
 have Bt:Box W1 (bp+1) [(),(),.int .i64 2,(),.int .i64 2,.int .i64 2] 28:=by rw [hW];exact Box.new (by simp [hbp])
 have pA:=S1.apt (k:=bp) (by omega);have tA:=S1.apt (k:=bp+1) (by omega);have hb:Below w1 w1 W1:=by rw [hW];go_grown
 replace S1:=S1.ee hb;replace hw:=upB hw hb;clear hW hb hbp;have cC:=ZA ⟨⟨0,0⟩,⟨2,0⟩,⟨2,2⟩⟩ ⟨1,1⟩;rw [show (cutS ⟨1,1⟩ ⟨⟨0,0⟩,⟨2,0⟩,⟨2,2⟩⟩).length=2 by rw [Kg.1,(zS _).length_eq,Kg.2.1]] at cC;refine (cC _).mono ?_;rintro e w2 ⟨ac,cc,rfl,_,hb⟩;replace S1:=S1.ee hb;obtain ⟨Bp,Bt,hw,-⟩:=qX2 Bp Bt hw hb;clear hb cC;have FP1:=Bp.f;go_wp2_with fail;refine (gstep 2 (by omega) (by omega) S1 (by have:=HL.o;omega) (by have:=HL.o;omega) ⟨1,1⟩).mono ?_;rintro e w3 ⟨r1,Q1,L1,D1,v1,rfl,S2,T1,F,f⟩;clear FP1;have hz:=hw.size;replace hw:=hw.trans (F.below (λk h=>by rcases h with rfl | h;exact HN.o.2.1;exact HN.o.2.2 k h) hw.size);have hp0:=Bp.lt;have ht0:=Bt.lt;replace Bp:=pA.box Bp F;replace Bt:=tA.box Bt F;replace pA:=pA.step f hp0;replace tA:=tA.step f ht0;replace HN:=hdd (show w.heap.size<=m/\w.heap.size<=b/\∀ k,Foot sb v1 k->w.heap.size<=k from ⟨HN.o.1,HN.o.2.1,λk h=>by
  rcases h with h | h
  ·exact HN.o.2.2 k (.inl h)
  ·rcases f k h with h | h
   ·exact HN.o.2.2 k (.inr h)
   ·omega⟩)
 clear F f hp0 ht0 hz;have FP2:=Bp.f;go_wp2_with fail;refine (gstep 2 (by omega) (by omega) S2 (by have:=HL.o;have:=T1.2.2.1;omega) (by have:=HL.o;have:=T1.2.2.2.1;omega) ⟨1,1⟩).mono ?_;rintro e w4 ⟨r2,Q2,L2,D2,v2,rfl,S3,T2,F,f⟩;clear FP2;have hz:=hw.size;replace hw:=hw.trans (F.below (λk h=>by rcases h with rfl | h;exact HN.o.2.1;exact HN.o.2.2 k h) hw.size);have hp0:=Bp.lt;have ht0:=Bt.lt;replace Bp:=pA.box Bp F;replace Bt:=tA.box Bt F;replace pA:=pA.step f hp0;replace tA:=tA.step f ht0;replace HN:=hdd (show w.heap.size<=m/\w.heap.size<=b/\∀ k,Foot sb v2 k->w.heap.size<=k from ⟨HN.o.1,HN.o.2.1,λk h=>by
  rcases h with h | h
  ·exact HN.o.2.2 k (.inl h)
  ·rcases f k h with h | h
   ·exact HN.o.2.2 k (.inr h)
   ·omega⟩)
 clear F f hp0 ht0 hz;have FP3:=Bp.f;go_wp2_with fail;refine (gstep 2 (by omega) (by omega) S3 (by have:=HL.o;have:=T1.2.2.1;have:=T2.2.2.1;omega) (by have:=HL.o;have:=T1.2.2.2.1;have:=T2.2.2.2.1;omega) ⟨3,0⟩).mono ?_;rintro e w5 ⟨r3,Q3,L3,D3,v3,rfl,S4,T3,F,f⟩;clear FP3;have hz:=hw.size;replace hw:=hw.trans (F.below (λk h=>by rcases h with rfl | h;exact HN.o.2.1;exact HN.o.2.2 k h) hw.size);have hp0:=Bp.lt;have ht0:=Bt.lt;replace Bp:=pA.box Bp F;replace Bt:=tA.box Bt F;replace pA:=pA.step f hp0;replace tA:=tA.step f ht0;replace HN:=hdd (show w.heap.size<=m/\w.heap.size<=b/\∀ k,Foot sb v3 k->w.heap.size<=k from ⟨HN.o.1,HN.o.2.1,λk h=>by
  rcases h with h | h
  ·exact HN.o.2.2 k (.inl h)
  ·rcases f k h with h | h
   ·exact HN.o.2.2 k (.inr h)
   ·omega⟩)
 clear F f hp0 ht0 hz;have FP4:=Bp.f;go_wp2_with fail;refine (gstep 2 (by omega) (by omega) S4 (by have:=HL.o;have:=T1.2.2.1;have:=T2.2.2.1;have:=T3.2.2.1;omega) (by have:=HL.o;have:=T1.2.2.2.1;have:=T2.2.2.2.1;have:=T3.2.2.2.1;omega) ⟨1,0⟩).mono ?_;rintro e w6 ⟨r4,Q4,L4,D4,v4,rfl,S5,T4,F,f⟩;clear FP4;have hz:=hw.size;replace hw:=hw.trans (F.below (λk h=>by rcases h with rfl | h;exact HN.o.2.1;exact HN.o.2.2 k h) hw.size);have hp0:=Bp.lt;have ht0:=Bt.lt;replace Bp:=pA.box Bp F;replace Bt:=tA.box Bt F;replace pA:=pA.step f hp0;replace tA:=tA.step f ht0;replace HN:=hdd (show w.heap.size<=m/\w.heap.size<=b/\∀ k,Foot sb v4 k->w.heap.size<=k from ⟨HN.o.1,HN.o.2.1,λk h=>by
  rcases h with h | h
  ·exact HN.o.2.2 k (.inl h)
  ·rcases f k h with h | h
   ·exact HN.o.2.2 k (.inr h)
   ·omega⟩)
 clear F f hp0 ht0 hz;obtain ⟨x1,x2,x3,x4,x5,x6,x7⟩:=k9_all HQ0.o.1 HQ0.o.2 T1 T2 T3 T4;subst x1 x2 x3 x4;have cL:=λW B H=>uM m b Q4 5 (hdd (k9_len x5 S5.inv.good)) (by omega) W B H;obtain ⟨aw,cw,hvw,R5⟩:=S5.set.rd;have cW:=λW R=>Yy sb aw cw D4.length D4 W R;rw [x6] at cW;have cK:=λW R=>qO sb aw cw D4.length D4 ⟨0,0⟩ ⟨1,0⟩ W R;rw [show lo2 ⟨0,0⟩ ⟨1,0⟩=⟨0,0⟩ by decide,show hi2 ⟨0,0⟩ ⟨1,0⟩=⟨1,0⟩ by decide,x7] at cK;rw [x6] at cK R5;clear hvw;have FP:=Bp.f;have FT:=Bt.f;go_wp2_with fail;refine (cL _ S5.box S5.map).mono ?_;rintro e w7 ⟨rfl,hb⟩;replace Bp:=Bp.ee hb;replace Bt:=Bt.ee hb;replace R5:=R5.ee hb;replace hw:=upB hw hb;clear hb FP FT;have FP:=Bp.f;have FT:=Bt.f;go_wp2_with fail;refine (cW _ R5).mono ?_;rintro e w8 ⟨rfl,hb⟩;replace Bp:=Bp.ee hb;replace Bt:=Bt.ee hb;replace R5:=R5.ee hb;replace hw:=upB hw hb;clear hb FP FT;have FP:=Bp.f;have FT:=Bt.f;go_wp2_with fail;refine (cK _ R5).mono ?_;rintro e w9 ⟨rfl,hb⟩;replace Bp:=Bp.ee hb;replace Bt:=Bt.ee hb;replace R5:=R5.ee hb;replace hw:=upB hw hb;clear hb FP FT;have FP:=Bp.f;have FT:=Bt.f;go_wp2_with fail;refine (gpoint_nil _ _ _ _).mono ?_;rintro e w10 ⟨rfl,hb⟩;replace Bp:=Bp.ee hb;replace Bt:=Bt.ee hb;replace R5:=R5.ee hb;replace hw:=upB hw hb;clear hb FP FT;have FP:=Bp.f;have FT:=Bt.f;go_wp2_with fail;have cE:=ZA ⟨⟨0,0⟩,⟨2,0⟩,⟨2,2⟩⟩ ⟨0,0⟩;rw [show (cutS ⟨0,0⟩ ⟨⟨0,0⟩,⟨2,0⟩,⟨2,2⟩⟩).length=0 by unfold cutS;rw [(zS _).length_eq,Kg.2.2];rfl] at cE;refine (cE _).mono ?_;rintro e w11 ⟨ac2,cc2,rfl,_,hb⟩;replace hw:=upB hw hb;go_wp2
 go_ret
 exact ⟨rfl,hw⟩
theorem xo (w:World):Calls prog 10 #[] w (Rt w (.bool true)):=
 awake9_of (λW=>jl 2 (by omega) (by omega) none none 0 0 0 0 [] (hdd rfl) (by omega) [] (hdd rfl) (by omega) W (λj x hx=>by simp at hx) (λj x hx=>by simp at hx)) w
theorem ub (s:Int) (a0 a1:Option Addr) (n m c0 c1:Nat) (w:World):Calls prog 9 #[s,.slice a0 n c0,.slice a1 m c1] w λe w'=>e=.returned (.bool (decide (1<=s) && (decide (s<=40) && (decide (n<=25) && decide (m<=12)))))/\Below w w w':=by
 have e1:decide (1<=s)=decide ((1:Int)<=s):=rfl;have e3:decide (n<=25)=decide ((n:Int)<=25):=by simp;omega
 have e4:decide (m<=12)=decide ((m:Int)<=12):=by simp;omega
 rw [e3,e4];clear e1 e3 e4;cases h1:decide ((1:Int)<=s) <;> cases h2:decide (s<=40) <;> cases h3:decide ((n:Int)<=25) <;> cases h4:decide ((m:Int)<=12)
 all_goals
  go_enter func9,ntmps9
  go_wp2
  go_ret
  exact ⟨rfl,by go_grown⟩
theorem gn_no (s:Int) (a0 a2:Option Addr) (n q c0 c2:Nat) (N:Int) (hf:(decide (1<=s) && (decide (s<=40) && (decide (n<=25) && decide (q<=12))))=false) (w:World):Calls prog 6 #[s,.slice a0 n c0,.slice a2 q c2,N] w (Rt w (.bool true)):=by
 have cf:=λW=>ub s a0 a2 n q c0 c2 W;rw [hf] at cf;clear hf
 go_enter func6,ntmps6
 go_wp2_with fail;refine (cf _).mono ?_;rintro e w1 ⟨rfl,hb⟩;go_wp2_with fail;refine (xo _).mono ?_;rintro e w2 ⟨rfl,hb2⟩;have hw:=(upB hb hb2);go_wp2
 go_ret
 exact ⟨rfl,hw⟩
theorem gn_yes (s:Int) (hs:0 < s) (hs2:s<=40) (a0:Option Addr) (n c0:Nat) (hn:n<=25) (P:List Int) (hP:Hi (P.length=n)) (a2:Option Addr) (q c2:Nat) (hq:q<=12) (Q:List Pt) (hQ:Hi (Q.length=q)) (N:Int) (w:World) (h0:RowAt cI 1 w a0 P) (hq0:RowAt cP 2 w a2 Q):Calls prog 6 #[s,.slice a0 n c0,.slice a2 q c2,N] w (Rt w (.bool true)):=by
 have cf:=λW=>ub s a0 a2 n q c0 c2 W;rw [show (decide (1<=s) && (decide (s<=40) && (decide (n<=25) && decide (q<=12))))=true by simp;omega] at cf;have csp:=vu s N hs (by omega);have HX:=hdd (YS hs N);generalize spt s N=x at csp HX
 have HS:=hdd (show 0 < s/\s<=40 from ⟨hs,hs2⟩);have HN:=hdd hn;have HQQ:=hdd hq;clear hs hs2 hn hq
 go_enter func6,ntmps6
 go_wp2_with fail;refine (cf _).mono ?_;rintro e w1 ⟨rfl,hw⟩;clear cf;go_wp2_with fail;refine (jl s HS.o.1 (by have:=HS.o.2;omega) a0 a2 n q c0 c2 P hP (by have:=HN.o;omega) Q hQ (by have:=HQQ.o;omega) w1 (h0.ee hw) (hq0.ee hw)).mono ?_;rintro e w2 hpost;obtain ⟨m2,b2,sb,v,cb,mb,b,db,vd,E,E1,L,D,rfl,U0,hL,hD,hb⟩:=built9_two hpost;have HLD:=hdd (show L.length<=52/\D.length<=6000 by have:=HN.o;have:=hP.o;omega);have HW1:=hdd hw.size;replace hw:=upB hw hb;generalize w1.heap.size=n1 at *
 clear hb hL hD h0 hq0 hpost;go_wp2_with fail;refine (csp _).mono ?_;rintro e w3 ⟨rfl,hb⟩;replace U0:=U0.ee hb;replace hw:=upB hw hb;clear hb csp;obtain ⟨v0,v1',v2',v3⟩:=U0.C.box.f;go_wp2_with fail;clear v0 v1' v2' v3;refine zI λW4 hW=>?_;obtain ⟨bq,hbq⟩:∃ b,w3.heap.size=b:=⟨_,rfl⟩;rw [hbq];have BQ:Box W4 bq [x.x,x.y] 26:=by rw [hW];exact Box.new hbq.symm
 have hb:Below w3 w3 W4:=by rw [hW];go_grown
 have hAq:=U0.S.apt (k:=bq) (by omega);replace U0:=U0.ee hb;replace hw:=upB hw hb;clear hW hb hbq;have hE1:E1.length<=1000000:=by rw [U0.I.good.len];have:=HLD.o;omega
 have cu:=λW B H=>rtris_own mb b E1 hE1 W B H;have hp0:(srt cmpT (heads (λ_=>true) E1)).Perm L:=(zS _).trans U0.I.good.heads;have HI0:=hdd (show ∀ T∈srt cmpT (heads (λ_=>true) E1),okT T/\T∈L from λT hT=>⟨ye (U0.I.good.val T (hp0.mem_iff.1 hT)),hp0.mem_iff.1 hT⟩);have hnI:(srt cmpT (heads (λ_=>true) E1)).length<=1000:=by rw [hp0.length_eq];have:=HLD.o;omega
 generalize srt cmpT (heads (λ_=>true) E1)=I at *
 generalize hnI2:I.length=nI at cu hnI
 have HNI:=hdd hnI2;have HNM:=hdd hnI;clear hnI hnI2 hp0 hE1;refine (cu _ U0.C.mesh U0.C.map).mono ?_;rintro e w8 ⟨aI,cI2,rfl,_,RI,hfI,hb⟩;have hAI:∀ ad,aI=some ad->Apt b2 sb v ad.block:=λad h=>U0.S.apt (hfI ad h);replace U0:=U0.ee hb;obtain ⟨BQ,hw,-⟩:=qX1 BQ hw hb;clear hb cu hfI;obtain ⟨v0,v1',v2',v3⟩:=BQ.f;have hn9:n1<=w8.heap.size:=JQ U0.A.lo.2.2.1 (UJ U0.C.map.lt);go_wp2_with fail;clear v0 v1' v2' v3;refine (gstep s HS.o.1 (by have:=HS.o.2;omega) U0.S (by have:=HLD.o;omega) (by have:=HLD.o;omega) x).mono ?_;rintro e w10 ⟨r,E',L',D',v',rfl,S',hT,F9,f9⟩;replace BQ:=hAq.box BQ F9;replace RI:=row_keep RI F9 (λad h k=>by
  rcases k with k | k
  ·exact (hAI ad h).1 k
  ·exact (hAI ad h).2 k)
 replace hw:Below w w w10:=hw.trans (F9.below (λk e=>by
  have:=HW1.o;rcases e with rfl | e
  ·have:=U0.A.lo.1;omega
  ·have:=U0.A.lo.2.1 k e;omega) hw.size)
 have U2:=U0.prog hn9 S' F9 f9;have hG:=gn_facts HS.o.1 HS.o.2 HX.o U0.I U2.S.inv hT;have HL2:=hdd (show L'.length<=54 by have:=HLD.o;have:=hT.2.2.1;omega);have HI:=hdd (show ∀ T∈I,okT T/\((circ T.A T.B T.C x≠1->hasE E' T=true)/\(r=5->hasE E' T=true)) from λT hT=>⟨(HI0.o T hT).1,hG.2.2.1 T (HI0.o T hT).2,λe=>hG.2.1 e T (HI0.o T hT).2⟩);have hp6:(srt cmpT (heads (λ_=>true) E')).Perm L':=(zS _).trans U2.S.inv.good.heads;have HUU:=hdd (show ∀ U∈srt cmpT (heads (λ_=>true) E'),okT U/\(hasE E1 U=true\/(hasE E1 U=false/\(peqI U.A.x U.A.y x.x x.y=true\/(peqI U.A.x U.A.y x.x x.y=false/\peqI U.B.x U.B.y x.x x.y=true)\/(peqI U.A.x U.A.y x.x x.y=false/\peqI U.B.x U.B.y x.x x.y=false/\peqI U.C.x U.C.y x.x x.y=true)))) from λU hU=>⟨ye (U2.S.inv.good.val U (hp6.mem_iff.1 hU)),by
  cases hh:hasE E1 U with
  | true=>exact .inl rfl
  | false=>exact .inr ⟨rfl,gn_cases ((hG.2.2.2 U (hp6.mem_iff.1 hU)).resolve_left (by rw [hh];decide))⟩⟩)
 have hr:=hG.1;clear U0 S' F9 f9 hn9 hAq hAI hT hG hp6 HI0;rcases hr with hr | hr <;> subst hr
 case inl=>
  go_wp2_with fail
  go_loopw [15] (λi wr=>∃ k:Nat,k<=nI/\i=.int .i64 k/\Below w10 w10 wr) (λi _=>nI - (intOf i).toNat)
  case atStart=>exact ⟨0,JZ _,rfl,Below.refl _ _⟩
  case round=>
   obtain ⟨k,hk,rfl,hz⟩:=hrel;by_cases hlt:k < nI
   case pos=>
    obtain ⟨ad,A1,ea,eA,R1⟩:=(RI.ee hz).six (j:=k) (by rw [HNI.o];exact hlt);have cc:=qa (I[k]'(by rw [HNI.o];exact hlt)).A (I[k]'(by rw [HNI.o];exact hlt)).B (I[k]'(by rw [HNI.o];exact hlt)).C x;have hIk:=HI.o _ (JP (l:=I) (n:=k) (by rw [HNI.o];exact hlt));have HT:=hdd (hIk.2);have hok:=hIk.1;have ch:=λW B H=>Yo m2 b2 E' (I[k]'(by rw [HNI.o];exact hlt)) hok W B H;have wN:=KJ (k:=k) (by have:=HNM.o;omega);have p0:(k:Int) < (nI:Int):=by omega
    have HLT:=hdd hlt;generalize I[k]'(by rw [HNI.o];exact hlt)=T at *
    generalize circ T.A T.B T.C x=o at *
    subst ea;replace U2:=U2.ee hz;replace BQ:=BQ.ee hz;obtain ⟨s0,s1,s2,s3,s4,s5⟩:=R1.cells;have gQ:=BQ.cells;clear hIk hok hk hlt;go_wp2_with fail;refine wrt 18 (by kernel_rfl) (by kernel_rfl) ?_;simp only [tK1,tK0,dP1,dP0];refine wkx ?_;intro w11 hb;have R2:=R1.ee hb;replace hz:=upB hz hb;replace U2:=U2.ee hb;clear hb s0 s1 s2 s3 s4 s5 gQ R1 BQ cc;obtain ⟨f0,f1,f2,f3,f4,f5,f6⟩:=R2.f;cases ho:(o == 1)
    case false=>
     have hh:=HT.o.1 (by intro e;rw [e] at ho;revert ho;decide);rw [hh] at ch;clear HT hh
     focus
     go_wp2_with fail;clear f0 f1 f2 f3 f4 f5 f6;refine (ch _ U2.S.box U2.S.map).mono ?_;rintro e w12 ⟨rfl,hb⟩;replace hz:=upB hz hb;replace U2:=U2.ee hb;replace R2:=R2.ee hb;clear hb;obtain ⟨f0,f1,f2,f3,f4,f5,f6⟩:=R2.f;go_wp2_with fail
     go_roundw
     case rel=>exact ⟨k+1,HLT.o,by rw [wN],hz⟩
     case measure=>exact KK HLT.o wN
    case true=>
     clear HT;go_wp2_with fail
     go_roundw
     case rel=>exact ⟨k+1,HLT.o,by rw [wN],hz⟩
     case measure=>exact KK HLT.o wN
   case neg=>
    obtain rfl:nI=k:=by omega
    have hlt2:¬ (nI:Int) < (nI:Int):=by omega
    replace U2:=U2.ee hz;replace BQ:=BQ.ee hz;replace hw:=upB hw hz;clear hz RI HI hlt;have hE:E'.length<=1000000:=by rw [U2.S.inv.good.len];have:=HL2.o;omega
    have ct:=λW B H=>Zf m2 b2 E' hE W B H;have HT6:=hdd HUU.o;have hnT:(srt cmpT (heads (λ_=>true) E')).length<=1000:=by rw [(zS _).length_eq];have:=yc (λ_=>true) E';have:=U2.S.inv.good.len;have:=HL2.o;omega
    clear HUU hE;generalize srt cmpT (heads (λ_=>true) E')=T6 at *
    generalize hnT2:T6.length=nT at ct hnT
    have HNT:=hdd hnT2;have HNTM:=hdd hnT;clear hnT hnT2;go_wp2_with fail;refine (ct _ U2.S.box U2.S.map).mono ?_;rintro e w15 ⟨a6,c6,rfl,R6,hb⟩;replace U2:=U2.ee hb;obtain ⟨BQ,hw,-⟩:=qX1 BQ hw hb;clear hb ct;go_wp2_with fail
    go_loopw [18] (λi wr=>∃ k:Nat,k<=nT/\i=.int .i64 k/\Below w15 w15 wr) (λi _=>nT - (intOf i).toNat)
    case atStart=>exact ⟨0,JZ _,rfl,Below.refl _ _⟩
    case round=>
     clear hlt2;obtain ⟨k,hk,rfl,hz⟩:=hrel;by_cases hlt:k < nT
     case pos=>
      obtain ⟨ad,A1,ea,eA,R1⟩:=(R6.ee hz).six (j:=k) (by rw [HNT.o];exact hlt);have hUk:=HT6.o _ (JP (l:=T6) (n:=k) (by rw [HNT.o];exact hlt));have HU:=hdd hUk.2;have hok:=hUk.1;have wN:=KJ (k:=k) (by have:=HNTM.o;omega);have p0:(k:Int) < (nT:Int):=by omega
      have HLT:=hdd hlt;generalize T6[k]'(by rw [HNT.o];exact hlt)=U at *
      subst ea;replace U2:=U2.ee hz;replace BQ:=BQ.ee hz;have dh:∀ d os,Calls prog 30 #[pt0 mb,U] (grow (redrawn wr d) os) λe w'=>e=.returned (.bool (hasE E1 U))/\Below (grow (redrawn wr d) os).heap.size (grow (redrawn wr d) os) w':=λd os=>rmhas_anyH mb b E1 U hok _ (U2.C.mesh.ext (below_regrown wr d os) rfl) (U2.C.map.ext (below_regrown wr d os) rfl);generalize hasE E1 U=hu at *
      obtain ⟨s0,s1,s2,s3,s4,s5⟩:=R1.cells;have gQ:=BQ.cells;have gC:=U2.C.box.cells;clear hUk hok hk hlt R1;have hU2:=HU.o;clear HU;rcases hU2 with hu1 | ⟨hu0,hq⟩
      case inl=>
       subst hu1
       focus
       go_wp2_with fail;refine wrt 36 (by kernel_rfl) (by kernel_rfl) ?_;simp only [tK1,tK0,dP1,dP0];refine wkx ?_;intro w17 hb;replace hz:=upB hz hb;clear hb s0 s1 s2 s3 s4 s5 gQ gC dh;go_wp2_with fail
       go_roundw
       case rel=>exact ⟨k+1,HLT.o,by rw [wN],hz⟩
       case measure=>exact KK HLT.o wN
      case inr=>
       subst hu0;rcases hq with q1 | ⟨q1,q2⟩ | ⟨q1,q2,q3⟩
       all_goals
        go_wp2_with fail;refine wrt 36 (by kernel_rfl) (by kernel_rfl) ?_;simp only [tK1,tK0,dP1,dP0];refine wkx ?_;intro w17 hb;replace hz:=upB hz hb;clear hb s0 s1 s2 s3 s4 s5 gQ gC dh;go_wp2_with fail
        go_roundw
        case rel=>exact ⟨k+1,HLT.o,by rw [wN],hz⟩
        case measure=>exact KK HLT.o wN
     case neg=>
      obtain rfl:nT=k:=by omega
      have hlt2:¬ (nT:Int) < (nT:Int):=by omega
      replace hw:=upB hw hz;clear hz R6 hlt;go_wp2_with fail;refine (xo _).mono ?_;rintro e w16 ⟨rfl,hb⟩;replace hw:=upB hw hb;clear hb;go_wp2
      go_ret
      exact ⟨rfl,hw⟩
 case inr=>
  go_wp2_with fail
  go_loopw [15] (λi wr=>∃ k:Nat,k<=nI/\i=.int .i64 k/\Below w10 w10 wr) (λi _=>nI - (intOf i).toNat)
  case atStart=>exact ⟨0,JZ _,rfl,Below.refl _ _⟩
  case round=>
   obtain ⟨k,hk,rfl,hz⟩:=hrel;by_cases hlt:k < nI
   case pos=>
    obtain ⟨ad,A1,ea,eA,R1⟩:=(RI.ee hz).six (j:=k) (by rw [HNI.o];exact hlt);have cc:=qa (I[k]'(by rw [HNI.o];exact hlt)).A (I[k]'(by rw [HNI.o];exact hlt)).B (I[k]'(by rw [HNI.o];exact hlt)).C x;have hIk:=HI.o _ (JP (l:=I) (n:=k) (by rw [HNI.o];exact hlt));have HT:=hdd (hIk.2);have hok:=hIk.1;have ch:=λW B H=>Yo m2 b2 E' (I[k]'(by rw [HNI.o];exact hlt)) hok W B H;have wN:=KJ (k:=k) (by have:=HNM.o;omega);have p0:(k:Int) < (nI:Int):=by omega
    have HLT:=hdd hlt;generalize I[k]'(by rw [HNI.o];exact hlt)=T at *
    generalize circ T.A T.B T.C x=o at *
    subst ea;replace U2:=U2.ee hz;replace BQ:=BQ.ee hz;obtain ⟨s0,s1,s2,s3,s4,s5⟩:=R1.cells;have gQ:=BQ.cells;clear hIk hok hk hlt;go_wp2_with fail;refine wrt 18 (by kernel_rfl) (by kernel_rfl) ?_;simp only [tK1,tK0,dP1,dP0];refine wkx ?_;intro w11 hb;have R2:=R1.ee hb;replace hz:=upB hz hb;replace U2:=U2.ee hb;clear hb s0 s1 s2 s3 s4 s5 gQ R1 BQ cc;obtain ⟨f0,f1,f2,f3,f4,f5,f6⟩:=R2.f;cases ho:(o == 1)
    case false=>
     have hh:=HT.o.1 (by intro e;rw [e] at ho;revert ho;decide);rw [hh] at ch;clear HT hh
     focus
     go_wp2_with fail;clear f0 f1 f2 f3 f4 f5 f6;refine (ch _ U2.S.box U2.S.map).mono ?_;rintro e w12 ⟨rfl,hb⟩;replace hz:=upB hz hb;replace U2:=U2.ee hb;replace R2:=R2.ee hb;clear hb;obtain ⟨f0,f1,f2,f3,f4,f5,f6⟩:=R2.f;go_wp2_with fail;clear f0 f1 f2 f3 f4 f5 f6;refine (ch _ U2.S.box U2.S.map).mono ?_;rintro e w13 ⟨rfl,hb⟩;replace hz:=upB hz hb;replace U2:=U2.ee hb;replace R2:=R2.ee hb;clear hb;obtain ⟨f0,f1,f2,f3,f4,f5,f6⟩:=R2.f;go_wp2_with fail
     go_roundw
     case rel=>exact ⟨k+1,HLT.o,by rw [wN],hz⟩
     case measure=>exact KK HLT.o wN
    case true=>
     have hh:=HT.o.2 (by simp);rw [hh] at ch;clear HT hh;go_wp2_with fail;clear f0 f1 f2 f3 f4 f5 f6;refine (ch _ U2.S.box U2.S.map).mono ?_;rintro e w12 ⟨rfl,hb⟩;replace hz:=upB hz hb;replace U2:=U2.ee hb;replace R2:=R2.ee hb;clear hb;obtain ⟨f0,f1,f2,f3,f4,f5,f6⟩:=R2.f;go_wp2_with fail
     go_roundw
     case rel=>exact ⟨k+1,HLT.o,by rw [wN],hz⟩
     case measure=>exact KK HLT.o wN
   case neg=>
    obtain rfl:nI=k:=by omega
    have hlt2:¬ (nI:Int) < (nI:Int):=by omega
    replace U2:=U2.ee hz;replace BQ:=BQ.ee hz;replace hw:=upB hw hz;clear hz RI HI hlt;have hE:E'.length<=1000000:=by rw [U2.S.inv.good.len];have:=HL2.o;omega
    have ct:=λW B H=>Zf m2 b2 E' hE W B H;have HT6:=hdd HUU.o;have hnT:(srt cmpT (heads (λ_=>true) E')).length<=1000:=by rw [(zS _).length_eq];have:=yc (λ_=>true) E';have:=U2.S.inv.good.len;have:=HL2.o;omega
    clear HUU hE;generalize srt cmpT (heads (λ_=>true) E')=T6 at *
    generalize hnT2:T6.length=nT at ct hnT
    have HNT:=hdd hnT2;have HNTM:=hdd hnT;clear hnT hnT2;go_wp2_with fail;refine (ct _ U2.S.box U2.S.map).mono ?_;rintro e w15 ⟨a6,c6,rfl,R6,hb⟩;replace U2:=U2.ee hb;obtain ⟨BQ,hw,-⟩:=qX1 BQ hw hb;clear hb ct;go_wp2_with fail
    go_loopw [18] (λi wr=>∃ k:Nat,k<=nT/\i=.int .i64 k/\Below w15 w15 wr) (λi _=>nT - (intOf i).toNat)
    case atStart=>exact ⟨0,JZ _,rfl,Below.refl _ _⟩
    case round=>
     clear hlt2;obtain ⟨k,hk,rfl,hz⟩:=hrel;by_cases hlt:k < nT
     case pos=>
      obtain ⟨ad,A1,ea,eA,R1⟩:=(R6.ee hz).six (j:=k) (by rw [HNT.o];exact hlt);have hUk:=HT6.o _ (JP (l:=T6) (n:=k) (by rw [HNT.o];exact hlt));have HU:=hdd hUk.2;have hok:=hUk.1;have wN:=KJ (k:=k) (by have:=HNTM.o;omega);have p0:(k:Int) < (nT:Int):=by omega
      have HLT:=hdd hlt;generalize T6[k]'(by rw [HNT.o];exact hlt)=U at *
      subst ea;replace U2:=U2.ee hz;replace BQ:=BQ.ee hz;have dh:∀ d os,Calls prog 30 #[pt0 mb,U] (grow (redrawn wr d) os) λe w'=>e=.returned (.bool (hasE E1 U))/\Below (grow (redrawn wr d) os).heap.size (grow (redrawn wr d) os) w':=λd os=>rmhas_anyH mb b E1 U hok _ (U2.C.mesh.ext (below_regrown wr d os) rfl) (U2.C.map.ext (below_regrown wr d os) rfl);generalize hasE E1 U=hu at *
      obtain ⟨s0,s1,s2,s3,s4,s5⟩:=R1.cells;have gQ:=BQ.cells;have gC:=U2.C.box.cells;clear hUk hok hk hlt R1;have hU2:=HU.o;clear HU;rcases hU2 with hu1 | ⟨hu0,hq⟩
      case inl=>
       subst hu1
       focus
       go_wp2_with fail;refine wrt 36 (by kernel_rfl) (by kernel_rfl) ?_;simp only [tK1,tK0,dP1,dP0];refine wkx ?_;intro w17 hb;replace hz:=upB hz hb;clear hb s0 s1 s2 s3 s4 s5 gQ gC dh;go_wp2_with fail
       go_roundw
       case rel=>exact ⟨k+1,HLT.o,by rw [wN],hz⟩
       case measure=>exact KK HLT.o wN
      case inr=>
       subst hu0;rcases hq with q1 | ⟨q1,q2⟩ | ⟨q1,q2,q3⟩
       all_goals
        go_wp2_with fail;refine wrt 36 (by kernel_rfl) (by kernel_rfl) ?_;simp only [tK1,tK0,dP1,dP0];refine wkx ?_;intro w17 hb;replace hz:=upB hz hb;clear hb s0 s1 s2 s3 s4 s5 gQ gC dh;go_wp2_with fail
        go_roundw
        case rel=>exact ⟨k+1,HLT.o,by rw [wN],hz⟩
        case measure=>exact KK HLT.o wN
     case neg=>
      obtain rfl:nT=k:=by omega
      have hlt2:¬ (nT:Int) < (nT:Int):=by omega
      replace hw:=upB hw hz;clear hz R6 hlt;go_wp2_with fail;refine (xo _).mono ?_;rintro e w16 ⟨rfl,hb⟩;replace hw:=upB hw hb;clear hb;go_wp2
      go_ret
      exact ⟨rfl,hw⟩
end
end Go.Proofs.YtmpfadapbbjbkaaGreat
