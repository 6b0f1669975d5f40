/- Put together: CdtOw, SqW, CdtPw. -/
import Derived.Test.YtogffkimgmlilaaGreatPfb40
import Derived.Test.YtogffkimgmlilaaGreatPfb34
set_option maxRecDepth 100000
set_option maxHeartbeats 8000000
set_option linter.all false
namespace Go.Proofs.YtogffkimgmlilaaGreat
open _root_.Go.Proofs.Tryz
section
open Go.RowKit Go.Sort
attribute [local go_sem] rOper rAt rUpon cell_set sg_i64 sg_u64 alloc_cell alloc_frozen
attribute [local go_sem 10000] pt_eql pt_neq tri_eql
attribute [local irreducible] rWalk
theorem zOj {D D':List Wl} {p:Pt} (h:AddD D p D'):∀ x∈D',x∈D∨∃ X∈D,x.K=X.K∧onD p X=true∧((x.A=X.A∧x.B=p)∨(x.A=p∧x.B=X.B)):=by
 rcases h with ⟨_,rfl⟩ | ⟨X,r,D1,k1,k2,hf,hR,_,_,rfl⟩
 ·exact fun x hx=>.inl hx
 ·have hXm:=jC6 hf;have ho:=jE6 hf;have hD1:∀ y∈D1,y∈D:=by
   rcases hR with ⟨_,e,_⟩ | ⟨_,k,hk,_,e⟩
   ·rw [e];exact fun y hy=>hy
   ·rw [e];exact fun y hy=>zJx.mem hy
  intro x hx;rcases jA1.1 ((zF5 _ _ _).mem_iff.1 hx) with rfl | hx
  ·exact .inr ⟨X,hXm,rfl,ho,.inr ⟨rfl,rfl⟩⟩
  ·rcases jA1.1 ((zF5 _ _ _).mem_iff.1 hx) with rfl | hx
   ·exact .inr ⟨X,hXm,rfl,ho,.inl ⟨rfl,rfl⟩⟩
   ·exact .inl (hD1 x hx)
theorem add_rim {W H:Int} {D D':List Wl} {p:Pt} (h:AddD D p D') (hr:∀ x∈D,x.K=2→onRim W H x.A x.B):∀ x∈D',x.K=2→onRim W H x.A x.B:=by
 intro x hx hk;rcases zOj h x hx with h | ⟨X,hX,e,ho,hh⟩
 ·exact hr x h hk
 ·have k:=hr X hX (by rw [←e];exact hk);unfold onD onR btw at ho;simp only [jA3,jA4] at ho;obtain ⟨_,_,_,_,_,_,b1,b2⟩:=ho;unfold onRim at *;rcases hh with ⟨e1,e2⟩ | ⟨e1,e2⟩ <;> rw [e1,e2] <;> omega
theorem add_kind {D D':List Wl} {p:Pt} (h:AddD D p D'):∀ x∈D',∃ y∈D,x.K=y.K:=fun x hx=>by
 rcases zOj h x hx with h | ⟨X,hX,e,_⟩
 ·exact ⟨x,h,rfl⟩
 ·exact ⟨X,hX,e⟩
structure CInvW (W H:Int) (E:Es) (L:List Tri3) (D:List Wl):Prop where
 good:Good E L
 fix:Fixed W H (wll D) L
 kinds:∀ x∈D,0≤x.K∧x.K≤2
 wal:WInv L D
 rim:∀ x∈D,x.K=2→onRim W H x.A x.B
def CAddPostW (cb mb b db:Nat) (W H:Int) (L:List Tri3) (D:List Wl) (p:Pt) (w:World) (e:Ending) (w':World):Prop:=
 ∃ r v' E' L' D',e=.returned (.int .i64 r)∧CdtAt w' cb mb b db v' W H E' D'∧CInvW W H E' L' D'∧AddRes W H L p r∧(∀ q,someC L' q↔someC L q∨(q=p∧inBox W H p))∧L'.length≤L.length+2∧D'.length≤D.length+2∧(∀ x∈D',∃ y∈D,x.K=y.K)∧Frm w w' (fun k=>k=b∨k=db)
theorem zIn (cb mb b db:Nat) (v:Value) (W H:Int) (hW0:0 < W) (hH0:0 < H) (hW:W < 16777216) (hH:H < 16777216) (E:Es) (L:List Tri3) (D:List Wl) (hI:CInvW W H E L D) (hL:L.length≤20000) (hD:D.length≤20000) (p:Pt) (w:World) (S:CdtAt w cb mb b db v W H E D):Calls prog 34 #[pt0 cb,p] w (CAddPostW cb mb b db W H L D p w):=by
 have hE:E.length≤1000000:=by rw [hI.good.len];omega
 by_cases hb0:inBox W H p
 ·by_cases hc0:someC L p
  ·have ca:=fun w0 B1 H1=>raddP_have mb b db E p hE w0 B1 H1 (zOi hW hH hI.good hI.fix.tiles hW0 hH0 hb0) (fun e=>(hI.good.star_nil p).1 e hc0);have HR:=hdd (show AddRes W H L p 5 from .inr (.inl ⟨rfl,hb0,hc0⟩));have HS:=hdd (show ∀ q,someC L q↔someC L q∨(q=p∧inBox W H p) from fun q=>⟨.inl,fun k=>by rcases k with k | ⟨rfl,_⟩;exact k;exact hc0⟩);clear hb0 hc0 hE
   go_enter func34,ntmps34
   go_wp2_with fail;refine zA1 fun w1 hW=>?_;have Bp:Box w1 w [p.x,p.y] 54:=by rw [hW];exact Box.new rfl
   have hw:Below w w w1:=by rw [hW];go_grown
   clear hW;have S1:=S.ee hw;have g1:=Bp.cells;have g2:=S1.box.cells;refine rgn 9 (fun w2 hb=>?_);clear g1 g2;have hw2:=(upB hw hb);clear hb Bp S1 hw;go_wp2_with fail;refine (ca _ (S.mesh.ee hw2) (S.map.ee hw2)).mono ?_;rintro e w3 ⟨rfl,hb⟩;have hw3:=(upB hw2 hb);clear hb ca hw2;go_wp2
   go_ret
   exact ⟨5,v,E,L,D,rfl,S.ee hw3,hI,HR.out,HS.out,by omega,by omega,fun x hx=>⟨x,hx,rfl⟩,Frm.of_below hw3⟩
  ·obtain ⟨hv,hu,hlen,L1,g1',t1',s1',n1'⟩:=add_good hW hH hI.good hI.fix.tiles hW0 hH0 hb0 hc0;have ca:=fun w0 B1 H1 D1=>raddP_ok mb b db E p v D hE (by omega) (fun T hT=>zB7 (hv T hT)) (fun T hT U hU=>zB7 (hu T hT U hU)) (zOi hW hH hI.good hI.fix.tiles hW0 hH0 hb0) ((hI.good.star_nil p).2 hc0) w0 B1 H1 D1 (by omega) hI.kinds;have HR:=hdd (show AddRes W H L p 0 from .inr (.inr ⟨rfl,hb0,hc0⟩));have HS:=hdd (show ∀ q,someC L1 q↔someC L q∨(q=p∧inBox W H p) from fun q=>by rw [s1' q];simp [hb0]);have HL1:=hdd (show L1.length≤L.length+2 by rcases n1' with ⟨k,_⟩ | ⟨k,_⟩ <;> omega);have HWA:=hdd (show ∀ D1,AddD D p D1→WInv L1 D1 from fun D1 hA=>winv_add hW0 hH0 hW hH hI.good hI.fix.tiles hI.wal hb0 hc0 hA g1' t1');have cr:=fun a0 c n D1 w0 B1 H1 R1=>rrepair_any mb b db a0 c n (addPE E p) L1 D1 W H hW hH (by have:=HL1.out;omega) g1' t1' w0 B1 H1 R1
   change ∀ (w0:World) B1 H1 D1,Calls _ _ _ _ (AddPost b db E p v D w0) at ca
   clear hb0 hc0 hE hv hu hlen g1' t1' s1' n1'
   go_enter func34,ntmps34
   go_wp2_with fail;refine zA1 fun w1 hW'=>?_;have Bp:Box w1 w [p.x,p.y] 54:=by rw [hW'];exact Box.new rfl
   have hw:Below w w w1:=by rw [hW'];go_grown
   clear hW';have S1:=S.ee hw;have g1:=Bp.cells;have g2:=S1.box.cells;refine rgn 9 (fun w2 hb=>?_);clear g1 g2;have hw2:=(upB hw hb);clear hb Bp S1 hw;go_wp2_with fail;have S2:=S.ee hw2;refine (ca _ S2.mesh S2.map S2.doc).mono ?_;rintro e w3 ⟨v1,D1,rfl,H3,D3,hA,f3,_⟩;have nb:∀ {x:Nat} {cs:List Value} {T:TypeId},Box w2 x cs T→x≠b:=fun h=>h.ne_map S2.map;have S3:CdtAt w3 cb mb b db v1 W H (addPE E p) D1:=⟨f3.box S2.box (fun k=>by rcases k with k | k;exact nb S2.box k;exact S.cdb k),f3.box S2.mesh (fun k=>by rcases k with k | k;exact nb S2.mesh k;exact S.mdb k),H3,D3,S.cdb,S.mdb⟩;have F3:Frm w w3 (fun k=>k=b∨k=db):=(Frm.of_below hw2).trans f3;have hk:=add_kinds hA hI.kinds;have HK:=hdd hk;have HWD:=hdd (HWA.out D1 hA);have HRD:=hdd (show (∀ x∈D1,x.K=2→onRim W H x.A x.B)∧∀ x∈D1,∃ y∈D,x.K=y.K from ⟨add_rim hA hI.rim,add_kind hA⟩);clear HWA;clear nb ca H3 D3 hA f3 S2 hw2 hk;generalize addPE E p=E1 at *
   have g2:=S3.box.cells;go_wp2_with fail;refine rgn 8 (fun w4 hb=>?_);clear g2;have S4:=S3.ee hb;have F4:=F3.trans (Frm.of_below hb);clear hb S3 F3;obtain ⟨a9,c9,hv9,Dr,_⟩:=S4.doc.rd;have cr4:=cr a9 c9 D1.length D1 w4 S4.mesh S4.map Dr;clear cr hv9 Dr;go_wp2_with fail;refine cr4.mono ?_;rintro e w5 ⟨rfl,E2,L2,g5,H5,r5,f5⟩;have S5:CdtAt w5 cb mb b db v1 W H E2 D1:=⟨S4.box.turn S4.map g5,S4.mesh.turn S4.map g5,H5,S4.doc.turn S4.map g5,S.cdb,S.mdb⟩;have F5:=F4.trans2 (Frm.of_grown g5 (p:=fun k=>k=b) (fun g e=>by cases e;rfl)) (fun k hk _=>.inl hk);have HI5:=hdd (show CInvW W H E2 L2 D1 from ⟨r5.good,f5,HK.out.1,HWD.out.kept r5.kept,HRD.out.1⟩);have HS5:=hdd (show ∀ q,someC L2 q↔someC L q∨(q=p∧inBox W H p) from fun q=>(r5.kept.cnr q).trans (HS.out q));have HL5:=hdd (show L2.length≤L.length+2 by rw [r5.kept.len];exact HL1.out);clear cr4 g5 H5 r5 f5 S4 F4;go_wp2
   go_ret
   exact ⟨0,v1,E2,L2,D1,rfl,S5,HI5.out,HR.out,HS5.out,HL5.out,HK.out.2,HRD.out.2,F5⟩
 ·have ca:=fun w0 B1 H1=>raddP_none mb b db E p hE w0 B1 H1 (at_none hI.good hI.fix.tiles hb0);have HR:=hdd (show AddRes W H L p 1 from .inl ⟨rfl,hb0⟩);have HS:=hdd (show ∀ q,someC L q↔someC L q∨(q=p∧inBox W H p) from fun q=>⟨.inl,fun k=>by rcases k with k | ⟨_,k⟩;exact k;exact absurd k hb0⟩);clear hb0 hE
  go_enter func34,ntmps34
  go_wp2_with fail;refine zA1 fun w1 hW=>?_;have Bp:Box w1 w [p.x,p.y] 54:=by rw [hW];exact Box.new rfl
  have hw:Below w w w1:=by rw [hW];go_grown
  clear hW;have S1:=S.ee hw;have g1:=Bp.cells;have g2:=S1.box.cells;refine rgn 9 (fun w2 hb=>?_);clear g1 g2;have hw2:=(upB hw hb);clear hb Bp S1 hw;go_wp2_with fail;refine (ca _ (S.mesh.ee hw2) (S.map.ee hw2)).mono ?_;rintro e w3 ⟨rfl,hb⟩;have hw3:=(upB hw2 hb);clear hb ca hw2;go_wp2
  go_ret
  exact ⟨1,v,E,L,D,rfl,S.ee hw3,hI,HR.out,HS.out,by omega,by omega,fun x hx=>⟨x,hx,rfl⟩,Frm.of_below hw3⟩
end
section
open Go.RowKit
theorem zG0 {W H:Int} (hW0:0 < W) (hH0:0 < H) (hW:W < 16777216) (hH:H < 16777216) (k:Nat):∃ a b,sqW W H k=⟨a,b,2⟩∧GoodW (sqW W H k)∧((a=sqP W H k∧b=sqP W H (k+1))∨(a=sqP W H (k+1)∧b=sqP W H k)):=by
 have vb:∀ q,inBox W H q→vld q=true:=fun q hq=>by rw [zAm];unfold inBox at hq;omega
 have bx:∀ j,inBox W H (sqP W H j):=fun j=>by unfold sqP inBox;(repeat' split) <;> simp only <;> omega
 have ne:sqP W H k≠sqP W H (k+1):=fun e=>by
  have:=Pt.eq_iff.1 e;unfold sqP at this;have h4:k % 4=0∨k % 4=1∨k % 4=2∨k % 4=3:=by omega
  rcases h4 with h | h | h | h
  ·have h2:(k+1) % 4=1:=by omega
   simp [h,h2] at this;omega
  ·have h2:(k+1) % 4=2:=by omega
   simp [h,h2] at this;omega
  ·have h2:(k+1) % 4=3:=by omega
   simp [h,h2] at this;omega
  ·have h2:(k+1) % 4=0:=by omega
   simp [h,h2] at this;omega
 have hm:mkOk (sqP W H k) (sqP W H (k+1)) 2=true:=by
  unfold mkOk mkK;simp [ne,vb _ (bx k),vb _ (bx (k+1))]
 have e:sqW W H k=⟨lo2 (sqP W H k) (sqP W H (k+1)),hi2 (sqP W H k) (sqP W H (k+1)),2⟩:=by unfold sqW mkW;rw [jAc hm]
 refine ⟨_,_,e,by rw [e];exact zMr hm,?_⟩;unfold lo2 hi2;split
 ·exact .inr ⟨rfl,rfl⟩
 ·exact .inl ⟨rfl,rfl⟩
theorem zK7 {W H:Int} (hW0:0 < W) (hH0:0 < H) {i j:Nat} (hi:i < 4) (hj:j < 4) (hij:i≠j):¬ ((sqP W H i=sqP W H j∧sqP W H (i+1)=sqP W H (j+1))∨(sqP W H i=sqP W H (j+1)∧sqP W H (i+1)=sqP W H j)):=by
 have hi':i=0∨i=1∨i=2∨i=3:=by omega
 have hj':j=0∨j=1∨j=2∨j=3:=by omega
 rcases hi' with rfl | rfl | rfl | rfl <;> rcases hj' with rfl | rfl | rfl | rfl <;> first | exact absurd rfl hij | (simp [sqP,Pt.eq_iff];omega)
theorem sqW_rim {W H:Int} (hW0:0 < W) (hH0:0 < H) (hW:W < 16777216) (hH:H < 16777216) (k:Nat):onRim W H (sqW W H k).A (sqW W H k).B:=by
 obtain ⟨a,b,e,_,h⟩:=zG0 hW0 hH0 hW hH k;rw [e];have hr:onRim W H (sqP W H k) (sqP W H (k+1)):=by
  unfold sqP onRim;have h4:k % 4=0∨k % 4=1∨k % 4=2∨k % 4=3:=by omega
  rcases h4 with h | h | h | h
  ·have h2:(k+1) % 4=1:=by omega
   simp [h,h2]
  ·have h2:(k+1) % 4=2:=by omega
   simp [h,h2]
  ·have h2:(k+1) % 4=3:=by omega
   simp [h,h2]
  ·have h2:(k+1) % 4=0:=by omega
   simp [h,h2]
 rcases h with ⟨rfl,rfl⟩ | ⟨rfl,rfl⟩
 ·exact hr
 ·exact zG8 hr
theorem zNj {W H:Int} (hW0:0 < W) (hH0:0 < H) (hW:W < 16777216) (hH:H < 16777216) {k:Nat} (hk:k < 4) (x:Wl) (hx:x∈(List.range k).map (sqW W H)) (e:x=mkW (sqP W H k) (sqP W H (k+1)) 2):False:=by
 obtain ⟨i,hi,rfl⟩:=jAk.1 hx;rw [jBh] at hi
 change sqW W H i=sqW W H k at e
 obtain ⟨a,b,e1,_,h1⟩:=zG0 hW0 hH0 hW hH i;obtain ⟨c,d,e2,_,h2⟩:=zG0 hW0 hH0 hW hH k;rw [e1,e2] at e;simp only [Wl.mk.injEq,jE8] at e;obtain ⟨rfl,rfl⟩:=e;refine zK7 hW0 hH0 (by omega:i < 4) hk (by omega) ?_;rcases h1 with ⟨p1,p2⟩ | ⟨p1,p2⟩ <;> rcases h2 with ⟨q1,q2⟩ | ⟨q1,q2⟩
 ·exact .inl ⟨p1.symm.trans q1,p2.symm.trans q2⟩
 ·exact .inr ⟨p1.symm.trans q1,p2.symm.trans q2⟩
 ·exact .inr ⟨p2.symm.trans q2,p1.symm.trans q1⟩
 ·exact .inl ⟨p2.symm.trans q2,p1.symm.trans q1⟩
theorem winv_square {W H:Int} (hW0:0 < W) (hH0:0 < H) (hW:W < 16777216) (hH:H < 16777216) {L:List Tri3} (t:Tiles W H L) (hE:edgeL L ⟨0,0⟩ ⟨W,0⟩∧edgeL L ⟨W,0⟩ ⟨W,H⟩∧edgeL L ⟨W,H⟩ ⟨0,H⟩∧edgeL L ⟨0,H⟩ ⟨0,0⟩) {D:List Wl} (hP:D.Perm ((List.range 4).map (sqW W H))) (hR:Ris D):WInv L D:=by
 have he:∀ i,i < 4→edgeL L (sqP W H i) (sqP W H (i+1)):=fun i hi=>by
  have hi':i=0∨i=1∨i=2∨i=3:=by omega
  rcases hi' with rfl | rfl | rfl | rfl
  ·exact hE.1
  ·exact hE.2.1
  ·exact hE.2.2.1
  ·exact hE.2.2.2
 have hs:∀ i,i < 4→edgeL L (sqW W H i).A (sqW W H i).B:=fun i hi=>by
  obtain ⟨a,b,e,_,h⟩:=zG0 hW0 hH0 hW hH i;rw [e];rcases h with ⟨rfl,rfl⟩ | ⟨rfl,rfl⟩
  ·exact he i hi
  ·exact (he i hi).turn
 refine ⟨fun x hx=>?_,hR,zEv hP.symm ?_,fun x hx=>?_⟩
 ·obtain ⟨i,_,rfl⟩:=jAk.1 (hP.mem_iff.1 hx);obtain ⟨_,_,_,g,_⟩:=zG0 hW0 hH0 hW hH i;exact g
 ·unfold Apart;rw [jE9];have hn:(List.range 4).Pairwise (fun a b=>a≠b):=List.nodup_range;refine jE0 (fun {i j} hi hj hij=>?_) hn;rw [jBh] at hi hj;refine t.edges_apart hW hH (hs i hi) (hs j hj) ?_;obtain ⟨a,b,e1,_,h1⟩:=zG0 hW0 hH0 hW hH i;obtain ⟨c,d,e2,_,h2⟩:=zG0 hW0 hH0 hW hH j;rw [e1,e2];intro h;refine zK7 hW0 hH0 hi hj hij ?_;rcases h with ⟨rfl,rfl⟩ | ⟨rfl,rfl⟩ <;> rcases h1 with ⟨p1,p2⟩ | ⟨p1,p2⟩ <;> rcases h2 with ⟨q1,q2⟩ | ⟨q1,q2⟩
  ·exact .inl ⟨p1.symm.trans q1,p2.symm.trans q2⟩
  ·exact .inr ⟨p1.symm.trans q1,p2.symm.trans q2⟩
  ·exact .inr ⟨p2.symm.trans q2,p1.symm.trans q1⟩
  ·exact .inl ⟨p2.symm.trans q2,p1.symm.trans q1⟩
  ·exact .inr ⟨p1.symm.trans q2,p2.symm.trans q1⟩
  ·exact .inl ⟨p1.symm.trans q2,p2.symm.trans q1⟩
  ·exact .inl ⟨p2.symm.trans q1,p1.symm.trans q2⟩
  ·exact .inr ⟨p2.symm.trans q1,p1.symm.trans q2⟩
 ·obtain ⟨i,hi,rfl⟩:=jAk.1 (hP.mem_iff.1 hx);exact hs i (jBh.1 hi)
end
section
open Go.RowKit Go.Sort
attribute [local go_sem] rOper rAt rUpon cell_set sg_i64 sg_u64 alloc_cell alloc_frozen
attribute [local go_sem 10000] pt_eql pt_neq tri_eql
attribute [local irreducible] rWalk
def NewCPostW (W H:Int) (w:World) (e:Ending) (w':World):Prop:=
 ∃ cb mb b db v E L D,e=.returned (.pointer (some ⟨cb,0,none⟩))∧CdtAt w' cb mb b db v W H E D∧CInvW W H E L D∧L.length=2∧(∀ q,someC L q↔q=⟨0,0⟩∨q=⟨W,0⟩∨q=⟨W,H⟩∨q=⟨0,H⟩)∧D.Perm [sqW W H 0,sqW W H 1,sqW W H 2,sqW W H 3]∧Below w w w'∧w.heap.size≤b∧w.heap.size≤db∧w.heap.size≤mb∧w.heap.size≤cb
theorem zG5 (W H:Int) (hW0:0 < W) (hH0:0 < H) (hW:W < 16777216) (hH:H < 16777216) (w:World):Calls prog 33 #[W,H] w (NewCPostW W H w):=by
 have k1:decide (W < 1)=false:=by simp;omega
 have k2:decide (16777216≤W)=false:=by simp;omega
 have k3:decide (H < 1)=false:=by simp;omega
 have k4:decide (16777216≤H)=false:=by simp;omega
 have vb:∀ q,inBox W H q→vld q=true:=fun q hq=>by rw [zAm];unfold inBox at hq;omega
 have v0:vld (⟨0,0⟩:Pt)=true:=vb _ (by unfold inBox;simp only;omega);have v1:vld (⟨W,0⟩:Pt)=true:=vb _ (by unfold inBox;simp only;omega);have v2:vld (⟨W,H⟩:Pt)=true:=vb _ (by unfold inBox;simp only;omega);have v3:vld (⟨0,H⟩:Pt)=true:=vb _ (by unfold inBox;simp only;omega);have pWH:=jAf hW0 hH0;have d1:0 < det (⟨0,0⟩:Pt) ⟨W,0⟩ ⟨W,H⟩:=by
  have:det (⟨0,0⟩:Pt) ⟨W,0⟩ ⟨W,H⟩=W * H:=by unfold det;grind
  omega
 have d2:0 < det (⟨0,0⟩:Pt) ⟨W,H⟩ ⟨0,H⟩:=by
  have:det (⟨0,0⟩:Pt) ⟨W,H⟩ ⟨0,H⟩=W * H:=by unfold det;grind
  omega
 obtain ⟨cX,vX⟩:=zB2 v0 v1 v2 d1;obtain ⟨cY,vY⟩:=zB2 v0 v2 v3 d2;have tS:=zFz hW0 hH0 cX cY;have o1:¬ ori (⟨0,0⟩:Pt) ⟨W,0⟩ ⟨W,H⟩=0:=by rw [ori_v v0 v1 v2,zBk];omega
 have o2:¬ ori (⟨0,0⟩:Pt) ⟨W,H⟩ ⟨0,H⟩=0:=by rw [ori_v v0 v2 v3,zBk];omega
 have c1:=zB4 ⟨0,0⟩ ⟨W,0⟩ ⟨W,H⟩;have c2:=zB4 ⟨0,0⟩ ⟨W,H⟩ ⟨0,H⟩;rw [show (!decide (ori (⟨0,0⟩:Pt) ⟨W,0⟩ ⟨W,H⟩=0))=true by simp [o1]] at c1;rw [show (!decide (ori (⟨0,0⟩:Pt) ⟨W,H⟩ ⟨0,H⟩=0))=true by simp [o2]] at c2;dsimp only at c1 c2;have HC:=hdd (show ∀ q,someC [mk ⟨0,0⟩ ⟨W,0⟩ ⟨W,H⟩,mk ⟨0,0⟩ ⟨W,H⟩ ⟨0,H⟩] q↔q=⟨0,0⟩∨q=⟨W,0⟩∨q=⟨W,H⟩∨q=⟨0,H⟩ from fun q=>by
  simp only [zBw,cX.cnr_iff,cY.cnr_iff,jEv (zDp q),jAw];constructor
  ·rintro ((k | k | k) | (k | k | k)) <;> simp [k]
  ·rintro (k | k | k | k) <;> simp [k])
 generalize mk ⟨0,0⟩ ⟨W,0⟩ ⟨W,H⟩=X at *
 generalize mk ⟨0,0⟩ ⟨W,H⟩ ⟨0,H⟩=Y at *
 have hok:∀ T∈[X,Y],okT T:=fun T hT=>by
  simp only [jA1,jA6,jAw] at hT;rcases hT with rfl | rfl
  ·exact zB7 vX
  ·exact zB7 vY
 have gp:=Good.puts (I:=[X,Y]) (E:=[]) (M:=[]) ⟨.refl _,List.nodup_nil,fun T hT=>by cases hT⟩ (fun T hT=>by
  simp only [jA1,jA6,jAw] at hT;rcases hT with rfl | rfl
  ·exact vX
  ·exact vY) tS.once
 have cn:=fun a w0 R=>rnew_any a 2 2 [X,Y] (hdd rfl) (by omega) hok w0 R;have HT:=hdd tS;have HXY:=hdd (show edgeL [X,Y] ⟨0,0⟩ ⟨W,0⟩∧edgeL [X,Y] ⟨W,0⟩ ⟨W,H⟩∧edgeL [X,Y] ⟨W,H⟩ ⟨0,H⟩∧edgeL [X,Y] ⟨0,H⟩ ⟨0,0⟩ from ⟨.inl (mem_flat (by simp) cX.way),.inl (mem_flat (by simp) cX.turn.way),.inl (mem_flat (by simp) cY.turn.way),.inl (mem_flat (by simp) cY.turn.turn.way)⟩);have HG:=hdd gp;have cs:=rsquare_any W H;clear v0 v1 v2 v3 vb d1 d2 o1 o2 cX cY vX vY hok tS gp pWH
 go_enter func33,ntmps33
 go_wp2_with fail;refine (cs _).mono ?_;rintro e w1 ⟨rfl,hb⟩;have hw:=hb;clear hb;go_wp2_with fail;refine zA4 fun W2 hW=>?_;obtain ⟨bkq,hbq⟩:∃ b,w1.heap.size=b:=⟨_,rfl⟩;rw [hbq];obtain ⟨fq,Bq,hw⟩:=qM0 hW hbq hw;clear hW hbq;refine qC1 (c1 _) Bq hw fun w3 Bq hw Fq=>?_;go_wp2_with fail;clear Fq;refine zA4 fun W4 hW=>?_;obtain ⟨bkx,hbx⟩:∃ b,w3.heap.size=b:=⟨_,rfl⟩;rw [hbx];obtain ⟨lqx,fx,Bx,Bq,hw⟩:=qM1 hW hbx Bq hw;clear hW hbx;refine qC2 (c2 _) Bq Bx hw fun w5 Bq Bx hw F_qx=>?_;go_wp2_with fail;clear F_qx;refine zA4 fun W9 hW=>?_;have R1:RowAt cT 6 W9 (some ⟨w5+1,0,none⟩) [X,Y]:=zEz (S:=[X,Y]) (by rw [hW];exact Box.new (by simp));have Bq9:Box W9 bkq [(),(),W,(),W,H,(),H] 122:=by rw [hW];exact (Bq.old _).old _
 replace hw:Below w w W9:=by have:=hw.size;rw [hW];go_grown
 have lq:=Bq.lt;have lq9:=Bq9.lt;clear hW Bq Bx;refine (cn _ _ R1).mono ?_;rintro e w10 hpost;unfold RNewPost at hpost;obtain ⟨mb,b,rfl,BM,HM,hbl,hml,hb,_⟩ | ⟨_,_,h⟩:=hpost
 rotate_left
 ·exact absurd h (by rw [HG.out.1];simp)
 have Bq10:=Bq9.ee hb;have hw10:=(upB hw hb);have hl1:=hw.size;replace hbl:=jAp hl1 hbl;replace hml:=jAp hl1 hml;have lm:=BM.lt;have lb:=HM.lt;have lq10:=Bq10.lt;generalize (putRun [] [X,Y]).2=E at *
 have HG:=hdd HG.out.2;clear hb cn R1 Bq9 hw c1 c2 cs;go_wp2;refine zA1 fun W11 hW=>?_;have So:DocAt W11 w10.heap.size (.slice none 0 0) []:=⟨by rw [hW];exact (Box.new rfl).old _,World.ownsRow_nil _ _ _ _,by simp [Value.ownBlock],by simp⟩;have Bc:Box W11 (w10+1) [W,H,pt0 mb,pt0 w10.heap.size] 43:=by rw [hW];exact Box.new (by simp)
 have Bq:Box W11 bkq [(),(),W,(),W,H,(),H] 122:=by rw [hW];exact (Bq10.old _).old _
 have Bm:Box W11 mb [.map (some b)] 90:=by rw [hW];exact (BM.old _).old _
 have Hm:HoldsMap eW eT okW W11 b E:=by rw [hW];exact (HM.alloc _).alloc _
 have hw:Below w w W11:=by have:=hw10.size;rw [hW];go_grown
 have hws:=hw10.size;clear hW BM HM Bq10 hw10;obtain ⟨db,hdb⟩:∃ db,w10.heap.size=db:=⟨_,rfl⟩;rw [hdb] at So Bc lm lb lq10 hws;rw [hdb];clear hdb;have HP0:=hdd (show ([]:List Wl).Perm ((List.range 0).map (sqW W H))∧Ris ([]:List Wl) from ⟨.refl _,List.Pairwise.nil⟩)
 go_loopw [11] (fun v11 wr=>∃ (k:Nat) (j:Int) (v:Value) (D:List Wl),k≤4∧v11=.int .i64 j∧Hid (j=k)∧DocAt wr db v D∧Hid (D.Perm ((List.range k).map (sqW W H))∧Ris D)∧Box wr bkq [(),(),W,(),W,H,(),H] 122∧Box wr (db+1) [W,H,pt0 mb,pt0 db] 43∧Box wr mb [.map (some b)] 90∧HoldsMap eW eT okW wr b E∧Below w w wr) (fun v11 _=>4 - (intOf v11).toNat)
 case atStart=>exact ⟨0,0,_,[],by omega,rfl,hdd rfl,So,HP0,Bq,Bc,Bm,Hm,hw⟩
 case round=>
  clear So Bq Bc Bm Hm hw HP0;obtain ⟨k,j,v,D,hk,rfl,hj,So,HP,Bq,Bc,Bm,Hm,hw⟩:=hrel;have hk':k=0∨k=1∨k=2∨k=3∨k=4:=by omega
  rcases hk' with rfl | rfl | rfl | rfl | rfl
  ·have hj:j=0:=by simpa using hj.out
   subst hj;have cw:=zFb ⟨0,0⟩ ⟨W,0⟩ 2;have HZ:=hdd (show (List.range (0+1)).map (sqW W H)=(List.range 0).map (sqW W H) ++ [mkW ⟨0,0⟩ ⟨W,0⟩ 2] by rw [jDk,jBn];rfl);have hZk:=zCv ⟨0,0⟩ ⟨W,0⟩;have HNE:=hdd (show ∀ x∈D,x≠mkW ⟨0,0⟩ ⟨W,0⟩ 2 from fun x hx e=>zNj hW0 hH0 hW hH (k:=0) (by omega) x (HP.out.1.mem_iff.1 hx) e);dsimp only at cw;generalize mkW ⟨0,0⟩ ⟨W,0⟩ 2=Z at *
   generalize mkOk ⟨0,0⟩ ⟨W,0⟩ 2=zk at *
   have hq1:IntKind.i64.wrap (0+1)=1:=by decide
   have hq2:IntKind.i64.wrap 1=1:=by decide
   have Fq:=Bq.f;have Fc:=Bc.f;go_wp2_with fail;have gq:=Bq.cells;have gc:=Bc.cells;refine rgl5 12 12 75 (fun w41 bkz hb h1b h2b Bz=>?_);have lqz:=Bq.lt;have lcz:=Bc.lt;have hw0z:=hw.size;clear gq gc;clear Fq Fc;obtain ⟨Bq,Bc,hw,-⟩:=qX2 Bq Bc hw hb;have fz:=h1b;have hwz:w.heap.size≤wr.heap.size:=hw0z;replace So:=So.ee hb;replace Bm:=Bm.ee hb;replace Hm:=Hm.ee hb;clear hb h1b h2b hw0z;simp only [Act.put];have F_qcz:=J3 Bq.f Bc.f Bz.f;go_wp2_with fail;clear F_qcz;have gc:=Bc.cells;have gz:=Bz.cells;refine rgn 5 (fun w60 hb=>?_);clear gc gz;replace So:=So.ee hb;replace Bm:=Bm.ee hb;replace Hm:=Hm.ee hb;obtain ⟨Bq,Bc,hw,-⟩:=qX2 Bq Bc hw hb;clear hb Bz;have hlD:D.length=0:=by have:=HP.out.1.length_eq;simpa using this
   have hkD:∀ x∈D,0≤x.K∧x.K≤2:=fun x hx=>by
    obtain ⟨i,_,rfl⟩:=jAk.1 (HP.out.1.mem_iff.1 hx);exact zCv _ _
   have cp:=zCt db v D Z (by omega) hkD hZk w60 So;clear hlD hkD;go_wp2_with fail;refine cp.mono ?_;rintro e w61 ⟨kp,v',rfl,hk5,So5,hf5,hv5⟩;have hdw:w.heap.size≤db:=hws;have hbd:(some b)≠(some db):=fun e=>So.box.ne_map Hm (jAl e).symm;have Bq5:=hf5.box Bq (by omega);have Bc5:=hf5.box Bc (by omega);have Bm5:=hf5.box Bm (by omega);have Hm5:=Hm.kept hf5.grown hbd;have hw5:=hw.trans (hf5.below (n:=w.heap.size) (fun k hk=>by rw [hk];exact hdw) hw.size);have HP5:=hdd (show (D.take kp ++ Z :: D.drop kp).Perm ((List.range (0+1)).map (sqW W H))∧Ris (D.take kp ++ Z :: D.drop kp) from ⟨by
    rw [HZ.out];exact (zCh kp).trans ((HP.out.1.cons _).trans (jB5 (l₁:=[Z]))),put_ris HP.out.2 hk5 HNE.out⟩)
   clear cp HP HZ HNE hk5 hf5 hv5 So Bq Bc Bm Hm hw;go_wp2
   go_roundw
   case rel=>exact ⟨1,1,v',_,by omega,by first | rfl | go_num,hdd rfl,So5,HP5,Bq5,Bc5,Bm5,Hm5,hw5⟩
   case measure=>simp [intOf]
  ·have hj:j=1:=by simpa using hj.out
   subst hj;have cw:=zFb ⟨W,0⟩ ⟨W,H⟩ 2;have HZ:=hdd (show (List.range (1+1)).map (sqW W H)=(List.range 1).map (sqW W H) ++ [mkW ⟨W,0⟩ ⟨W,H⟩ 2] by rw [jDk,jBn];rfl);have hZk:=zCv ⟨W,0⟩ ⟨W,H⟩;have HNE:=hdd (show ∀ x∈D,x≠mkW ⟨W,0⟩ ⟨W,H⟩ 2 from fun x hx e=>zNj hW0 hH0 hW hH (k:=1) (by omega) x (HP.out.1.mem_iff.1 hx) e);dsimp only at cw;generalize mkW ⟨W,0⟩ ⟨W,H⟩ 2=Z at *
   generalize mkOk ⟨W,0⟩ ⟨W,H⟩ 2=zk at *
   have hq1:IntKind.i64.wrap (1+1)=2:=by decide
   have hq2:IntKind.i64.wrap 2=2:=by decide
   have Fq:=Bq.f;have Fc:=Bc.f;go_wp2_with fail;have gq:=Bq.cells;have gc:=Bc.cells;refine rgl5 12 12 75 (fun w41 bkz hb h1b h2b Bz=>?_);have lqz:=Bq.lt;have lcz:=Bc.lt;have hw0z:=hw.size;clear gq gc;clear Fq Fc;obtain ⟨Bq,Bc,hw,-⟩:=qX2 Bq Bc hw hb;have fz:=h1b;have hwz:w.heap.size≤wr.heap.size:=hw0z;replace So:=So.ee hb;replace Bm:=Bm.ee hb;replace Hm:=Hm.ee hb;clear hb h1b h2b hw0z;simp only [Act.put];have F_qcz:=J3 Bq.f Bc.f Bz.f;go_wp2_with fail;clear F_qcz;have gc:=Bc.cells;have gz:=Bz.cells;refine rgn 5 (fun w60 hb=>?_);clear gc gz;replace So:=So.ee hb;replace Bm:=Bm.ee hb;replace Hm:=Hm.ee hb;obtain ⟨Bq,Bc,hw,-⟩:=qX2 Bq Bc hw hb;clear hb Bz;have hlD:D.length=1:=by have:=HP.out.1.length_eq;simpa using this
   have hkD:∀ x∈D,0≤x.K∧x.K≤2:=fun x hx=>by
    obtain ⟨i,_,rfl⟩:=jAk.1 (HP.out.1.mem_iff.1 hx);exact zCv _ _
   have cp:=zCt db v D Z (by omega) hkD hZk w60 So;clear hlD hkD;go_wp2_with fail;refine cp.mono ?_;rintro e w61 ⟨kp,v',rfl,hk5,So5,hf5,hv5⟩;have hdw:w.heap.size≤db:=hws;have hbd:(some b)≠(some db):=fun e=>So.box.ne_map Hm (jAl e).symm;have Bq5:=hf5.box Bq (by omega);have Bc5:=hf5.box Bc (by omega);have Bm5:=hf5.box Bm (by omega);have Hm5:=Hm.kept hf5.grown hbd;have hw5:=hw.trans (hf5.below (n:=w.heap.size) (fun k hk=>by rw [hk];exact hdw) hw.size);have HP5:=hdd (show (D.take kp ++ Z :: D.drop kp).Perm ((List.range (1+1)).map (sqW W H))∧Ris (D.take kp ++ Z :: D.drop kp) from ⟨by
    rw [HZ.out];exact (zCh kp).trans ((HP.out.1.cons _).trans (jB5 (l₁:=[Z]))),put_ris HP.out.2 hk5 HNE.out⟩)
   clear cp HP HZ HNE hk5 hf5 hv5 So Bq Bc Bm Hm hw;go_wp2
   go_roundw
   case rel=>exact ⟨2,2,v',_,by omega,by first | rfl | go_num,hdd rfl,So5,HP5,Bq5,Bc5,Bm5,Hm5,hw5⟩
   case measure=>simp [intOf]
  ·have hj:j=2:=by simpa using hj.out
   subst hj;have cw:=zFb ⟨W,H⟩ ⟨0,H⟩ 2;have HZ:=hdd (show (List.range (2+1)).map (sqW W H)=(List.range 2).map (sqW W H) ++ [mkW ⟨W,H⟩ ⟨0,H⟩ 2] by rw [jDk,jBn];rfl);have hZk:=zCv ⟨W,H⟩ ⟨0,H⟩;have HNE:=hdd (show ∀ x∈D,x≠mkW ⟨W,H⟩ ⟨0,H⟩ 2 from fun x hx e=>zNj hW0 hH0 hW hH (k:=2) (by omega) x (HP.out.1.mem_iff.1 hx) e);dsimp only at cw;generalize mkW ⟨W,H⟩ ⟨0,H⟩ 2=Z at *
   generalize mkOk ⟨W,H⟩ ⟨0,H⟩ 2=zk at *
   have hq1:IntKind.i64.wrap (2+1)=3:=by decide
   have hq2:IntKind.i64.wrap 3=3:=by decide
   have Fq:=Bq.f;have Fc:=Bc.f;go_wp2_with fail;have gq:=Bq.cells;have gc:=Bc.cells;refine rgl5 12 12 75 (fun w41 bkz hb h1b h2b Bz=>?_);have lqz:=Bq.lt;have lcz:=Bc.lt;have hw0z:=hw.size;clear gq gc;clear Fq Fc;obtain ⟨Bq,Bc,hw,-⟩:=qX2 Bq Bc hw hb;have fz:=h1b;have hwz:w.heap.size≤wr.heap.size:=hw0z;replace So:=So.ee hb;replace Bm:=Bm.ee hb;replace Hm:=Hm.ee hb;clear hb h1b h2b hw0z;simp only [Act.put];have F_qcz:=J3 Bq.f Bc.f Bz.f;go_wp2_with fail;clear F_qcz;have gc:=Bc.cells;have gz:=Bz.cells;refine rgn 5 (fun w60 hb=>?_);clear gc gz;replace So:=So.ee hb;replace Bm:=Bm.ee hb;replace Hm:=Hm.ee hb;obtain ⟨Bq,Bc,hw,-⟩:=qX2 Bq Bc hw hb;clear hb Bz;have hlD:D.length=2:=by have:=HP.out.1.length_eq;simpa using this
   have hkD:∀ x∈D,0≤x.K∧x.K≤2:=fun x hx=>by
    obtain ⟨i,_,rfl⟩:=jAk.1 (HP.out.1.mem_iff.1 hx);exact zCv _ _
   have cp:=zCt db v D Z (by omega) hkD hZk w60 So;clear hlD hkD;go_wp2_with fail;refine cp.mono ?_;rintro e w61 ⟨kp,v',rfl,hk5,So5,hf5,hv5⟩;have hdw:w.heap.size≤db:=hws;have hbd:(some b)≠(some db):=fun e=>So.box.ne_map Hm (jAl e).symm;have Bq5:=hf5.box Bq (by omega);have Bc5:=hf5.box Bc (by omega);have Bm5:=hf5.box Bm (by omega);have Hm5:=Hm.kept hf5.grown hbd;have hw5:=hw.trans (hf5.below (n:=w.heap.size) (fun k hk=>by rw [hk];exact hdw) hw.size);have HP5:=hdd (show (D.take kp ++ Z :: D.drop kp).Perm ((List.range (2+1)).map (sqW W H))∧Ris (D.take kp ++ Z :: D.drop kp) from ⟨by
    rw [HZ.out];exact (zCh kp).trans ((HP.out.1.cons _).trans (jB5 (l₁:=[Z]))),put_ris HP.out.2 hk5 HNE.out⟩)
   clear cp HP HZ HNE hk5 hf5 hv5 So Bq Bc Bm Hm hw;go_wp2
   go_roundw
   case rel=>exact ⟨3,3,v',_,by omega,by first | rfl | go_num,hdd rfl,So5,HP5,Bq5,Bc5,Bm5,Hm5,hw5⟩
   case measure=>simp [intOf]
  ·have hj:j=3:=by simpa using hj.out
   subst hj;have cw:=zFb ⟨0,H⟩ ⟨0,0⟩ 2;have HZ:=hdd (show (List.range (3+1)).map (sqW W H)=(List.range 3).map (sqW W H) ++ [mkW ⟨0,H⟩ ⟨0,0⟩ 2] by rw [jDk,jBn];rfl);have hZk:=zCv ⟨0,H⟩ ⟨0,0⟩;have HNE:=hdd (show ∀ x∈D,x≠mkW ⟨0,H⟩ ⟨0,0⟩ 2 from fun x hx e=>zNj hW0 hH0 hW hH (k:=3) (by omega) x (HP.out.1.mem_iff.1 hx) e);dsimp only at cw;generalize mkW ⟨0,H⟩ ⟨0,0⟩ 2=Z at *
   generalize mkOk ⟨0,H⟩ ⟨0,0⟩ 2=zk at *
   have hq1:IntKind.i64.wrap (3+1)=4:=by decide
   have hq2:IntKind.i64.wrap 4=4:=by decide
   have Fq:=Bq.f;have Fc:=Bc.f;go_wp2_with fail;have gq:=Bq.cells;have gc:=Bc.cells;refine rgl5 12 12 75 (fun w41 bkz hb h1b h2b Bz=>?_);have lqz:=Bq.lt;have lcz:=Bc.lt;have hw0z:=hw.size;clear gq gc;clear Fq Fc;obtain ⟨Bq,Bc,hw,-⟩:=qX2 Bq Bc hw hb;have fz:=h1b;have hwz:w.heap.size≤wr.heap.size:=hw0z;replace So:=So.ee hb;replace Bm:=Bm.ee hb;replace Hm:=Hm.ee hb;clear hb h1b h2b hw0z;simp only [Act.put];have F_qcz:=J3 Bq.f Bc.f Bz.f;go_wp2_with fail;clear F_qcz;have gc:=Bc.cells;have gz:=Bz.cells;refine rgn 5 (fun w60 hb=>?_);clear gc gz;replace So:=So.ee hb;replace Bm:=Bm.ee hb;replace Hm:=Hm.ee hb;obtain ⟨Bq,Bc,hw,-⟩:=qX2 Bq Bc hw hb;clear hb Bz;have hlD:D.length=3:=by have:=HP.out.1.length_eq;simpa using this
   have hkD:∀ x∈D,0≤x.K∧x.K≤2:=fun x hx=>by
    obtain ⟨i,_,rfl⟩:=jAk.1 (HP.out.1.mem_iff.1 hx);exact zCv _ _
   have cp:=zCt db v D Z (by omega) hkD hZk w60 So;clear hlD hkD;go_wp2_with fail;refine cp.mono ?_;rintro e w61 ⟨kp,v',rfl,hk5,So5,hf5,hv5⟩;have hdw:w.heap.size≤db:=hws;have hbd:(some b)≠(some db):=fun e=>So.box.ne_map Hm (jAl e).symm;have Bq5:=hf5.box Bq (by omega);have Bc5:=hf5.box Bc (by omega);have Bm5:=hf5.box Bm (by omega);have Hm5:=Hm.kept hf5.grown hbd;have hw5:=hw.trans (hf5.below (n:=w.heap.size) (fun k hk=>by rw [hk];exact hdw) hw.size);have HP5:=hdd (show (D.take kp ++ Z :: D.drop kp).Perm ((List.range (3+1)).map (sqW W H))∧Ris (D.take kp ++ Z :: D.drop kp) from ⟨by
    rw [HZ.out];exact (zCh kp).trans ((HP.out.1.cons _).trans (jB5 (l₁:=[Z]))),put_ris HP.out.2 hk5 HNE.out⟩)
   clear cp HP HZ HNE hk5 hf5 hv5 So Bq Bc Bm Hm hw;go_wp2
   go_roundw
   case rel=>exact ⟨4,4,v',_,by omega,by first | rfl | go_num,hdd rfl,So5,HP5,Bq5,Bc5,Bm5,Hm5,hw5⟩
   case measure=>simp [intOf]
  ·have hj:j=4:=by simpa using hj.out
   subst hj;have gc:=Bc.cells;go_wp2_with fail;refine rgn 8 (fun w60 hb=>?_);clear gc;have S6:CdtAt w60 (db+1) mb b db v W H E D:=⟨Bc.ee hb,Bm.ee hb,Hm.ee hb,So.ee hb,by omega,by omega⟩;have hw6:=(upB hw hb);obtain ⟨a9,c9,hv9,Dr,_⟩:=S6.doc.rd;have cr:=rrepair_any mb b db a9 c9 D.length E [X,Y] D W H hW hH (by simp) HG.out HT.out w60 S6.mesh S6.map Dr;clear hb So Bq Bc Bm Hm hw hv9 Dr;go_wp2_with fail;refine cr.mono ?_;rintro e w7 ⟨rfl,E2,L2,g5,H5,r5,f5⟩;have S7:CdtAt w7 (db+1) mb b db v W H E2 D:=⟨S6.box.turn S6.map g5,S6.mesh.turn S6.map g5,H5,S6.doc.turn S6.map g5,S6.cdb,S6.mdb⟩;have hw7:=hw6.grown g5 hw6.size (fun k hk=>by cases hk;exact hbl);have HI:=hdd (show CInvW W H E2 L2 D from ⟨r5.good,f5,fun x hx=>by
    obtain ⟨i,_,rfl⟩:=jAk.1 (HP.out.1.mem_iff.1 hx);exact zCv _ _,(winv_square hW0 hH0 hW hH HT.out HXY.out HP.out.1 HP.out.2).kept r5.kept,fun x hx _=>by
    obtain ⟨i,hi,rfl⟩:=jAk.1 (HP.out.1.mem_iff.1 hx);exact sqW_rim hW0 hH0 hW hH i⟩)
   have HL:=hdd (show L2.length=2 by rw [r5.kept.len];rfl);have HQ:=hdd (show ∀ q,someC L2 q↔q=⟨0,0⟩∨q=⟨W,0⟩∨q=⟨W,H⟩∨q=⟨0,H⟩ from fun q=>(r5.kept.cnr q).trans (HC.out q));have HP4:=hdd (show D.Perm [sqW W H 0,sqW W H 1,sqW W H 2,sqW W H 3] from HP.out.1);clear cr g5 H5 r5 f5 S6 hw6;go_wp2
   go_ret
   exact ⟨db+1,mb,b,db,v,E2,L2,D,rfl,S7,HI.out,HL.out,HQ.out,HP4.out,hw7,hbl,hws,hml,by omega⟩
end
end Go.Proofs.YtogffkimgmlilaaGreat
