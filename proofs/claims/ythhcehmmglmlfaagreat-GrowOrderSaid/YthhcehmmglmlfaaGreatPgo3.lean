import Derived.Test.YthhcehmmglmlfaaGreatPgo2
import Derived.Laws.Cover3
import Derived.Maps.OwnOps
import Derived.Deep.Draws
import Derived.Sort.Grow
set_option maxRecDepth 100000
set_option maxHeartbeats 8000000
set_option linter.all false
namespace Go.Proofs.YthhcehmmglmlfaaGreat
open _root_.Go.Proofs.Tryz
section
open Go.RowKit Go.Sort
theorem KB {P:Program} {ops:Array Oper} {A:Act} {R:Act->Prop} (k:R A):∀ (L:List Oper) (b:Act) (C:World->Prop),rWalk P ops C (λa'=>a'=A) L b->rWalk P ops C R L b:=by
 intro L;induction L with
 | nil=>intro b C h;simp only [rWalk] at h ⊢;rw [h];exact k
 | cons o rest ih=>
  intro b C h;simp only [rWalk] at h ⊢;split
  ·rename_i hw
   rw [JH hw] at h;obtain ⟨v,h1,h2⟩:=h;exact ⟨v,h1,ih _ _ h2⟩
  ·rename_i hw
   rw [J0 hw] at h;exact ih _ _ h
theorem rgl {P : Program} {id : Nat} {Q : Exit -> Act -> World -> Prop} {a A : Act} {w : World} {l r : List Oper} {c0 c1 c2 c3 c4 c5 : Value} {T : TypeId} {oj os : Oper} (m : Nat) (d t : Tmp)
    (k:∀ w' b,Below w w w'->w.heap.size<=b->b < w'.heap.size->Box w' b [c0,c1,c2,c3,c4,c5] T->wpList P l.toArray Q r (A.put (some d) (.pointer (some ⟨b,0,none⟩))) w')
    (hoj:l.toArray[m]? = some oj:=by rfl) (hos:l.toArray[m+1]? = some os:=by rfl) (hjd:oj.dst=some d:=by rfl) (hafter:oj.after=#[]:=by rfl) (hguard:oj.guard=none:=by rfl) (hsd:os.dst=none:=by rfl) (hsg:os.guard=none:=by rfl)
    (hdsz:d < a.tmps.size:=by simp)
    (hrun:∀ (ρ:Operand->Value) (w:World),(execOp ρ oj).run P w=.ok (.value (.pointer (some ⟨w,0,none⟩))) (w.alloc (.cells #[(),(),(),(),(),()] T)):=by (intro ρ W;simp [execOp,go_sem];rfl))
    (hm:P.follows .mixedOrders=true:=by kernel_rfl) (hB:lateB .any l.toArray (m+2) m (m+1) d t=true:=by as_aux_lemma=>kernel_rfl)
    (hr:l.drop (m+2)=r:=by (simp only [dP1,dP0];try rfl))
    (h:rWalk P l.toArray (λw'=>∃ p:Regrown,w'=grow (redrawn w p.d) p.os) (λa'=>a'=A) (l.take m) a:=by
     simp only [Q5,Qd];repeat (first | (refine zK (Eq.refl false) ?_;simp only [Act.put,sT2,sT1,sT0]) | (refine rWalk_step (λK hK=>?_);go_simp;first | (refine hK _ ?_;clear hK K) | (apply Exists.intro;refine ⟨λ_=>?_,hK _ ?_⟩;(with_reducible exact toExt (by assumption) _);clear hK K)))
     exact rWalk_nil rfl)
    (he:A.eval (.tmp t)=.agg #[c0,c1,c2,c3,c4,c5]:=by rfl)
    (hst:∀ (ρ:Operand->Value) (w:World) (b:Nat),ρ (.tmp d)=.pointer (some ⟨b,0,none⟩)->ρ (.tmp t)=.agg #[c0,c1,c2,c3,c4,c5]->Box w b [(),(),(),(),(),()] T->(execOp ρ os).run P w=.ok .skip (eff6 c0 c1 c2 c3 c4 c5 b w):=by
     (intro ρ W b e1 e2 hB;obtain ⟨x,y,_,_⟩:=hB.f;simp [execOp,go_sem,e1,e2,x,y,eff6])):(Code.region id l.toArray true).wp P Q a w:=
 qC m d t [c0,c1,c2,c3,c4,c5] (zs:=[(),(),(),(),(),()]) (eff:=eff6 c0 c1 c2 c3 c4 c5) eff6_spec hoj hos hjd hafter hguard hsd hsg hdsz hrun hm hB rgB
  (KB (A:=A) ⟨he,λw' b h1 h2 h3 h4=>by rw [hr];exact k w' b h1 h2 h3 h4⟩ _ _ _ h) hst
attribute [local go_sem] rOper rAt rUpon cell_set sg_i64 sg_u64 alloc_cell alloc_frozen
attribute [local go_sem 10000] pt_eql pt_neq tri_eql
attribute [local irreducible] rWalk
section
theorem ZP (T:Tri3) (i:Int) (w:World):Calls prog 33 #[T,i] w (Rt w (.tuple #[.agg #[.int .i64 (crn T i).x,.int .i64 (crn T i).y],.agg #[.int .i64 (crn T (i+1)).x,.int .i64 (crn T (i+1)).y]])):=by
 have cp:=jF i;have d1:=kQ T (plc i);have d2:=kQ T (plc i+1);rw [crn_plc] at d1;rw [crn_next] at d2;have hk:=uJ i;have hq:wrap64 (plc i+1)=plc i+1:=by rw [w64];omega
 have hq2:IntKind.i64.wrap (plc i+1)=plc i+1:=by rw [IntKind.wrap_i64];omega
 generalize crn T i=P at *
 generalize crn T (i+1)=Q at *
 generalize plc i=k at *
 clear hk
 go_enter func33,ntmps33
 go_wp2_with fail;refine qE3 λW1 Bt Br Bq hw=>?_;refine qK3 (cp _) Bt Br Bq hw λw2 Bt Br Bq hw=>?_;have Ft:=Bt.f;have Fr:=Br.f;have Fq:=Bq.f;go_wp2_with fail;refine zG λW9 hW=>?_;subst hW;clear Ft Fr Fq;have Rw:=J3 Bt.cells Br.cells Bq.cells;refine rgn 7 (λw3 hb=>?_);clear Rw;obtain ⟨Bt,Br,Bq,hw,-⟩:=qX3 Bt Br Bq hw hb;have Ft:=Bt.f;have Fr:=Br.f;have Fq:=Bq.f;go_wp2_with fail;refine bodyPost_ret (v:=.tuple #[P,Q]) (by simp [results,results33,go_sem,Fr,Fq]) rfl ⟨rfl,by have hl:=hw.size;go_grown⟩
def mn3 (x y z:Int):Int:=if z < (if y < x then y else x) then z else (if y < x then y else x)
theorem run_mn3 {P:Program} (w:World) (ts:Array TypeId) (t:TypeId) (k k' k'':IntKind) (x y z:Int):(Builtin.min_ ts t #[.int k x,.int k' y,.int k'' z]).run P w=.ok (.int k (mn3 x y z)) w:=run_min_int3 w ts t k k' k'' x y z
attribute [local go_sem 10000] run_mn3
def sde (T:Tri3) (p:Pt):Int:=mn3 (ori T.A T.B p) (ori T.B T.C p) (ori T.C T.A p)
theorem side_any (T:Tri3) (p:Pt) (w:World):Calls prog 63 #[T,p] w (Rt w (.int .i64 (sde T p))):=by
 unfold sde;have d1:=zJ T.A T.B p;have d2:=zJ T.B T.C p;have d3:=zJ T.C T.A p;generalize ori T.A T.B p=m at *
 generalize ori T.B T.C p=n at *
 generalize ori T.C T.A p=o at *
 go_enter func63,ntmps63
 go_wp2_with fail;refine qD2 λW1 Bt Bp hw=>?_;have R3:=J2 Bt.cells Bp.cells;refine rgn 18 (λw2 hb=>?_);clear R3;obtain ⟨Bt,Bp,hw,FU⟩:=qX2 Bt Bp hw hb;go_wp2
 go_ret
 exact ⟨zi rfl,by have hl:=hw.size;go_grown⟩
def hasS (T:Tri3) (p:Pt):Bool:=valT T && (vld p && decide (0<=sde T p))
theorem has_0 (T:Tri3) (p:Pt) (h0:valT T=false) (w:World):Calls prog 32 #[T,p] w (Rt w (.bool false)):=by
 have c1:=yH T;rw [h0] at c1;clear h0
 go_enter func32,ntmps32
 go_wp2_with fail;refine qE2 λW1 Bt Bp hw=>?_;refine qC2 (c1 _) Bt Bp hw λw2 Bt Bp hw FU=>?_;go_wp2
 go_ret
 exact ⟨rfl,by have hl:=hw.size;go_grown⟩
theorem has_1 (T:Tri3) (p:Pt) (h0:valT T) (h1:vld p=false) (w:World):Calls prog 32 #[T,p] w (Rt w (.bool false)):=by
 have c1:=yH T;rw [h0] at c1;clear h0;have c2:=zF p;rw [h1] at c2;clear h1
 go_enter func32,ntmps32
 go_wp2_with fail;refine qE2 λW1 Bt Bp hw=>?_;refine qC2 (c1 _) Bt Bp hw λw2 Bt Bp hw FU=>?_;go_wp2_with fail;clear FU;refine qC2 (c2 _) Bt Bp hw λw3 Bt Bp hw FU=>?_;go_wp2
 go_ret
 exact ⟨rfl,by have hl:=hw.size;go_grown⟩
theorem has_2 (T:Tri3) (p:Pt) (h0:valT T) (h1:vld p) (w:World):Calls prog 32 #[T,p] w (Rt w (.bool (decide (0<=sde T p)))):=by
 have c1:=yH T;rw [h0] at c1;clear h0;have c2:=zF p;rw [h1] at c2;clear h1;have c3:=side_any T p;generalize sde T p=n at *
 go_enter func32,ntmps32
 go_wp2_with fail;refine qE2 λW1 Bt Bp hw=>?_;refine qC2 (c1 _) Bt Bp hw λw2 Bt Bp hw FU=>?_;go_wp2_with fail;clear FU;refine qC2 (c2 _) Bt Bp hw λw3 Bt Bp hw FU=>?_;go_wp2_with fail;clear FU;refine qC2 (c3 _) Bt Bp hw λw4 Bt Bp hw FU=>?_;go_wp2
 go_ret
 exact ⟨rfl,by have hl:=hw.size;go_grown⟩
theorem Y0 (T:Tri3) (p:Pt) (w:World):Calls prog 32 #[T,p] w (Rt w (.bool (hasS T p))):=by
 unfold hasS;cases h0:valT T with
 | false=>exact has_0 T p h0 w
 | true=>cases h1:vld p with
  | false=>exact has_1 T p h0 h1 w
  | true=>exact has_2 T p h0 h1 w
theorem mn3_le {x y z:Int}:(0<=mn3 x y z↔0<=x/\0<=y/\0<=z)/\(0 < mn3 x y z↔0 < x/\0 < y/\0 < z):=by unfold mn3;(repeat' split) <;> omega
theorem K8 (T:Tri3) (p:Pt):hasS T p=hasP T p:=by
 unfold hasS hasP sde;rw [Qm];simp only [JB,JA,mn3_le.1]
end
section
theorem tri_neq (s u:Tri3) (w:World):(binOp .neq 45 (.agg #[s.A.x,s.A.y,s.B.x,s.B.y,s.C.x,s.C.y]) (.agg #[u.A.x,u.A.y,u.B.x,u.B.y,u.C.x,u.C.y])).run prog w=.ok (.bool (!teq s u)) w:=by
 unfold teq peqI;by_cases h1:s.A.x=u.A.x
 case neg=>simp [go_sem,h1]
 case pos=>
 by_cases h2:s.A.y=u.A.y
 case neg=>simp [go_sem,h1,h2]
 case pos=>
 by_cases h3:s.B.x=u.B.x
 case neg=>simp [go_sem,h1,h2,h3]
 case pos=>
 by_cases h4:s.B.y=u.B.y
 case neg=>simp [go_sem,h1,h2,h3,h4]
 case pos=>
 by_cases h5:s.C.x=u.C.x
 case neg=>simp [go_sem,h1,h2,h3,h4,h5]
 case pos=>
 by_cases h6:s.C.y=u.C.y
 ·simp [go_sem,h1,h2,h3,h4,h5,h6]
 ·simp [go_sem,h1,h2,h3,h4,h5,h6]
attribute [local go_sem 10000] tri_neq
theorem alike_T (a1 a2:Option Addr) (c1 c2:Nat) (L1 L2:List Tri3) (w:World) (h1:RowAt cT 6 w a1 L1) (h2:RowAt cT 6 w a2 L2) (hl1:L1.length<=1000000):Calls prog 10 #[.slice a1 L1.length c1,.slice a2 L2.length c2] w (Rt w (.bool (decide (L1=L2)))):=by
 by_cases hl:L1.length=L2.length
 case neg=>
  have hne:L1≠L2:=λe=>hl (by rw [e]);have hd:decide (L1=L2)=false:=by simpa using hne
  rw [hd];have hb2:((L1.length:Int) != L2.length)=true:=by rw [UU];omega
  clear h1 h2 hne hd;generalize L1.length=n1 at *
  generalize L2.length=n2 at *
  go_enter func10,ntmps10
  go_wp2
  go_ret
  exact ⟨rfl,Below.refl _ _⟩
 case pos=>
  obtain ⟨n,hn1⟩:∃ n,L1.length=n:=⟨_,rfl⟩;have hn2:L2.length=n:=by rw [<-hl,hn1]
  have hb2:((n:Int) != n)=false:=by simp
  rw [hn1,hn2];have hn:n<=1000000:=hn1▸hl1;have H1:=hdd hn1;have H2:=hdd hn2;clear hn1 hn2 hl hl1
  go_enter func10,ntmps10
  go_wp2
  go_loopw [5] (λi wr=>∃ k:Nat,k<=n/\i=.int .i64 k/\Hi (L1.take k=L2.take k)/\Below w w wr) (λi _=>n - (intOf i).toNat)
  case atStart=>exact ⟨0,Jl _,rfl,hdd rfl,Below.refl _ _⟩
  case round=>
   obtain ⟨k,hk,rfl,hT,hw⟩:=hrel;by_cases hlt:k < n
   ·have r1:=h1.ee hw;have r2:=h2.ee hw;obtain ⟨ad1,A1,ea1,eA1,_,_,q0,q1,q2,q3,q4,q5⟩:=r1.tri (j:=k) (by rw [H1.o];exact hlt);obtain ⟨ad2,A2,ea2,eA2,_,_,p0,p1,p2,p3,p4,p5⟩:=r2.tri (j:=k) (by rw [H2.o];exact hlt);clear r1 r2;have e1:L1[k]'(by rw [H1.o];exact hlt)=L1[k]'(by rw [H1.o];exact hlt):=rfl;by_cases he:L1[k]'(by rw [H1.o];exact hlt)=L2[k]'(by rw [H2.o];exact hlt)
    ·have hd:teq (L1[k]'(by rw [H1.o];exact hlt)) (L2[k]'(by rw [H2.o];exact hlt))=true:=k9.2 he;have HE:=hdd he;clear he e1;go_wp2
     go_quiet (fail)
     go_wp2
     go_roundw
     case rel => 
      refine ⟨k+1,by omega,by go_num,hdd ?_,?_⟩
      ·rw [JK (by rw [H1.o];exact hlt),JK (by rw [H2.o];exact hlt),hT.o,HE.o]
      ·exact hw.trans ⟨rfl,rfl,rfl,JJ _,λ_ _=>rfl⟩
     case measure=>simp [intOf];omega
    ·have hd:teq (L1[k]'(by rw [H1.o];exact hlt)) (L2[k]'(by rw [H2.o];exact hlt))=false:=by rw [<-QO,k9];exact he
     have hne:decide (L1=L2)=false:=by rw [QF];intro e;subst e;exact he rfl
     have HN:=hdd hne;clear he e1 hne;go_wp2
     go_quiet (fail)
     go_wp2
     go_ret
     exact ⟨yO HN.o.symm,hw.trans ⟨rfl,rfl,rfl,JJ _,λ_ _=>rfl⟩⟩
   ·have he : L1 = L2 := by
      have:=hT.o
      rwa [JV (by rw [H1.o];omega),JV (by rw [H2.o];omega)] at this
    have hd:decide (L1=L2)=true:=by simpa using he
    have HN:=hdd hd;clear he hd;go_wp2
    go_ret
    exact ⟨yO HN.o.symm,hw⟩
theorem yo {p q:Pt}:peqI p.x p.y q.x q.y=true↔p=q:=xJ.trans Pt.eq_iff.symm
end
theorem y9 (w:World):(zeroValue 45).run prog w=.ok (.agg #[(),(),(),(),(),()]) w:=by kernel_rfl
theorem HoldsMap.look_some {P:Program} {k e t:TypeId} {eK:Pt×Pt->Value} {ok:Pt×Pt->Prop} {w:World} {b:Nat} {E:List ((Pt×Pt)×Tri3)} (h:HoldsMap eK eT ok w b E) (V:KV P k e t eK ok) {z:Value} (hz:∀ w,(zeroValue e).run P w=.ok z w) {x:Pt×Pt} (hx:ok x) {v:Tri3} (hg:getE E x=some v):(Instr.lookup t (.map (some b)) (eK x) true).run P w=.ok (.tuple #[eT v,.bool true]) w:=by
 rw [h.look V (hz w) hx,hg]
theorem HoldsMap.look_none {P:Program} {k e t:TypeId} {eK:Pt×Pt->Value} {ok:Pt×Pt->Prop} {w:World} {b:Nat} {E:List ((Pt×Pt)×Tri3)} (h:HoldsMap eK eT ok w b E) (V:KV P k e t eK ok) {z:Value} (hz:∀ w,(zeroValue e).run P w=.ok z w) {x:Pt×Pt} (hx:ok x) (hg:getE E x=none):(Instr.lookup t (.map (some b)) (eK x) true).run P w=.ok (.tuple #[z,.bool false]) w:=by
 rw [h.look V (hz w) hx,hg]
def lftE (E:List ((Pt×Pt)×Tri3)) (p q:Pt):Tri3×Bool:=match getE E (p,q) with | some t=>(t,true) | none=>(⟨⟨0,0⟩,⟨0,0⟩,⟨0,0⟩⟩,false)
theorem zf {E:List ((Pt×Pt)×Tri3)} {p q:Pt} {t:Tri3} (h:getE E (p,q)=some t):lftE E p q=(t,true):=by unfold lftE;rw [h]
theorem yW {E:List ((Pt×Pt)×Tri3)} {p q:Pt} (h:getE E (p,q)=none):lftE E p q=(⟨⟨0,0⟩,⟨0,0⟩,⟨0,0⟩⟩,false):=by unfold lftE;rw [h]
theorem Yb (T:Tri3) (i:Int) (w:World):Calls prog 96 #[T,i] w (Rt w (.agg #[.int .i64 (crn T i).x,.int .i64 (crn T i).y,.int .i64 (crn T (i+1)).x,.int .i64 (crn T (i+1)).y])):=by
 have ce:=ZP T i;generalize crn T i=P at *
 generalize crn T (i+1)=Q at *
 go_enter func96,ntmps96
 go_wp2_with fail;refine qE2 λW1 Bt Br hw=>?_;refine qK2 (ce _) Bt Br hw λw2 Bt Br hw=>?_;obtain ⟨xt,yt,zt,vt⟩:=Bt.f;obtain ⟨xr,yr,zr,vr⟩:=Br.f;go_wp2_with fail;refine bodyPost_ret (v:=.agg #[P.x,P.y,Q.x,Q.y]) (by simp [results,results96,go_sem,xr,zr,zt]) rfl ⟨rfl,by have hl:=hw.size;go_grown⟩
theorem ZI (mb b:Nat) (E:List ((Pt×Pt)×Tri3)) (p q:Pt) (T:Tri3) (hg:getE E (p,q)=some T) (hk:okW (p,q)) (w:World) (Bm:Box w mb [.map (some b)] 83) (Hm:Hs w b E):Calls prog 152 #[pt0 mb,p,q] w (Rt w (.tuple #[T,.bool true])):=by
 go_enter func152,ntmps152
 go_wp2_with fail;refine qD3 λW1 Bp Bq Br hw=>?_;have BM:Box W1 (mb) [.map (some b)] 83:=Bm.ee hw;have hl:∀ d os,(Instr.lookup 81 (.map (some b)) (.agg #[p.x,p.y,q.x,q.y]) true).run prog (grow (redrawn W1 d) os)=.ok (.tuple #[T,.bool true]) (grow (redrawn W1 d) os):=λd os=>((Hm.ee hw).ext (below_regrown W1 d os) rfl).look_some kvM y9 hk hg;clear hg;have GX:=J4 Bp.cells Bq.cells Br.cells BM.cells;refine rgl 11 8 22 (λw2 bks hb h1b h2b Bs=>?_);have lps:=Bp.lt;have lqs:=Bq.lt;have lrs:=Br.lt;have lMs:=BM.lt;have hw0z:=hw.size;clear GX;obtain ⟨Bp,Bq,Br,BM,hw,-⟩:=qX4 Bp Bq Br BM hw hb;have fs:=h1b;have hwz:w.heap.size<=W1.heap.size:=hw0z;clear hb h1b h2b hw0z;simp only [Act.put];clear hl;have Fp:=Bp.f;have Fq:=Bq.f;have Fr:=Br.f;have FM:=BM.f;have Fs:=Bs.f;go_wp2_with fail;refine bodyPost_ret (v:=.tuple #[T,.bool true]) (by simp [results,results152,go_sem,Fr]) rfl ⟨rfl,by have hl:=hw.size;go_grown⟩
theorem K6 (mb b:Nat) (E:List ((Pt×Pt)×Tri3)) (p q:Pt) (hg:getE E (p,q)=none) (hk:okW (p,q)) (w:World) (Bm:Box w mb [.map (some b)] 83) (Hm:Hs w b E):Calls prog 152 #[pt0 mb,p,q] w (Rt w (.tuple #[.agg #[(),(),(),(),(),()],.bool false])):=by
 go_enter func152,ntmps152
 go_wp2_with fail;refine qD3 λW1 Bp Bq Br hw=>?_;have BM:Box W1 (mb) [.map (some b)] 83:=Bm.ee hw;have hl:∀ d os,(Instr.lookup 81 (.map (some b)) (.agg #[p.x,p.y,q.x,q.y]) true).run prog (grow (redrawn W1 d) os)=.ok (.tuple #[.agg #[(),(),(),(),(),()],.bool false]) (grow (redrawn W1 d) os):=λd os=>((Hm.ee hw).ext (below_regrown W1 d os) rfl).look_none kvM y9 hk hg;clear hg;have GX:=J4 Bp.cells Bq.cells Br.cells BM.cells;refine rgl 11 8 22 (λw2 bks hb h1b h2b Bs=>?_);have lps:=Bp.lt;have lqs:=Bq.lt;have lrs:=Br.lt;have lMs:=BM.lt;have hw0z:=hw.size;clear GX;obtain ⟨Bp,Bq,Br,BM,hw,-⟩:=qX4 Bp Bq Br BM hw hb;have fs:=h1b;have hwz:w.heap.size<=W1.heap.size:=hw0z;clear hb h1b h2b hw0z;simp only [Act.put];clear hl;have Fp:=Bp.f;have Fq:=Bq.f;have Fr:=Br.f;have FM:=BM.f;have Fs:=Bs.f;go_wp2_with fail;refine bodyPost_ret (v:=.tuple #[.agg #[(),(),(),(),(),()],.bool false]) (by simp [results,results152,go_sem,Fr]) rfl ⟨rfl,by have hl:=hw.size;go_grown⟩
theorem qM (mb b:Nat) (E:List ((Pt×Pt)×Tri3)) (p q:Pt) (hk:okW (p,q)) (w:World) (Bm:Box w mb [.map (some b)] 83) (Hm:Hs w b E):Calls prog 152 #[pt0 mb,p,q] w (Rt w (.tuple #[eT (lftE E p q).1,.bool (lftE E p q).2])):=by
 cases h:getE E (p,q) with
 | none=>rw [yW h];exact K6 mb b E p q h hk w Bm Hm
 | some t=>rw [zf h];exact ZI mb b E p q t h hk w Bm Hm
def hasE (E:List ((Pt×Pt)×Tri3)) (T:Tri3):Bool:=match getE E (T.A,T.B) with | some s=>teq s T | none=>false
def fitsE (E:List ((Pt×Pt)×Tri3)) (T:Tri3):Bool:=(getE E (T.A,T.B)).isNone && ((getE E (T.B,T.C)).isNone && ((getE E (T.C,T.A)).isNone && valT T))
theorem okT_w {T:Tri3} (h:okT T):okW (T.A,T.B)/\okW (T.B,T.C)/\okW (T.C,T.A):=⟨⟨h.1,h.2.1⟩,⟨h.2.1,h.2.2⟩,⟨h.2.2,h.1⟩⟩
theorem way_0 (T:Tri3) (w:World):Calls prog 96 #[T,()] w (Rt w (.agg #[T.A.x,T.A.y,T.B.x,T.B.y])):=Yb T 0 w
theorem way_1 (T:Tri3) (w:World):Calls prog 96 #[T,.int .i64 1] w (Rt w (.agg #[T.B.x,T.B.y,T.C.x,T.C.y])):=Yb T 1 w
theorem way_2 (T:Tri3) (w:World):Calls prog 96 #[T,.int .i64 2] w (Rt w (.agg #[T.C.x,T.C.y,T.A.x,T.A.y])):=Yb T 2 w
theorem mhas_1 (mb b:Nat) (E:List ((Pt×Pt)×Tri3)) (T:Tri3) (S:Tri3) (hg:getE E (T.A,T.B)=some S) (hk:okT T) (w:World) (Bm:Box w mb [.map (some b)] 83) (Hm:Hs w b E):Calls prog 105 #[pt0 mb,T] w (Rt w (.bool (teq S T))):=by
 go_enter func105,ntmps105
 go_wp2_with fail;refine qE1 λW1 Bt hw=>?_;refine qK1 (ZI mb b E T.A T.B S hg (okT_w hk).1 _ (Bm.ee hw) (Hm.ee hw)) Bt hw λw2 Bt hw=>?_;clear hg hk;have Ft:=Bt.f;go_wp2
 go_ret
 exact ⟨rfl,by have hl:=hw.size;go_grown⟩
theorem mhas_0 (mb b:Nat) (E:List ((Pt×Pt)×Tri3)) (T:Tri3) (hg:getE E (T.A,T.B)=none) (hk:okT T) (w:World) (Bm:Box w mb [.map (some b)] 83) (Hm:Hs w b E):Calls prog 105 #[pt0 mb,T] w (Rt w (.bool false)):=by
 go_enter func105,ntmps105
 go_wp2_with fail;refine qE1 λW1 Bt hw=>?_;refine qK1 (K6 mb b E T.A T.B hg (okT_w hk).1 _ (Bm.ee hw) (Hm.ee hw)) Bt hw λw2 Bt hw=>?_;clear hg hk;have Ft:=Bt.f;go_wp2
 go_ret
 exact ⟨rfl,by have hl:=hw.size;go_grown⟩
theorem X5 (mb b:Nat) (E:List ((Pt×Pt)×Tri3)) (T:Tri3) (hk:okT T) (w:World) (Bm:Box w mb [.map (some b)] 83) (Hm:Hs w b E):Calls prog 105 #[pt0 mb,T] w (Rt w (.bool (hasE E T))):=by
 cases h:getE E (T.A,T.B) with
 | none=>rw [show hasE E T=false by unfold hasE;rw [h]];exact mhas_0 mb b E T h hk w Bm Hm
 | some S=>rw [show hasE E T=teq S T by unfold hasE;rw [h]];exact mhas_1 mb b E T S h hk w Bm Hm
theorem fits_0 (mb b:Nat) (E:List ((Pt×Pt)×Tri3)) (T:Tri3) (S:Tri3) (hg0:getE E (T.A,T.B)=some S) (hk:okT T) (w:World) (Bm:Box w mb [.map (some b)] 83) (Hm:Hs w b E):Calls prog 95 #[pt0 mb,T] w (Rt w (.bool false)):=by
 go_enter func95,ntmps95
 go_wp2_with fail;refine qD1 λW1 Bt hw=>?_;have BM:Box W1 (mb) [.map (some b)] 83:=Bm.ee hw;refine wp_loop_rounds 5 ?_;try rw [rounds_succ]
 have Ft:=Bt.f;have FM:=BM.f;go_wp2_with fail;have hl:∀ d os,(Instr.lookup 81 (.map (some b)) (.agg #[T.A.x,T.A.y,T.B.x,T.B.y]) true).run prog (grow (redrawn W1 d) os)=.ok (.tuple #[S,.bool true]) (grow (redrawn W1 d) os):=λd os=>((Hm.ee hw).ext (below_regrown W1 d os) rfl).look_some kvM y9 (okT_w hk).1 hg0;clear hg0;have R6:=J2 Bt.cells BM.cells;have cz0:=way_0 T;refine rgl 11 6 20 (λw2 bks0 hb h1b h2b Bs0=>?_);clear cz0;have lts0:=Bt.lt;have lMs0:=BM.lt;have hw0z:=hw.size;clear R6;clear Ft FM;obtain ⟨Bt,BM,hw,-⟩:=qX2 Bt BM hw hb;have fs0:=h1b;have hwz:w.heap.size<=W1.heap.size:=hw0z;clear hb h1b h2b hw0z;simp only [Act.put];clear hl;have Ft:=Bt.f;have FM:=BM.f;have Fs0:=Bs0.f;go_wp2
 go_ret
 exact ⟨rfl,hw⟩
theorem fits_1 (mb b:Nat) (E:List ((Pt×Pt)×Tri3)) (T:Tri3) (S:Tri3) (hg0:getE E (T.A,T.B)=none) (hg1:getE E (T.B,T.C)=some S) (hk:okT T) (w:World) (Bm:Box w mb [.map (some b)] 83) (Hm:Hs w b E):Calls prog 95 #[pt0 mb,T] w (Rt w (.bool false)):=by
 go_enter func95,ntmps95
 go_wp2_with fail;refine qD1 λW1 Bt hw=>?_;have BM:Box W1 (mb) [.map (some b)] 83:=Bm.ee hw;refine wp_loop_rounds 5 ?_;try rw [rounds_succ]
 have Ft:=Bt.f;have FM:=BM.f;go_wp2_with fail;have hl:∀ d os,(Instr.lookup 81 (.map (some b)) (.agg #[T.A.x,T.A.y,T.B.x,T.B.y]) true).run prog (grow (redrawn W1 d) os)=.ok (.tuple #[.agg #[(),(),(),(),(),()],.bool false]) (grow (redrawn W1 d) os):=λd os=>((Hm.ee hw).ext (below_regrown W1 d os) rfl).look_none kvM y9 (okT_w hk).1 hg0;clear hg0;have gt:=Bt.cells;have gM:=BM.cells;have cz0:=way_0 T;refine rgl 11 6 20 (λw2 bks0 hb h1b h2b Bs0=>?_);clear cz0;have lts0:=Bt.lt;have lMs0:=BM.lt;have hw0z:=hw.size;clear gt gM;clear Ft FM;obtain ⟨Bt,BM,hw,-⟩:=qX2 Bt BM hw hb;have fs0:=h1b;have hwz:w.heap.size<=W1.heap.size:=hw0z;clear hb h1b h2b hw0z;simp only [Act.put];clear hl;have Hy:=J3 Bt.f BM.f Bs0.f;go_wp2_with fail;clear Hy;try rw [rounds_succ]
 have Ft:=Bt.f;have FM:=BM.f;have Fs0:=Bs0.f;go_wp2_with fail;refine zG λW3 hW=>?_;subst hW;clear Ft FM Fs0;have hl:∀ d os,(Instr.lookup 81 (.map (some b)) (.agg #[T.B.x,T.B.y,T.C.x,T.C.y]) true).run prog (grow (redrawn W3 d) os)=.ok (.tuple #[S,.bool true]) (grow (redrawn W3 d) os):=λd os=>((Hm.ee hw).ext (below_regrown W3 d os) rfl).look_some kvM y9 (okT_w hk).2.1 hg1;clear hg1;have gt:=Bt.cells;have gM:=BM.cells;have gs0:=Bs0.cells;have cz0:=way_1 T;refine rgl 11 6 20 (λw4 bks1 hb h1b h2b Bs1=>?_);clear cz0;have lts1:=Bt.lt;have lMs1:=BM.lt;have ls0s1:=Bs0.lt;have hw0z:=hw.size;clear gt gM gs0;obtain ⟨Bt,BM,Bs0,hw,-⟩:=qX3 Bt BM Bs0 hw hb;have fs1:=h1b;have hwz:w.heap.size<=W3.heap.size:=hw0z;clear hb h1b h2b hw0z;simp only [Act.put];clear hl;have Ft:=Bt.f;have FM:=BM.f;have Fs0:=Bs0.f;have Fs1:=Bs1.f;go_wp2
 go_ret
 exact ⟨rfl,hw⟩
theorem fits_2 (mb b:Nat) (E:List ((Pt×Pt)×Tri3)) (T:Tri3) (S:Tri3) (hg0:getE E (T.A,T.B)=none) (hg1:getE E (T.B,T.C)=none) (hg2:getE E (T.C,T.A)=some S) (hk:okT T) (w:World) (Bm:Box w mb [.map (some b)] 83) (Hm:Hs w b E):Calls prog 95 #[pt0 mb,T] w (Rt w (.bool false)):=by
 go_enter func95,ntmps95
 go_wp2_with fail;refine qD1 λW1 Bt hw=>?_;have BM:Box W1 (mb) [.map (some b)] 83:=Bm.ee hw;refine wp_loop_rounds 5 ?_;try rw [rounds_succ]
 have Ft:=Bt.f;have FM:=BM.f;go_wp2_with fail;have hl:∀ d os,(Instr.lookup 81 (.map (some b)) (.agg #[T.A.x,T.A.y,T.B.x,T.B.y]) true).run prog (grow (redrawn W1 d) os)=.ok (.tuple #[.agg #[(),(),(),(),(),()],.bool false]) (grow (redrawn W1 d) os):=λd os=>((Hm.ee hw).ext (below_regrown W1 d os) rfl).look_none kvM y9 (okT_w hk).1 hg0;clear hg0;have gt:=Bt.cells;have gM:=BM.cells;have cz0:=way_0 T;refine rgl 11 6 20 (λw2 bks0 hb h1b h2b Bs0=>?_);clear cz0;have lts0:=Bt.lt;have lMs0:=BM.lt;have hw0z:=hw.size;clear gt gM;clear Ft FM;obtain ⟨Bt,BM,hw,-⟩:=qX2 Bt BM hw hb;have fs0:=h1b;have hwz:w.heap.size<=W1.heap.size:=hw0z;clear hb h1b h2b hw0z;simp only [Act.put];clear hl;have Hy:=J3 Bt.f BM.f Bs0.f;go_wp2_with fail;clear Hy;try rw [rounds_succ]
 have Ft:=Bt.f;have FM:=BM.f;have Fs0:=Bs0.f;go_wp2_with fail;refine zG λW3 hW=>?_;subst hW;clear Ft FM Fs0;have hl:∀ d os,(Instr.lookup 81 (.map (some b)) (.agg #[T.B.x,T.B.y,T.C.x,T.C.y]) true).run prog (grow (redrawn W3 d) os)=.ok (.tuple #[.agg #[(),(),(),(),(),()],.bool false]) (grow (redrawn W3 d) os):=λd os=>((Hm.ee hw).ext (below_regrown W3 d os) rfl).look_none kvM y9 (okT_w hk).2.1 hg1;clear hg1;have gt:=Bt.cells;have gM:=BM.cells;have gs0:=Bs0.cells;have cz0:=way_1 T;refine rgl 11 6 20 (λw4 bks1 hb h1b h2b Bs1=>?_);clear cz0;have lts1:=Bt.lt;have lMs1:=BM.lt;have ls0s1:=Bs0.lt;have hw0z:=hw.size;clear gt gM gs0;obtain ⟨Bt,BM,Bs0,hw,-⟩:=qX3 Bt BM Bs0 hw hb;have fs1:=h1b;have hwz:w.heap.size<=W3.heap.size:=hw0z;clear hb h1b h2b hw0z;simp only [Act.put];clear hl;have Ht:=J4 Bt.f BM.f Bs0.f Bs1.f;go_wp2_with fail;clear Ht;try rw [rounds_succ]
 have Ft:=Bt.f;have FM:=BM.f;have Fs0:=Bs0.f;have Fs1:=Bs1.f;go_wp2_with fail;refine zG λW5 hW=>?_;subst hW;clear Ft FM Fs0 Fs1;have hl:∀ d os,(Instr.lookup 81 (.map (some b)) (.agg #[T.C.x,T.C.y,T.A.x,T.A.y]) true).run prog (grow (redrawn W5 d) os)=.ok (.tuple #[S,.bool true]) (grow (redrawn W5 d) os):=λd os=>((Hm.ee hw).ext (below_regrown W5 d os) rfl).look_some kvM y9 (okT_w hk).2.2 hg2;clear hg2;have gt:=Bt.cells;have gM:=BM.cells;have gs0:=Bs0.cells;have gs1:=Bs1.cells;have cz0:=way_2 T;refine rgl 11 6 20 (λw6 bks2 hb h1b h2b Bs2=>?_);clear cz0;have lts2:=Bt.lt;have lMs2:=BM.lt;have ls0s2:=Bs0.lt;have ls1s2:=Bs1.lt;have hw0z:=hw.size;clear gt gM gs0 gs1;obtain ⟨Bt,BM,Bs0,Bs1,hw,-⟩:=qX4 Bt BM Bs0 Bs1 hw hb;have fs2:=h1b;have hwz:w.heap.size<=W5.heap.size:=hw0z;clear hb h1b h2b hw0z;simp only [Act.put];clear hl;have Ft:=Bt.f;have FM:=BM.f;have Fs0:=Bs0.f;have Fs1:=Bs1.f;have Fs2:=Bs2.f;go_wp2
 go_ret
 exact ⟨rfl,hw⟩
theorem fits_3 (mb b:Nat) (E:List ((Pt×Pt)×Tri3)) (T:Tri3) (hg0:getE E (T.A,T.B)=none) (hg1:getE E (T.B,T.C)=none) (hg2:getE E (T.C,T.A)=none) (hk:okT T) (w:World) (Bm:Box w mb [.map (some b)] 83) (Hm:Hs w b E):Calls prog 95 #[pt0 mb,T] w (Rt w (.bool (valT T))):=by
 have cv:=yH T;generalize valT T=v at *
 go_enter func95,ntmps95
 go_wp2_with fail;refine qD1 λW1 Bt hw=>?_;have BM:Box W1 (mb) [.map (some b)] 83:=Bm.ee hw;refine wp_loop_rounds 5 ?_;try rw [rounds_succ]
 have Ft:=Bt.f;have FM:=BM.f;go_wp2_with fail;have hl:∀ d os,(Instr.lookup 81 (.map (some b)) (.agg #[T.A.x,T.A.y,T.B.x,T.B.y]) true).run prog (grow (redrawn W1 d) os)=.ok (.tuple #[.agg #[(),(),(),(),(),()],.bool false]) (grow (redrawn W1 d) os):=λd os=>((Hm.ee hw).ext (below_regrown W1 d os) rfl).look_none kvM y9 (okT_w hk).1 hg0;clear hg0;have gt:=Bt.cells;have gM:=BM.cells;have cz0:=way_0 T;refine rgl 11 6 20 (λw2 bks0 hb h1b h2b Bs0=>?_);clear cz0;have lts0:=Bt.lt;have lMs0:=BM.lt;have hw0z:=hw.size;clear gt gM;clear Ft FM;obtain ⟨Bt,BM,hw,-⟩:=qX2 Bt BM hw hb;have fs0:=h1b;have hwz:w.heap.size<=W1.heap.size:=hw0z;clear hb h1b h2b hw0z;simp only [Act.put];clear hl;have Hy:=J3 Bt.f BM.f Bs0.f;go_wp2_with fail;clear Hy;try rw [rounds_succ]
 have Ft:=Bt.f;have FM:=BM.f;have Fs0:=Bs0.f;go_wp2_with fail;refine zG λW3 hW=>?_;subst hW;clear Ft FM Fs0;have hl:∀ d os,(Instr.lookup 81 (.map (some b)) (.agg #[T.B.x,T.B.y,T.C.x,T.C.y]) true).run prog (grow (redrawn W3 d) os)=.ok (.tuple #[.agg #[(),(),(),(),(),()],.bool false]) (grow (redrawn W3 d) os):=λd os=>((Hm.ee hw).ext (below_regrown W3 d os) rfl).look_none kvM y9 (okT_w hk).2.1 hg1;clear hg1;have gt:=Bt.cells;have gM:=BM.cells;have gs0:=Bs0.cells;have cz0:=way_1 T;refine rgl 11 6 20 (λw4 bks1 hb h1b h2b Bs1=>?_);clear cz0;have lts1:=Bt.lt;have lMs1:=BM.lt;have ls0s1:=Bs0.lt;have hw0z:=hw.size;clear gt gM gs0;obtain ⟨Bt,BM,Bs0,hw,-⟩:=qX3 Bt BM Bs0 hw hb;have fs1:=h1b;have hwz:w.heap.size<=W3.heap.size:=hw0z;clear hb h1b h2b hw0z;simp only [Act.put];clear hl;have Ht:=J4 Bt.f BM.f Bs0.f Bs1.f;go_wp2_with fail;clear Ht;try rw [rounds_succ]
 have Ft:=Bt.f;have FM:=BM.f;have Fs0:=Bs0.f;have Fs1:=Bs1.f;go_wp2_with fail;refine zG λW5 hW=>?_;subst hW;clear Ft FM Fs0 Fs1;have hl:∀ d os,(Instr.lookup 81 (.map (some b)) (.agg #[T.C.x,T.C.y,T.A.x,T.A.y]) true).run prog (grow (redrawn W5 d) os)=.ok (.tuple #[.agg #[(),(),(),(),(),()],.bool false]) (grow (redrawn W5 d) os):=λd os=>((Hm.ee hw).ext (below_regrown W5 d os) rfl).look_none kvM y9 (okT_w hk).2.2 hg2;clear hg2;have gt:=Bt.cells;have gM:=BM.cells;have gs0:=Bs0.cells;have gs1:=Bs1.cells;have cz0:=way_2 T;refine rgl 11 6 20 (λw6 bks2 hb h1b h2b Bs2=>?_);clear cz0;have lts2:=Bt.lt;have lMs2:=BM.lt;have ls0s2:=Bs0.lt;have ls1s2:=Bs1.lt;have hw0z:=hw.size;clear gt gM gs0 gs1;obtain ⟨Bt,BM,Bs0,Bs1,hw,-⟩:=qX4 Bt BM Bs0 Bs1 hw hb;have fs2:=h1b;have hwz:w.heap.size<=W5.heap.size:=hw0z;clear hb h1b h2b hw0z;simp only [Act.put];clear hl;have RZ:=J5 Bt.f BM.f Bs0.f Bs1.f Bs2.f;go_wp2_with fail;clear RZ;try rw [rounds_succ]
 have Ft:=Bt.f;have FM:=BM.f;have Fs0:=Bs0.f;have Fs1:=Bs1.f;have Fs2:=Bs2.f;go_wp2_with fail;refine (cv _).mono ?_;rintro e w9 ⟨rfl,hb⟩;replace hw:=upB hw hb;clear Ft FM Fs0 Fs1 Fs2;clear hb;go_wp2
 go_ret
 exact ⟨rfl,hw⟩
theorem fits_any (mb b:Nat) (E:List ((Pt×Pt)×Tri3)) (T:Tri3) (hk:okT T) (w:World) (Bm:Box w mb [.map (some b)] 83) (Hm:Hs w b E):Calls prog 95 #[pt0 mb,T] w λe w'=>e=.returned (.bool (Option.isNone (getE E (T.A,T.B)) && (Option.isNone (getE E (T.B,T.C)) && (Option.isNone (getE E (T.C,T.A)) && valT T))))/\Below w w w':=by
 cases h0:getE E (T.A,T.B) with
 | some S=>exact fits_0 mb b E T S h0 hk w Bm Hm
 | none=>
  cases h1:getE E (T.B,T.C) with
  | some S=>exact fits_1 mb b E T S h0 h1 hk w Bm Hm
  | none=>
   cases h2:getE E (T.C,T.A) with
   | some S=>exact fits_2 mb b E T S h0 h1 h2 hk w Bm Hm
   | none=>exact fits_3 mb b E T h0 h1 h2 hk w Bm Hm
theorem YB (mb b : Nat) (E : List ((Pt × Pt) × Tri3)) (T : Tri3) (hk : okT T) (w : World) (Bm : Box w mb [.map (some b)] 83) (Hm : Hs w b E) :
    Calls prog 95 #[pt0 mb,T] w (Rt w (.bool (fitsE E T))):=fits_any mb b E T hk w Bm Hm
theorem zM {w w':World} (h:Below w w w') (row:Option Nat):w.grownBy w' row:=⟨h.os,h.tape,h.output,h.size,λi hi _=>h.block i hi⟩
theorem vu {B:Nat} {w w' w2:World} {b:Nat} (h:Below B w w') (hg:w'.grownBy w2 (some b)) (hB:B<=w'.heap.size) (hb:B<=b):Below B w w2:=
 ⟨hg.os.trans h.os,hg.tape.trans h.tape,hg.output.trans h.output,JY h.size hg.size,λi hi=>(hg.block i (by omega) (λe=>by cases e;omega)).trans (h.block i hi)⟩
theorem zR {a b c:World} {r:Nat} (h:a.grownBy b (some r)) (k:b.grownBy c (some r)):a.grownBy c (some r):=h.andThen k (λ_ hj=>.inr hj)
theorem zO {a b c:World} {r:Nat} (h:a.grownBy b (some r)) (k:Below b b c):a.grownBy c (some r):=zR h (zM k _)
theorem below_then {a b c:World} {r:Nat} (h:Below a a b) (k:b.grownBy c (some r)):a.grownBy c (some r):=zR (zM h _) k
theorem kL (w:World) (row:Option Nat):w.grownBy w row:=⟨rfl,rfl,rfl,JJ _,λ_ _ _=>rfl⟩
theorem Box.ne_map {w:World} {x b:Nat} {cs:List Value} {T:TypeId} {E:List ((Pt×Pt)×Tri3)} (h:Box w x cs T) (H:Hs w b E):x≠b:=by
 obtain ⟨es,clock,hb,_⟩:=H;intro e;unfold Box at h;rw [e,hb] at h;cases h
theorem Box.turn {w w':World} {x b:Nat} {cs:List Value} {T:TypeId} {E:List ((Pt×Pt)×Tri3)} (h:Box w x cs T) (H:Hs w b E) (hg:w.grownBy w' (some b)):Box w' x cs T:=by
 have hne:=h.ne_map H;have hl:=h.lt;unfold Box at *;rw [hg.block x hl (by simpa using hne)];exact h
theorem RowAt.turn {α:Type} {c:α->List Value} {k:Nat} {w w':World} {a:Option Addr} {L:List α} {b:Nat} {E:List ((Pt×Pt)×Tri3)} (h:RowAt c k w a L) (hc:∀ x,c x≠[]) (H:Hs w b E) (hg:w.grownBy w' (some b)):RowAt c k w' a L:=λj x hx=>by
 obtain ⟨ad,h1,h2,h3⟩:=h j x hx;have hne:ad.block≠b:=by
  obtain ⟨es,clock,hb,_⟩:=H;cases hcx:c x with
  | nil=>exact absurd hcx (hc x)
  | cons v l=>
   have h4:=h3 0 v (by rw [hcx];rfl);intro e;unfold World.cell? at h4;rw [zj,zj,e,hb] at h4;cases h4
 refine ⟨ad,h1,QN h2 hg.size,λi u hu=>?_⟩;exact hg.cell (h3 i u hu) (by rw [zj,zj];simpa using hne)
theorem cT_ne (x:Tri3):cT x≠[]:=by simp [cT]
theorem cP_ne (x:Pt):cP x≠[]:=by simp [cP]
abbrev Es:=List ((Pt×Pt)×Tri3)
def putT (E:Es) (T:Tri3):Es:=putE (putE (putE E (T.A,T.B) T) (T.B,T.C) T) (T.C,T.A) T
def takeT (E:Es) (T:Tri3):Es:=delE (delE (delE E (T.A,T.B)) (T.B,T.C)) (T.C,T.A)
def putRun (E:Es):List Tri3->Nat×Es
 | []=>(0,E)
 | T :: l=>if fitsE E T=true then ((putRun (putT E T) l).1+1,(putRun (putT E T) l).2) else (0,E)
def takeRun (E:Es):List Tri3->Nat×Es
 | []=>(0,E)
 | T :: l=>if hasE E T=true then ((takeRun (takeT E T) l).1+1,(takeRun (takeT E T) l).2) else (0,E)
theorem vK {E F:Es} {L:List Tri3} {k:Nat} (hk:k < L.length) (h:putRun E L=(k+(putRun F (L.drop k)).1,(putRun F (L.drop k)).2)) (hf:fitsE F L[k]=true):putRun E L=(k+1+(putRun (putT F L[k]) (L.drop (k+1))).1,(putRun (putT F L[k]) (L.drop (k+1))).2):=by
 rw [h,Q9 hk,putRun,JH hf];simp only [Jt,Vs];omega
theorem vJ {E F:Es} {L:List Tri3} {k:Nat} (hk:k < L.length) (h:putRun E L=(k+(putRun F (L.drop k)).1,(putRun F (L.drop k)).2)) (hf:fitsE F L[k]=false):putRun E L=(k,F):=by
 rw [h,Q9 hk,putRun,J0 (by rw [hf];decide)];rfl
theorem tD {E F:Es} {L:List Tri3} {k:Nat} (hk:L.length<=k) (h:putRun E L=(k+(putRun F (L.drop k)).1,(putRun F (L.drop k)).2)):putRun E L=(k,F):=by
 rw [h,VM hk];rfl
theorem takeRun_step {E F:Es} {L:List Tri3} {k:Nat} (hk:k < L.length) (h:takeRun E L=(k+(takeRun F (L.drop k)).1,(takeRun F (L.drop k)).2)) (hf:hasE F L[k]=true):takeRun E L=(k+1+(takeRun (takeT F L[k]) (L.drop (k+1))).1,(takeRun (takeT F L[k]) (L.drop (k+1))).2):=by
 rw [h,Q9 hk,takeRun,JH hf];simp only [Jt,Vs];omega
theorem takeRun_stop {E F:Es} {L:List Tri3} {k:Nat} (hk:k < L.length) (h:takeRun E L=(k+(takeRun F (L.drop k)).1,(takeRun F (L.drop k)).2)) (hf:hasE F L[k]=false):takeRun E L=(k,F):=by
 rw [h,Q9 hk,takeRun,J0 (by rw [hf];decide)];rfl
theorem takeRun_end {E F:Es} {L:List Tri3} {k:Nat} (hk:L.length<=k) (h:takeRun E L=(k+(takeRun F (L.drop k)).1,(takeRun F (L.drop k)).2)):takeRun E L=(k,F):=by
 rw [h,VM hk];rfl
section
theorem map_nil (b:Nat) (w:World):(binOp .eql 81 (.map (some b)) (.map none)).run prog w=.ok (.bool false) w:=by
 simp only [binOp];simp [run_equal_map_nil w 81 _ _ (some b) underlying81]
theorem rmap_nil (b:Nat) (w:World):(binOp .eql 96 (.map (some b)) (.map none)).run prog w=.ok (.bool false) w:=by
 simp only [binOp];simp [run_equal_map_nil w 96 _ _ (some b) underlying96]
attribute [local go_sem] map_nil rmap_nil
theorem jX (mb b:Nat) (E:Es) (a:Option Addr) (cap n:Nat) (L:List Tri3) (hn:Hi (L.length=n)) (hn1:n<=1000000) (hok:∀ T∈L,okT T) (w:World) (Bm:Box w mb [.map (some b)] 83) (Hm:Hs w b E) (Hr:RowAt cT 6 w a L):Calls prog 46 #[pt0 mb,.slice a n cap] w λe w'=>e=.returned (.int .i64 (putRun E L).1)/\w.grownBy w' (some b)/\Hs w' b (putRun E L).2:=by
 have hmb:=Bm.ne_map Hm;have Fm:=Bm.f
 go_enter func46,ntmps46
 go_wp2;clear Fm
 go_loopw [19] (λi wr=>∃ (k:Nat) (F:Es),k<=n/\i=.int .i64 k/\Hi (putRun E L=(k+(putRun F (L.drop k)).1,(putRun F (L.drop k)).2))/\Hs wr b F/\w.grownBy wr (some b)) (λi _=>n - (intOf i).toNat)
 case atStart=>exact ⟨0,E,Jl _,rfl,hdd (by simp),Hm,kL _ _⟩
 case round=>
  obtain ⟨k,F,hk,rfl,hR,HF,hg⟩:=hrel;have BM:=Bm.turn Hm hg;by_cases hlt:k < n
  ·have hlk:k < L.length:=hn.o▸hlt;have hokk:=hok L[k] (JX hlk);have hst:=λhf=>vK hlk hR.o hf;have hsp:=λhf=>vJ hlk hR.o hf;obtain ⟨ad,A,ea,eA,zA,_,q0,q1,q2,q3,q4,q5⟩:=(Hr.turn cT_ne Hm hg).tri hlk;generalize L[k]=T at *
   cases hf:fitsE F T with
   | false=>
    have HP:=hdd (hsp hf);clear hst hsp;have cf:=YB mb b F T hokk;rw [hf] at cf;clear hf;have FM:=BM.f;go_wp2_with fail;refine zI λW1 hW=>?_;have Bt:Box W1 wr [T.A.x,T.A.y,T.B.x,T.B.y,T.C.x,T.C.y] 45:=by rw [hW];exact Box.new rfl
    have hw:Below wr wr W1:=by rw [hW];go_grown
    clear hW;clear FM;replace BM:=BM.ee hw;clear q0 q1 q2 q3 q4 q5 ea eA zA;refine qK2 (cf _ BM (HF.ee hw)) BM Bt hw λw2 BM Bt hw=>?_;have FM:=BM.f;have Ft:=Bt.f;go_wp2
    go_ret
    exact ⟨zi (by rw [HP.o]),zO hg hw,by rw [HP.o];exact HF.ee hw⟩
   | true=>
    have HP:=hdd (hst hf);clear hst hsp;have cf:=YB mb b F T hokk;rw [hf] at cf;clear hf;have FM:=BM.f;go_wp2_with fail;refine zI λW1 hW=>?_;have Bt:Box W1 wr [T.A.x,T.A.y,T.B.x,T.B.y,T.C.x,T.C.y] 45:=by rw [hW];exact Box.new rfl
    have hw:Below wr wr W1:=by rw [hW];go_grown
    clear hW;clear FM;replace BM:=BM.ee hw;clear q0 q1 q2 q3 q4 q5 ea eA zA;refine qC2 (cf _ BM (HF.ee hw)) BM Bt hw λw2 BM Bt hw Gt=>?_;go_wp2_with fail;clear Gt;refine wp_loop_rounds 5 ?_;try rw [rounds_succ]
    have FM:=BM.f;have Ft:=Bt.f;go_wp2_with fail;replace HF:=HF.ee hw;replace hg:=zO hg hw;have hw:Below w2 w2 w2:=Below.refl _ _;have G7:=J2 BM.cells Bt.cells;have cz0:=way_0 T;refine rgn 8 (λw3 hb=>?_);clear cz0;clear G7;clear FM Ft;obtain ⟨BM,Bt,hw,-⟩:=qX2 BM Bt hw hb;replace HF:=HF.ee hw;replace hg:=zO hg hw;clear hw;refine yq _ rfl _ _ _ rfl kvM rfl HF (T.A,T.B) T rfl rfl (okT_w hokk).1 ?_;intro c0 HG hh hs;replace BM:=BM.turn HF hh;replace Bt:=Bt.turn HF hh;replace hg:=zR hg hh;clear HF hh hs;have HF:=HG;clear HG;have Gt:=J2 BM.f Bt.f;go_wp2_with fail;clear Gt;try rw [rounds_succ]
    have FM:=BM.f;have Ft:=Bt.f;go_wp2_with fail;have hw:Below c0 c0 c0:=Below.refl _ _;have G7:=J2 BM.cells Bt.cells;have cz0:=way_1 T;refine rgn 8 (λw4 hb=>?_);clear cz0;clear G7;clear FM Ft;obtain ⟨BM,Bt,hw,-⟩:=qX2 BM Bt hw hb;replace HF:=HF.ee hw;replace hg:=zO hg hw;clear hw;refine yq _ rfl _ _ _ rfl kvM rfl HF (T.B,T.C) T rfl rfl (okT_w hokk).2.1 ?_;intro c1 HG hh hs;replace BM:=BM.turn HF hh;replace Bt:=Bt.turn HF hh;replace hg:=zR hg hh;clear HF hh hs;have HF:=HG;clear HG;have Gt:=J2 BM.f Bt.f;go_wp2_with fail;clear Gt;try rw [rounds_succ]
    have FM:=BM.f;have Ft:=Bt.f;go_wp2_with fail;have hw:Below c1 c1 c1:=Below.refl _ _;have G7:=J2 BM.cells Bt.cells;have cz0:=way_2 T;refine rgn 8 (λw5 hb=>?_);clear cz0;clear G7;clear FM Ft;obtain ⟨BM,Bt,hw,-⟩:=qX2 BM Bt hw hb;replace HF:=HF.ee hw;replace hg:=zO hg hw;clear hw;refine yq _ rfl _ _ _ rfl kvM rfl HF (T.C,T.A) T rfl rfl (okT_w hokk).2.2 ?_;intro c2 HG hh hs;replace BM:=BM.turn HF hh;replace Bt:=Bt.turn HF hh;replace hg:=zR hg hh;clear HF hh hs;have HF:=HG;clear HG;have Gt:=J2 BM.f Bt.f;go_wp2_with fail;clear Gt;try rw [rounds_succ]
    have FM:=BM.f;have Ft:=Bt.f;go_wp2
    go_roundw
    case rel=>exact ⟨k+1,putT F T,by omega,by go_num,HP,HF,hg⟩
    case measure=>simp [intOf];omega
  ·have HP:=hdd (tD (by rw [hn.o];omega) hR.o);have Fm:=BM.f;go_wp2
   go_ret
   exact ⟨zi (by rw [HP.o];omega),hg,by rw [HP.o];exact HF⟩
theorem jI (mb b:Nat) (E:Es) (a:Option Addr) (cap n:Nat) (L:List Tri3) (hn:Hi (L.length=n)) (hn1:n<=1000000) (hok:∀ T∈L,okT T) (w:World) (Bm:Box w mb [.map (some b)] 83) (Hm:Hs w b E) (Hr:RowAt cT 6 w a L):Calls prog 55 #[pt0 mb,.slice a n cap] w λe w'=>e=.returned (.int .i64 (takeRun E L).1)/\w.grownBy w' (some b)/\Hs w' b (takeRun E L).2:=by
 have hmb:=Bm.ne_map Hm;have Fm:=Bm.f
 go_enter func55,ntmps55
 go_wp2;clear Fm
 go_loopw [10] (λi wr=>∃ (k:Nat) (F:Es),k<=n/\i=.int .i64 k/\Hi (takeRun E L=(k+(takeRun F (L.drop k)).1,(takeRun F (L.drop k)).2))/\Hs wr b F/\w.grownBy wr (some b)) (λi _=>n - (intOf i).toNat)
 case atStart=>exact ⟨0,E,Jl _,rfl,hdd (by simp),Hm,kL _ _⟩
 case round=>
  obtain ⟨k,F,hk,rfl,hR,HF,hg⟩:=hrel;have BM:=Bm.turn Hm hg;by_cases hlt:k < n
  ·have hlk:k < L.length:=hn.o▸hlt;have hokk:=hok L[k] (JX hlk);have hst:=λhf=>takeRun_step hlk hR.o hf;have hsp:=λhf=>takeRun_stop hlk hR.o hf;obtain ⟨ad,A,ea,eA,zA,_,q0,q1,q2,q3,q4,q5⟩:=(Hr.turn cT_ne Hm hg).tri hlk;generalize L[k]=T at *
   cases hf:hasE F T with
   | false=>
    have HP:=hdd (hsp hf);clear hst hsp;have cf:=X5 mb b F T hokk;rw [hf] at cf;clear hf;have FM:=BM.f;go_wp2_with fail;refine zI λW1 hW=>?_;have Bt:Box W1 wr [T.A.x,T.A.y,T.B.x,T.B.y,T.C.x,T.C.y] 45:=by rw [hW];exact Box.new rfl
    have hw:Below wr wr W1:=by rw [hW];go_grown
    clear hW;clear FM;replace BM:=BM.ee hw;clear q0 q1 q2 q3 q4 q5 ea eA zA;refine qK2 (cf _ BM (HF.ee hw)) BM Bt hw λw2 BM Bt hw=>?_;have FM:=BM.f;have Ft:=Bt.f;go_wp2
    go_ret
    exact ⟨zi (by rw [HP.o]),zO hg hw,by rw [HP.o];exact HF.ee hw⟩
   | true=>
    have HP:=hdd (hst hf);clear hst hsp;have cf:=X5 mb b F T hokk;rw [hf] at cf;clear hf;have FM:=BM.f;go_wp2_with fail;refine zI λW1 hW=>?_;have Bt:Box W1 wr [T.A.x,T.A.y,T.B.x,T.B.y,T.C.x,T.C.y] 45:=by rw [hW];exact Box.new rfl
    have hw:Below wr wr W1:=by rw [hW];go_grown
    clear hW;clear FM;replace BM:=BM.ee hw;clear q0 q1 q2 q3 q4 q5 ea eA zA;refine qC2 (cf _ BM (HF.ee hw)) BM Bt hw λw2 BM Bt hw Gt=>?_;go_wp2_with fail;clear Gt;refine wp_loop_rounds 5 ?_;try rw [rounds_succ]
    have FM:=BM.f;have Ft:=Bt.f;go_wp2_with fail;replace HF:=HF.ee hw;replace hg:=zO hg hw;have hw:Below w2 w2 w2:=Below.refl _ _;have G7:=J2 BM.cells Bt.cells;have cz0:=way_0 T;refine rgn 7 (λw3 hb=>?_);clear cz0;clear G7;clear FM Ft;obtain ⟨BM,Bt,hw,-⟩:=qX2 BM Bt hw hb;replace HF:=HF.ee hw;replace hg:=zO hg hw;clear hw;refine xG _ rfl _ _ rfl kvM rfl HF (T.A,T.B) rfl (okT_w hokk).1 ?_;intro c0 HG hh hs;replace BM:=BM.turn HF hh;replace Bt:=Bt.turn HF hh;replace hg:=zR hg hh;clear HF hh hs;have HF:=HG;clear HG;have Gt:=J2 BM.f Bt.f;go_wp2_with fail;clear Gt;try rw [rounds_succ]
    have FM:=BM.f;have Ft:=Bt.f;go_wp2_with fail;have hw:Below c0 c0 c0:=Below.refl _ _;have G7:=J2 BM.cells Bt.cells;have cz0:=way_1 T;refine rgn 7 (λw4 hb=>?_);clear cz0;clear G7;clear FM Ft;obtain ⟨BM,Bt,hw,-⟩:=qX2 BM Bt hw hb;replace HF:=HF.ee hw;replace hg:=zO hg hw;clear hw;refine xG _ rfl _ _ rfl kvM rfl HF (T.B,T.C) rfl (okT_w hokk).2.1 ?_;intro c1 HG hh hs;replace BM:=BM.turn HF hh;replace Bt:=Bt.turn HF hh;replace hg:=zR hg hh;clear HF hh hs;have HF:=HG;clear HG;have Gt:=J2 BM.f Bt.f;go_wp2_with fail;clear Gt;try rw [rounds_succ]
    have FM:=BM.f;have Ft:=Bt.f;go_wp2_with fail;have hw:Below c1 c1 c1:=Below.refl _ _;have G7:=J2 BM.cells Bt.cells;have cz0:=way_2 T;refine rgn 7 (λw5 hb=>?_);clear cz0;clear G7;clear FM Ft;obtain ⟨BM,Bt,hw,-⟩:=qX2 BM Bt hw hb;replace HF:=HF.ee hw;replace hg:=zO hg hw;clear hw;refine xG _ rfl _ _ rfl kvM rfl HF (T.C,T.A) rfl (okT_w hokk).2.2 ?_;intro c2 HG hh hs;replace BM:=BM.turn HF hh;replace Bt:=Bt.turn HF hh;replace hg:=zR hg hh;clear HF hh hs;have HF:=HG;clear HG;have Gt:=J2 BM.f Bt.f;go_wp2_with fail;clear Gt;try rw [rounds_succ]
    have FM:=BM.f;have Ft:=Bt.f;go_wp2
    go_roundw
    case rel=>exact ⟨k+1,takeT F T,by omega,by go_num,HP,HF,hg⟩
    case measure=>simp [intOf];omega
  ·have HP:=hdd (takeRun_end (by rw [hn.o];omega) hR.o);have Fm:=BM.f;go_wp2
   go_ret
   exact ⟨zi (by rw [HP.o];omega),hg,by rw [HP.o];exact HF⟩
end
section
theorem mk_map (n:Int) (w:World):(Instr.makeMap 81 (some (.int .i64 n))).run prog w=.ok (.map (some w.heap.size)) (w.alloc (.map #[] 0)):=by
 unfold Instr.makeMap;simp [asIntOf,go_sem]
attribute [local go_sem] mk_map map_nil
theorem mnew_1 (a:Option Addr) (cap n:Nat) (L:List Tri3) (hn:Hi (L.length=n)) (hn1:n<=1000000) (hok:∀ T∈L,okT T) (hx:(putRun [] L).1=n) (w:World) (Hr:RowAt cT 6 w a L):Calls prog 21 #[.slice a n cap] w λe w'=>∃ mb b,e=.returned (.tuple #[pt0 mb,()])/\Box w' mb [.map (some b)] 83/\Hs w' b (putRun [] L).2/\w.heap.size<=b/\w.heap.size<=mb/\Below w w w':=by
 have cp:=λw' B H R=>jX (w.heap.size+1) w.heap.size [] a cap n L hn hn1 hok w' B H R;obtain ⟨r,E,hr⟩:∃ r E,putRun [] L=(r,E):=⟨_,_,rfl⟩;rw [hr] at cp hx;dsimp only at cp hx;have HR:=hdd hr;clear hr;subst hx;have hd:decide ((r:Int) < (r:Int))=false:=by simp
 go_enter func21,ntmps21
 go_wp2_with fail;refine zI λW1 hW=>?_;have BM:Box W1 (w+1) [.map (some w.heap.size)] 83:=by rw [hW];exact Box.new (by simp)
 have HM:Hs W1 w.heap.size ([]:Es):=by rw [hW];exact (HoldsMap.made w).alloc _
 have hw:Below w w W1:=by rw [hW];go_grown
 clear hW;refine (cp _ BM HM (Hr.ee hw)).mono ?_;rintro e w2 ⟨rfl,hg,H2⟩;have B2:=BM.turn HM hg;replace hw:=vu hw hg hw.size (JJ _);clear hg HM BM;go_wp2
 go_ret2
 exact ⟨_,_,rfl,B2,by rw [HR.o];exact H2,JJ _,by omega,hw⟩
theorem mlen_any (mb b:Nat) (E:Es) (k:Nat) (hE:Hi (E.length=3 * k)) (hk:k<=1000000) (w:World) (Bm:Box w mb [.map (some b)] 83) (Hm:Hs w b E):Calls prog 15 #[pt0 mb] w (Rt w (.int .i64 k)):=by
 have Fm:=Bm.f
 go_enter func15,ntmps15
 go_wp2_with (at_len;refine wpList_mlen _ rfl _ rfl kvM rfl Hm ?_;rw [hE.o])
 go_ret
 exact ⟨zi (by first | omega | (push_cast;omega)),Below.refl _ _⟩
theorem KN {T:Tri3} (h:okT T) (i:Int):okP (crn T i):=by
 unfold crn;split
 ·exact h.1
 ·split
  ·exact h.2.1
  ·exact h.2.2
end
def apx (T:Tri3) (a b:Pt):Pt:=if peqI T.A.x T.A.y a.x a.y=false/\peqI T.A.x T.A.y b.x b.y=false then T.A else if peqI T.B.x T.B.y a.x a.y=false/\peqI T.B.x T.B.y b.x b.y=false then T.B else T.C
theorem cor_0 (T:Tri3) (w:World):Calls prog 65 #[T,()] w (Rt w (.agg #[T.A.x,T.A.y])):=kQ T 0 w
theorem cor_1 (T:Tri3) (w:World):Calls prog 65 #[T,.int .i64 1] w (Rt w (.agg #[T.B.x,T.B.y])):=kQ T 1 w
theorem apex_0 (T:Tri3) (a b:Pt) (ha0:peqI T.A.x T.A.y a.x a.y=false) (hb0:peqI T.A.x T.A.y b.x b.y=false) (w:World):Calls prog 157 #[T,a,b] w (Rt w (.agg #[T.A.x,T.A.y])):=by
 have cc0:=cor_0 T
 go_enter func157,ntmps157
 go_wp2_with fail;refine qD4 λW1 Bt Ba Bb Br hw=>?_;refine wp_loop_rounds 4 ?_;try rw [rounds_succ]
 obtain ⟨xt,yt,zt,vt⟩:=Bt.f;obtain ⟨xa,ya,za,va⟩:=Ba.f;obtain ⟨xb,yb,zb,vb⟩:=Bb.f;obtain ⟨xr,yr,zr,vr⟩:=Br.f;go_wp2_with fail;clear xt yt zt vt xa ya za va xb yb zb vb xr yr zr vr;refine qK4 (cc0 _) Bt Ba Bb Br hw λw2 Bt Ba Bb Br hw=>?_;obtain ⟨xt,yt,zt,vt⟩:=Bt.f;obtain ⟨xa,ya,za,va⟩:=Ba.f;obtain ⟨xb,yb,zb,vb⟩:=Bb.f;obtain ⟨xr,yr,zr,vr⟩:=Br.f;go_wp2_with fail;refine bodyPost_ret (v:=.agg #[T.A.x,T.A.y]) (by simp [results,results157,go_sem,xr,zr]) rfl ⟨rfl,by have hl:=hw.size;go_grown⟩
theorem apex_10 (T:Tri3) (a b:Pt) (ha0:peqI T.A.x T.A.y a.x a.y) (ha1:peqI T.B.x T.B.y a.x a.y=false) (hb1:peqI T.B.x T.B.y b.x b.y=false) (w:World):Calls prog 157 #[T,a,b] w (Rt w (.agg #[T.B.x,T.B.y])):=by
 have cc0:=cor_0 T;have cc1:=cor_1 T
 go_enter func157,ntmps157
 go_wp2_with fail;refine qD4 λW1 Bt Ba Bb Br hw=>?_;refine wp_loop_rounds 4 ?_;try rw [rounds_succ]
 obtain ⟨xt,yt,zt,vt⟩:=Bt.f;obtain ⟨xa,ya,za,va⟩:=Ba.f;obtain ⟨xb,yb,zb,vb⟩:=Bb.f;obtain ⟨xr,yr,zr,vr⟩:=Br.f;go_wp2_with fail;clear xt yt zt vt xa ya za va xb yb zb vb xr yr zr vr;refine qK4 (cc0 _) Bt Ba Bb Br hw λw2 Bt Ba Bb Br hw=>?_;obtain ⟨xt,yt,zt,vt⟩:=Bt.f;obtain ⟨xa,ya,za,va⟩:=Ba.f;obtain ⟨xb,yb,zb,vb⟩:=Bb.f;obtain ⟨xr,yr,zr,vr⟩:=Br.f;go_wp2_with fail;clear xt yt zt vt xa ya za va xb yb zb vb xr yr zr vr;refine zG λW3 hW=>?_;obtain ⟨bkp0,hbp0⟩:∃ b,w2.heap.size=b:=⟨_,rfl⟩;rw [hbp0];obtain ⟨ltp0,lap0,lbp0,lrp0,fp0,Bp0,Bt,Ba,Bb,Br,hw⟩:=qM4 hW hbp0 Bt Ba Bb Br hw;clear hW hbp0;obtain ⟨xt,yt,zt,vt⟩:=Bt.f;obtain ⟨xa,ya,za,va⟩:=Ba.f;obtain ⟨xb,yb,zb,vb⟩:=Bb.f;obtain ⟨xr,yr,zr,vr⟩:=Br.f;obtain ⟨xp0,yp0,zp0,vp0⟩:=Bp0.f;go_wp2_with fail;clear xt yt zt vt xa ya za va xb yb zb vb xr yr zr vr xp0 yp0 zp0 vp0;try rw [rounds_succ]
 obtain ⟨xt,yt,zt,vt⟩:=Bt.f;obtain ⟨xa,ya,za,va⟩:=Ba.f;obtain ⟨xb,yb,zb,vb⟩:=Bb.f;obtain ⟨xr,yr,zr,vr⟩:=Br.f;obtain ⟨xp0,yp0,zp0,vp0⟩:=Bp0.f;go_wp2_with fail;clear xt yt zt vt xa ya za va xb yb zb vb xr yr zr vr xp0 yp0 zp0 vp0;refine qK5 (cc1 _) Bt Ba Bb Br Bp0 hw λw4 Bt Ba Bb Br Bp0 hw=>?_;obtain ⟨xt,yt,zt,vt⟩:=Bt.f;obtain ⟨xa,ya,za,va⟩:=Ba.f;obtain ⟨xb,yb,zb,vb⟩:=Bb.f;obtain ⟨xr,yr,zr,vr⟩:=Br.f;obtain ⟨xp0,yp0,zp0,vp0⟩:=Bp0.f;go_wp2_with fail;refine bodyPost_ret (v:=.agg #[T.B.x,T.B.y]) (by simp [results,results157,go_sem,xr,zr]) rfl ⟨rfl,by have hl:=hw.size;go_grown⟩
theorem apex_11 (T:Tri3) (a b:Pt) (ha0:peqI T.A.x T.A.y a.x a.y) (ha1:peqI T.B.x T.B.y a.x a.y) (w:World):Calls prog 157 #[T,a,b] w (Rt w (.agg #[T.C.x,T.C.y])):=by
 have cc0:=cor_0 T;have cc1:=cor_1 T
 go_enter func157,ntmps157
 go_wp2_with fail;refine qD4 λW1 Bt Ba Bb Br hw=>?_;refine wp_loop_rounds 4 ?_;try rw [rounds_succ]
 have FV:=J4 Bt.f Ba.f Bb.f Br.f;go_wp2_with fail;clear FV;refine qC4 (cc0 _) Bt Ba Bb Br hw λw2 Bt Ba Bb Br hw FV=>?_;go_wp2_with fail;clear FV;refine zG λW3 hW=>?_;obtain ⟨bkp0,hbp0⟩:∃ b,w2.heap.size=b:=⟨_,rfl⟩;rw [hbp0];obtain ⟨ltp0,lap0,lbp0,lrp0,fp0,Bp0,Bt,Ba,Bb,Br,hw⟩:=qM4 hW hbp0 Bt Ba Bb Br hw;clear hW hbp0;have Gx:=J5 Bt.f Ba.f Bb.f Br.f Bp0.f;go_wp2_with fail;clear Gx;try rw [rounds_succ]
 have Gx:=J5 Bt.f Ba.f Bb.f Br.f Bp0.f;go_wp2_with fail;clear Gx;refine qC5 (cc1 _) Bt Ba Bb Br Bp0 hw λw4 Bt Ba Bb Br Bp0 hw Gx=>?_;go_wp2_with fail;clear Gx;refine zG λW5 hW=>?_;obtain ⟨bkp1,hbp1⟩:∃ b,w4.heap.size=b:=⟨_,rfl⟩;rw [hbp1];obtain ⟨ltp1,lap1,lbp1,lrp1,lp0p1,fp1,Bp1,Bt,Ba,Bb,Br,Bp0,hw⟩:=qM5 hW hbp1 Bt Ba Bb Br Bp0 hw;clear hW hbp1;have GK:=J6 Bt.f Ba.f Bb.f Br.f Bp0.f Bp1.f;go_wp2_with fail;clear GK;try rw [rounds_succ]
 have Ft:=Bt.f;have Fa:=Ba.f;have Fb:=Bb.f;have Fr:=Br.f;have Fp0:=Bp0.f;have Fp1:=Bp1.f;go_wp2_with fail;refine bodyPost_ret (v:=.agg #[T.C.x,T.C.y]) (by simp [results,results157,go_sem,Fr]) rfl ⟨rfl,by have hl:=hw.size;go_grown⟩
theorem apex_12 (T:Tri3) (a b:Pt) (ha0:peqI T.A.x T.A.y a.x a.y) (ha1:peqI T.B.x T.B.y a.x a.y=false) (hb1:peqI T.B.x T.B.y b.x b.y) (w:World):Calls prog 157 #[T,a,b] w (Rt w (.agg #[T.C.x,T.C.y])):=by
 have cc0:=cor_0 T;have cc1:=cor_1 T
 go_enter func157,ntmps157
 go_wp2_with fail;refine qD4 λW1 Bt Ba Bb Br hw=>?_;refine wp_loop_rounds 4 ?_;try rw [rounds_succ]
 have FV:=J4 Bt.f Ba.f Bb.f Br.f;go_wp2_with fail;clear FV;refine qC4 (cc0 _) Bt Ba Bb Br hw λw2 Bt Ba Bb Br hw FV=>?_;go_wp2_with fail;clear FV;refine zG λW3 hW=>?_;obtain ⟨bkp0,hbp0⟩:∃ b,w2.heap.size=b:=⟨_,rfl⟩;rw [hbp0];obtain ⟨ltp0,lap0,lbp0,lrp0,fp0,Bp0,Bt,Ba,Bb,Br,hw⟩:=qM4 hW hbp0 Bt Ba Bb Br hw;clear hW hbp0;have Gx:=J5 Bt.f Ba.f Bb.f Br.f Bp0.f;go_wp2_with fail;clear Gx;try rw [rounds_succ]
 have Gx:=J5 Bt.f Ba.f Bb.f Br.f Bp0.f;go_wp2_with fail;clear Gx;refine qC5 (cc1 _) Bt Ba Bb Br Bp0 hw λw4 Bt Ba Bb Br Bp0 hw Gx=>?_;go_wp2_with fail;clear Gx;refine zG λW5 hW=>?_;obtain ⟨bkp1,hbp1⟩:∃ b,w4.heap.size=b:=⟨_,rfl⟩;rw [hbp1];obtain ⟨ltp1,lap1,lbp1,lrp1,lp0p1,fp1,Bp1,Bt,Ba,Bb,Br,Bp0,hw⟩:=qM5 hW hbp1 Bt Ba Bb Br Bp0 hw;clear hW hbp1;have GK:=J6 Bt.f Ba.f Bb.f Br.f Bp0.f Bp1.f;go_wp2_with fail;clear GK;try rw [rounds_succ]
 have Ft:=Bt.f;have Fa:=Ba.f;have Fb:=Bb.f;have Fr:=Br.f;have Fp0:=Bp0.f;have Fp1:=Bp1.f;go_wp2_with fail;refine bodyPost_ret (v:=.agg #[T.C.x,T.C.y]) (by simp [results,results157,go_sem,Fr]) rfl ⟨rfl,by have hl:=hw.size;go_grown⟩
theorem apex_20 (T:Tri3) (a b:Pt) (ha0:peqI T.A.x T.A.y a.x a.y=false) (hb0:peqI T.A.x T.A.y b.x b.y) (ha1:peqI T.B.x T.B.y a.x a.y=false) (hb1:peqI T.B.x T.B.y b.x b.y=false) (w:World):Calls prog 157 #[T,a,b] w (Rt w (.agg #[T.B.x,T.B.y])):=by
 have cc0:=cor_0 T;have cc1:=cor_1 T
 go_enter func157,ntmps157
 go_wp2_with fail;refine qD4 λW1 Bt Ba Bb Br hw=>?_;refine wp_loop_rounds 4 ?_;try rw [rounds_succ]
 obtain ⟨xt,yt,zt,vt⟩:=Bt.f;obtain ⟨xa,ya,za,va⟩:=Ba.f;obtain ⟨xb,yb,zb,vb⟩:=Bb.f;obtain ⟨xr,yr,zr,vr⟩:=Br.f;go_wp2_with fail;clear xt yt zt vt xa ya za va xb yb zb vb xr yr zr vr;refine qK4 (cc0 _) Bt Ba Bb Br hw λw2 Bt Ba Bb Br hw=>?_;obtain ⟨xt,yt,zt,vt⟩:=Bt.f;obtain ⟨xa,ya,za,va⟩:=Ba.f;obtain ⟨xb,yb,zb,vb⟩:=Bb.f;obtain ⟨xr,yr,zr,vr⟩:=Br.f;go_wp2_with fail;clear xt yt zt vt xa ya za va xb yb zb vb xr yr zr vr;refine zG λW3 hW=>?_;obtain ⟨bkp0,hbp0⟩:∃ b,w2.heap.size=b:=⟨_,rfl⟩;rw [hbp0];obtain ⟨ltp0,lap0,lbp0,lrp0,fp0,Bp0,Bt,Ba,Bb,Br,hw⟩:=qM4 hW hbp0 Bt Ba Bb Br hw;clear hW hbp0;obtain ⟨xt,yt,zt,vt⟩:=Bt.f;obtain ⟨xa,ya,za,va⟩:=Ba.f;obtain ⟨xb,yb,zb,vb⟩:=Bb.f;obtain ⟨xr,yr,zr,vr⟩:=Br.f;obtain ⟨xp0,yp0,zp0,vp0⟩:=Bp0.f;go_wp2_with fail;clear xt yt zt vt xa ya za va xb yb zb vb xr yr zr vr xp0 yp0 zp0 vp0;try rw [rounds_succ]
 obtain ⟨xt,yt,zt,vt⟩:=Bt.f;obtain ⟨xa,ya,za,va⟩:=Ba.f;obtain ⟨xb,yb,zb,vb⟩:=Bb.f;obtain ⟨xr,yr,zr,vr⟩:=Br.f;obtain ⟨xp0,yp0,zp0,vp0⟩:=Bp0.f;go_wp2_with fail;clear xt yt zt vt xa ya za va xb yb zb vb xr yr zr vr xp0 yp0 zp0 vp0;refine qK5 (cc1 _) Bt Ba Bb Br Bp0 hw λw4 Bt Ba Bb Br Bp0 hw=>?_;obtain ⟨xt,yt,zt,vt⟩:=Bt.f;obtain ⟨xa,ya,za,va⟩:=Ba.f;obtain ⟨xb,yb,zb,vb⟩:=Bb.f;obtain ⟨xr,yr,zr,vr⟩:=Br.f;obtain ⟨xp0,yp0,zp0,vp0⟩:=Bp0.f;go_wp2_with fail;refine bodyPost_ret (v:=.agg #[T.B.x,T.B.y]) (by simp [results,results157,go_sem,xr,zr]) rfl ⟨rfl,by have hl:=hw.size;go_grown⟩
theorem apex_21 (T:Tri3) (a b:Pt) (ha0:peqI T.A.x T.A.y a.x a.y=false) (hb0:peqI T.A.x T.A.y b.x b.y) (ha1:peqI T.B.x T.B.y a.x a.y) (w:World):Calls prog 157 #[T,a,b] w (Rt w (.agg #[T.C.x,T.C.y])):=by
 have cc0:=cor_0 T;have cc1:=cor_1 T
 go_enter func157,ntmps157
 go_wp2_with fail;refine qD4 λW1 Bt Ba Bb Br hw=>?_;refine wp_loop_rounds 4 ?_;try rw [rounds_succ]
 have FV:=J4 Bt.f Ba.f Bb.f Br.f;go_wp2_with fail;clear FV;refine qC4 (cc0 _) Bt Ba Bb Br hw λw2 Bt Ba Bb Br hw FV=>?_;go_wp2_with fail;clear FV;refine zG λW3 hW=>?_;obtain ⟨bkp0,hbp0⟩:∃ b,w2.heap.size=b:=⟨_,rfl⟩;rw [hbp0];obtain ⟨ltp0,lap0,lbp0,lrp0,fp0,Bp0,Bt,Ba,Bb,Br,hw⟩:=qM4 hW hbp0 Bt Ba Bb Br hw;clear hW hbp0;have Gx:=J5 Bt.f Ba.f Bb.f Br.f Bp0.f;go_wp2_with fail;clear Gx;try rw [rounds_succ]
 have Gx:=J5 Bt.f Ba.f Bb.f Br.f Bp0.f;go_wp2_with fail;clear Gx;refine qC5 (cc1 _) Bt Ba Bb Br Bp0 hw λw4 Bt Ba Bb Br Bp0 hw Gx=>?_;go_wp2_with fail;clear Gx;refine zG λW5 hW=>?_;obtain ⟨bkp1,hbp1⟩:∃ b,w4.heap.size=b:=⟨_,rfl⟩;rw [hbp1];obtain ⟨ltp1,lap1,lbp1,lrp1,lp0p1,fp1,Bp1,Bt,Ba,Bb,Br,Bp0,hw⟩:=qM5 hW hbp1 Bt Ba Bb Br Bp0 hw;clear hW hbp1;have GK:=J6 Bt.f Ba.f Bb.f Br.f Bp0.f Bp1.f;go_wp2_with fail;clear GK;try rw [rounds_succ]
 have Ft:=Bt.f;have Fa:=Ba.f;have Fb:=Bb.f;have Fr:=Br.f;have Fp0:=Bp0.f;have Fp1:=Bp1.f;go_wp2_with fail;refine bodyPost_ret (v:=.agg #[T.C.x,T.C.y]) (by simp [results,results157,go_sem,Fr]) rfl ⟨rfl,by have hl:=hw.size;go_grown⟩
theorem apex_22 (T:Tri3) (a b:Pt) (ha0:peqI T.A.x T.A.y a.x a.y=false) (hb0:peqI T.A.x T.A.y b.x b.y) (ha1:peqI T.B.x T.B.y a.x a.y=false) (hb1:peqI T.B.x T.B.y b.x b.y) (w:World):Calls prog 157 #[T,a,b] w (Rt w (.agg #[T.C.x,T.C.y])):=by
 have cc0:=cor_0 T;have cc1:=cor_1 T
 go_enter func157,ntmps157
 go_wp2_with fail;refine qD4 λW1 Bt Ba Bb Br hw=>?_;refine wp_loop_rounds 4 ?_;try rw [rounds_succ]
 have FV:=J4 Bt.f Ba.f Bb.f Br.f;go_wp2_with fail;clear FV;refine qC4 (cc0 _) Bt Ba Bb Br hw λw2 Bt Ba Bb Br hw FV=>?_;go_wp2_with fail;clear FV;refine zG λW3 hW=>?_;obtain ⟨bkp0,hbp0⟩:∃ b,w2.heap.size=b:=⟨_,rfl⟩;rw [hbp0];obtain ⟨ltp0,lap0,lbp0,lrp0,fp0,Bp0,Bt,Ba,Bb,Br,hw⟩:=qM4 hW hbp0 Bt Ba Bb Br hw;clear hW hbp0;have Gx:=J5 Bt.f Ba.f Bb.f Br.f Bp0.f;go_wp2_with fail;clear Gx;try rw [rounds_succ]
 have Gx:=J5 Bt.f Ba.f Bb.f Br.f Bp0.f;go_wp2_with fail;clear Gx;refine qC5 (cc1 _) Bt Ba Bb Br Bp0 hw λw4 Bt Ba Bb Br Bp0 hw Gx=>?_;go_wp2_with fail;clear Gx;refine zG λW5 hW=>?_;obtain ⟨bkp1,hbp1⟩:∃ b,w4.heap.size=b:=⟨_,rfl⟩;rw [hbp1];obtain ⟨ltp1,lap1,lbp1,lrp1,lp0p1,fp1,Bp1,Bt,Ba,Bb,Br,Bp0,hw⟩:=qM5 hW hbp1 Bt Ba Bb Br Bp0 hw;clear hW hbp1;have GK:=J6 Bt.f Ba.f Bb.f Br.f Bp0.f Bp1.f;go_wp2_with fail;clear GK;try rw [rounds_succ]
 have Ft:=Bt.f;have Fa:=Ba.f;have Fb:=Bb.f;have Fr:=Br.f;have Fp0:=Bp0.f;have Fp1:=Bp1.f;go_wp2_with fail;refine bodyPost_ret (v:=.agg #[T.C.x,T.C.y]) (by simp [results,results157,go_sem,Fr]) rfl ⟨rfl,by have hl:=hw.size;go_grown⟩
section
theorem Ye:prog.underlying 189=some (.array 3 34):=by kernel_rfl
theorem idx_0 (a b c d e f:Value) (w:World):(Instr.index 189 (.agg #[a,b,c,d,e,f]) (.int .i64 0)).run prog w=.ok (.agg #[a,b]) w:=by
 simp [Instr.index,run_underlying Ye,asIntOf,part,go_sem]
theorem idx_1 (a b c d e f:Value) (w:World):(Instr.index 189 (.agg #[a,b,c,d,e,f]) (.int .i64 1)).run prog w=.ok (.agg #[c,d]) w:=by
 simp [Instr.index,run_underlying Ye,asIntOf,part,go_sem]
theorem idx_2 (a b c d e f:Value) (w:World):(Instr.index 189 (.agg #[a,b,c,d,e,f]) (.int .i64 2)).run prog w=.ok (.agg #[e,f]) w:=by
 simp [Instr.index,run_underlying Ye,asIntOf,part,go_sem]
attribute [local go_sem 10000] idx_0 idx_1 idx_2
theorem rcorner_0 (T:Tri3) (i:Int) (h:plc i=0) (w:World):Calls prog 137 #[T,i] w (Rt w (.agg #[T.A.x,T.A.y])):=by
 have e:=uK i;rw [h] at e;have e2:(IntKind.i64.wrap (i.tmod 3+3)).tmod 3=0:=by rw [<-e,IntKind.wrap_i64,w64]
 clear h
 go_enter func137,ntmps137
 go_wp2_with fail;refine bodyPost_ret (v:=.agg #[T.A.x,T.A.y]) (by simp [results,results137,go_sem]) rfl ⟨rfl,by go_grown⟩
theorem rcorner_1 (T:Tri3) (i:Int) (h:plc i=1) (w:World):Calls prog 137 #[T,i] w (Rt w (.agg #[T.B.x,T.B.y])):=by
 have e:=uK i;rw [h] at e;have e2:(IntKind.i64.wrap (i.tmod 3+3)).tmod 3=1:=by rw [<-e,IntKind.wrap_i64,w64]
 clear h
 go_enter func137,ntmps137
 go_wp2_with fail;refine bodyPost_ret (v:=.agg #[T.B.x,T.B.y]) (by simp [results,results137,go_sem]) rfl ⟨rfl,by go_grown⟩
theorem rcorner_2 (T:Tri3) (i:Int) (h:plc i=2) (w:World):Calls prog 137 #[T,i] w (Rt w (.agg #[T.C.x,T.C.y])):=by
 have e:=uK i;rw [h] at e;have e2:(IntKind.i64.wrap (i.tmod 3+3)).tmod 3=2:=by rw [<-e,IntKind.wrap_i64,w64]
 clear h
 go_enter func137,ntmps137
 go_wp2_with fail;refine bodyPost_ret (v:=.agg #[T.C.x,T.C.y]) (by simp [results,results137,go_sem]) rfl ⟨rfl,by go_grown⟩
theorem yg (T:Tri3) (i:Int) (w:World):Calls prog 137 #[T,i] w (Rt w (.agg #[.int .i64 (crn T i).x,.int .i64 (crn T i).y])):=by
 rcases uJ i with h | h | h
 ·rw [show crn T i=T.A by unfold crn;simp [h]];exact rcorner_0 T i h w
 ·rw [show crn T i=T.B by unfold crn;simp [h]];exact rcorner_1 T i h w
 ·rw [show crn T i=T.C by unfold crn;simp [h]];exact rcorner_2 T i h w
def cmpT (S T:Tri3):Int:=if cmpP S.A T.A≠0 then cmpP S.A T.A else if cmpP S.B T.B≠0 then cmpP S.B T.B else cmpP S.C T.C
theorem rcmpT_0 (S T:Tri3) (h0:¬ cmpP S.A T.A=0) (w:World):Calls prog 97 #[S,T] w (Rt w (.int .i64 (cmpP S.A T.A))):=by
 have c1:=zV S.A T.A;have hd:(cmpP S.A T.A == 0)=false:=by simpa using h0
 clear h0;generalize cmpP S.A T.A=n at *
 go_enter func97,ntmps97
 go_wp2_with fail;refine qE2 λW1 Bs Bt hw=>?_;refine qC2 (c1 _) Bs Bt hw λw2 Bs Bt hw Gu=>?_;go_wp2
 go_ret
 exact ⟨rfl,by have hl:=hw.size;go_grown⟩
theorem rcmpT_1 (S T:Tri3) (h0:cmpP S.A T.A=0) (h1:¬ cmpP S.B T.B=0) (w:World):Calls prog 97 #[S,T] w (Rt w (.int .i64 (cmpP S.B T.B))):=by
 have c1:=zV S.A T.A;have c2:=zV S.B T.B;rw [h0] at c1;have hd:(cmpP S.B T.B == 0)=false:=by simpa using h1
 clear h0 h1;generalize cmpP S.B T.B=n at *
 go_enter func97,ntmps97
 go_wp2_with fail;refine qE2 λW1 Bs Bt hw=>?_;refine qC2 (c1 _) Bs Bt hw λw2 Bs Bt hw Gu=>?_;go_wp2_with fail;clear Gu;refine qC2 (c2 _) Bs Bt hw λw3 Bs Bt hw Gu=>?_;go_wp2
 go_ret
 exact ⟨rfl,by have hl:=hw.size;go_grown⟩
theorem rcmpT_2 (S T:Tri3) (h0:cmpP S.A T.A=0) (h1:cmpP S.B T.B=0) (w:World):Calls prog 97 #[S,T] w (Rt w (.int .i64 (cmpP S.C T.C))):=by
 have c1:=zV S.A T.A;have c2:=zV S.B T.B;have c3:=zV S.C T.C;rw [h0] at c1;rw [h1] at c2;clear h0 h1;generalize cmpP S.C T.C=n at *
 go_enter func97,ntmps97
 go_wp2_with fail;refine qE2 λW1 Bs Bt hw=>?_;refine qC2 (c1 _) Bs Bt hw λw2 Bs Bt hw Gu=>?_;go_wp2_with fail;clear Gu;refine qC2 (c2 _) Bs Bt hw λw3 Bs Bt hw Gu=>?_;go_wp2_with fail;clear Gu;refine qC2 (c3 _) Bs Bt hw λw4 Bs Bt hw Gu=>?_;go_wp2
 go_ret
 exact ⟨rfl,by have hl:=hw.size;go_grown⟩
theorem rcmpT_any (S T:Tri3) (w:World):Calls prog 97 #[S,T] w (Rt w (.int .i64 (cmpT S T))):=by
 by_cases h0:cmpP S.A T.A=0
 ·by_cases h1:cmpP S.B T.B=0
  ·rw [show cmpT S T=cmpP S.C T.C by unfold cmpT;simp [h0,h1]];exact rcmpT_2 S T h0 h1 w
  ·rw [show cmpT S T=cmpP S.B T.B by unfold cmpT;simp [h0,h1]];exact rcmpT_1 S T h0 h1 w
 ·rw [show cmpT S T=cmpP S.A T.A by unfold cmpT;simp [h0]];exact rcmpT_0 S T h0 w
def or3 (x y z:Int):Int:=if x≠0 then x else if y≠0 then y else z
theorem valT_vld {T:Tri3} (h:valT T):vld T.A=true/\vld T.B=true/\vld T.C=true:=by
 rw [Z3] at h;unfold valS at h;simp only [JB,JA] at h;exact yz (by omega)
end
theorem Z6 (T:Tri3) (w:World):Calls prog 137 #[T,()] w (Rt w (.agg #[T.A.x,T.A.y])):=yg T 0 w
theorem YY (T:Tri3) (w:World):Calls prog 137 #[T,.int .i64 1] w (Rt w (.agg #[T.B.x,T.B.y])):=yg T 1 w
theorem far_0 (T:Tri3) (a b:Pt) (ha0:peqI T.A.x T.A.y a.x a.y=false) (hb0:peqI T.A.x T.A.y b.x b.y=false) (w:World):Calls prog 135 #[T,a,b] w (Rt w (.agg #[T.A.x,T.A.y])):=by
 have cc0:=Z6 T
 go_enter func135,ntmps135
 go_wp2_with fail;refine qD4 λW1 Bt Ba Bb Br hw=>?_;refine wp_loop_rounds 4 ?_;try rw [rounds_succ]
 have Ft:=Bt.f;have Fa:=Ba.f;have Fb:=Bb.f;have Fr:=Br.f;go_wp2_with fail;have Gy:=J4 Bt.cells Ba.cells Bb.cells Br.cells;refine rgn 11 (λw2 hb=>?_);clear Gy;clear Ft Fa Fb Fr;obtain ⟨Bt,Ba,Bb,Br,hw,-⟩:=qX4 Bt Ba Bb Br hw hb;have FV:=J4 Bt.f Ba.f Bb.f Br.f;go_wp2_with fail;clear FV;refine qK4 (cc0 _) Bt Ba Bb Br hw λw3 Bt Ba Bb Br hw=>?_;have Ft:=Bt.f;have Fa:=Ba.f;have Fb:=Bb.f;have Fr:=Br.f;go_wp2_with fail;refine bodyPost_ret (v:=.agg #[T.A.x,T.A.y]) (by simp [results,results135,go_sem,Fr]) rfl ⟨rfl,by have hl:=hw.size;go_grown⟩
theorem far_10 (T:Tri3) (a b:Pt) (ha0:peqI T.A.x T.A.y a.x a.y) (ha1:peqI T.B.x T.B.y a.x a.y=false) (hb1:peqI T.B.x T.B.y b.x b.y=false) (w:World):Calls prog 135 #[T,a,b] w (Rt w (.agg #[T.B.x,T.B.y])):=by
 have cc0:=Z6 T;have cc1:=YY T
 go_enter func135,ntmps135
 go_wp2_with fail;refine qD4 λW1 Bt Ba Bb Br hw=>?_;refine wp_loop_rounds 4 ?_;try rw [rounds_succ]
 have Ft:=Bt.f;have Fa:=Ba.f;have Fb:=Bb.f;have Fr:=Br.f;go_wp2_with fail;have Gy:=J4 Bt.cells Ba.cells Bb.cells Br.cells;refine rgn 11 (λw2 hb=>?_);clear Gy;clear Ft Fa Fb Fr;obtain ⟨Bt,Ba,Bb,Br,hw,FV⟩:=qX4 Bt Ba Bb Br hw hb;go_wp2_with fail;clear FV;try rw [rounds_succ]
 have Ft:=Bt.f;have Fa:=Ba.f;have Fb:=Bb.f;have Fr:=Br.f;go_wp2_with fail;have Gy:=J4 Bt.cells Ba.cells Bb.cells Br.cells;refine rgn 11 (λw3 hb=>?_);clear Gy;clear Ft Fa Fb Fr;obtain ⟨Bt,Ba,Bb,Br,hw,-⟩:=qX4 Bt Ba Bb Br hw hb;have FV:=J4 Bt.f Ba.f Bb.f Br.f;go_wp2_with fail;clear FV;refine qK4 (cc1 _) Bt Ba Bb Br hw λw4 Bt Ba Bb Br hw=>?_;have Ft:=Bt.f;have Fa:=Ba.f;have Fb:=Bb.f;have Fr:=Br.f;go_wp2_with fail;refine bodyPost_ret (v:=.agg #[T.B.x,T.B.y]) (by simp [results,results135,go_sem,Fr]) rfl ⟨rfl,by have hl:=hw.size;go_grown⟩
theorem far_11 (T:Tri3) (a b:Pt) (ha0:peqI T.A.x T.A.y a.x a.y) (ha1:peqI T.B.x T.B.y a.x a.y) (w:World):Calls prog 135 #[T,a,b] w (Rt w (.agg #[T.C.x,T.C.y])):=by
 have cc0:=Z6 T;have cc1:=YY T
 go_enter func135,ntmps135
 go_wp2_with fail;refine qD4 λW1 Bt Ba Bb Br hw=>?_;refine wp_loop_rounds 4 ?_;try rw [rounds_succ]
 have Ft:=Bt.f;have Fa:=Ba.f;have Fb:=Bb.f;have Fr:=Br.f;go_wp2_with fail;have Gy:=J4 Bt.cells Ba.cells Bb.cells Br.cells;refine rgn 11 (λw2 hb=>?_);clear Gy;clear Ft Fa Fb Fr;obtain ⟨Bt,Ba,Bb,Br,hw,FV⟩:=qX4 Bt Ba Bb Br hw hb;go_wp2_with fail;clear FV;try rw [rounds_succ]
 have Ft:=Bt.f;have Fa:=Ba.f;have Fb:=Bb.f;have Fr:=Br.f;go_wp2_with fail;have Gy:=J4 Bt.cells Ba.cells Bb.cells Br.cells;refine rgn 11 (λw3 hb=>?_);clear Gy;clear Ft Fa Fb Fr;obtain ⟨Bt,Ba,Bb,Br,hw,FV⟩:=qX4 Bt Ba Bb Br hw hb;go_wp2_with fail;clear FV;try rw [rounds_succ]
 have Ft:=Bt.f;have Fa:=Ba.f;have Fb:=Bb.f;have Fr:=Br.f;go_wp2_with fail;refine bodyPost_ret (v:=.agg #[T.C.x,T.C.y]) (by simp [results,results135,go_sem,Fr]) rfl ⟨rfl,by have hl:=hw.size;go_grown⟩
theorem far_12 (T:Tri3) (a b:Pt) (ha0:peqI T.A.x T.A.y a.x a.y) (ha1:peqI T.B.x T.B.y a.x a.y=false) (hb1:peqI T.B.x T.B.y b.x b.y) (w:World):Calls prog 135 #[T,a,b] w (Rt w (.agg #[T.C.x,T.C.y])):=by
 have cc0:=Z6 T;have cc1:=YY T
 go_enter func135,ntmps135
 go_wp2_with fail;refine qD4 λW1 Bt Ba Bb Br hw=>?_;refine wp_loop_rounds 4 ?_;try rw [rounds_succ]
 have Ft:=Bt.f;have Fa:=Ba.f;have Fb:=Bb.f;have Fr:=Br.f;go_wp2_with fail;have Gy:=J4 Bt.cells Ba.cells Bb.cells Br.cells;refine rgn 11 (λw2 hb=>?_);clear Gy;clear Ft Fa Fb Fr;obtain ⟨Bt,Ba,Bb,Br,hw,FV⟩:=qX4 Bt Ba Bb Br hw hb;go_wp2_with fail;clear FV;try rw [rounds_succ]
 have Ft:=Bt.f;have Fa:=Ba.f;have Fb:=Bb.f;have Fr:=Br.f;go_wp2_with fail;have Gy:=J4 Bt.cells Ba.cells Bb.cells Br.cells;refine rgn 11 (λw3 hb=>?_);clear Gy;clear Ft Fa Fb Fr;obtain ⟨Bt,Ba,Bb,Br,hw,FV⟩:=qX4 Bt Ba Bb Br hw hb;go_wp2_with fail;clear FV;try rw [rounds_succ]
 have Ft:=Bt.f;have Fa:=Ba.f;have Fb:=Bb.f;have Fr:=Br.f;go_wp2_with fail;refine bodyPost_ret (v:=.agg #[T.C.x,T.C.y]) (by simp [results,results135,go_sem,Fr]) rfl ⟨rfl,by have hl:=hw.size;go_grown⟩
theorem far_20 (T:Tri3) (a b:Pt) (ha0:peqI T.A.x T.A.y a.x a.y=false) (hb0:peqI T.A.x T.A.y b.x b.y) (ha1:peqI T.B.x T.B.y a.x a.y=false) (hb1:peqI T.B.x T.B.y b.x b.y=false) (w:World):Calls prog 135 #[T,a,b] w (Rt w (.agg #[T.B.x,T.B.y])):=by
 have cc0:=Z6 T;have cc1:=YY T
 go_enter func135,ntmps135
 go_wp2_with fail;refine qD4 λW1 Bt Ba Bb Br hw=>?_;refine wp_loop_rounds 4 ?_;try rw [rounds_succ]
 have Ft:=Bt.f;have Fa:=Ba.f;have Fb:=Bb.f;have Fr:=Br.f;go_wp2_with fail;have Gy:=J4 Bt.cells Ba.cells Bb.cells Br.cells;refine rgn 11 (λw2 hb=>?_);clear Gy;clear Ft Fa Fb Fr;obtain ⟨Bt,Ba,Bb,Br,hw,FV⟩:=qX4 Bt Ba Bb Br hw hb;go_wp2_with fail;clear FV;try rw [rounds_succ]
 have Ft:=Bt.f;have Fa:=Ba.f;have Fb:=Bb.f;have Fr:=Br.f;go_wp2_with fail;have Gy:=J4 Bt.cells Ba.cells Bb.cells Br.cells;refine rgn 11 (λw3 hb=>?_);clear Gy;clear Ft Fa Fb Fr;obtain ⟨Bt,Ba,Bb,Br,hw,-⟩:=qX4 Bt Ba Bb Br hw hb;have FV:=J4 Bt.f Ba.f Bb.f Br.f;go_wp2_with fail;clear FV;refine qK4 (cc1 _) Bt Ba Bb Br hw λw4 Bt Ba Bb Br hw=>?_;have Ft:=Bt.f;have Fa:=Ba.f;have Fb:=Bb.f;have Fr:=Br.f;go_wp2_with fail;refine bodyPost_ret (v:=.agg #[T.B.x,T.B.y]) (by simp [results,results135,go_sem,Fr]) rfl ⟨rfl,by have hl:=hw.size;go_grown⟩
theorem far_21 (T:Tri3) (a b:Pt) (ha0:peqI T.A.x T.A.y a.x a.y=false) (hb0:peqI T.A.x T.A.y b.x b.y) (ha1:peqI T.B.x T.B.y a.x a.y) (w:World):Calls prog 135 #[T,a,b] w (Rt w (.agg #[T.C.x,T.C.y])):=by
 have cc0:=Z6 T;have cc1:=YY T
 go_enter func135,ntmps135
 go_wp2_with fail;refine qD4 λW1 Bt Ba Bb Br hw=>?_;refine wp_loop_rounds 4 ?_;try rw [rounds_succ]
 have Ft:=Bt.f;have Fa:=Ba.f;have Fb:=Bb.f;have Fr:=Br.f;go_wp2_with fail;have Gy:=J4 Bt.cells Ba.cells Bb.cells Br.cells;refine rgn 11 (λw2 hb=>?_);clear Gy;clear Ft Fa Fb Fr;obtain ⟨Bt,Ba,Bb,Br,hw,FV⟩:=qX4 Bt Ba Bb Br hw hb;go_wp2_with fail;clear FV;try rw [rounds_succ]
 have Ft:=Bt.f;have Fa:=Ba.f;have Fb:=Bb.f;have Fr:=Br.f;go_wp2_with fail;have Gy:=J4 Bt.cells Ba.cells Bb.cells Br.cells;refine rgn 11 (λw3 hb=>?_);clear Gy;clear Ft Fa Fb Fr;obtain ⟨Bt,Ba,Bb,Br,hw,FV⟩:=qX4 Bt Ba Bb Br hw hb;go_wp2_with fail;clear FV;try rw [rounds_succ]
 have Ft:=Bt.f;have Fa:=Ba.f;have Fb:=Bb.f;have Fr:=Br.f;go_wp2_with fail;refine bodyPost_ret (v:=.agg #[T.C.x,T.C.y]) (by simp [results,results135,go_sem,Fr]) rfl ⟨rfl,by have hl:=hw.size;go_grown⟩
theorem far_22 (T:Tri3) (a b:Pt) (ha0:peqI T.A.x T.A.y a.x a.y=false) (hb0:peqI T.A.x T.A.y b.x b.y) (ha1:peqI T.B.x T.B.y a.x a.y=false) (hb1:peqI T.B.x T.B.y b.x b.y) (w:World):Calls prog 135 #[T,a,b] w (Rt w (.agg #[T.C.x,T.C.y])):=by
 have cc0:=Z6 T;have cc1:=YY T
 go_enter func135,ntmps135
 go_wp2_with fail;refine qD4 λW1 Bt Ba Bb Br hw=>?_;refine wp_loop_rounds 4 ?_;try rw [rounds_succ]
 have Ft:=Bt.f;have Fa:=Ba.f;have Fb:=Bb.f;have Fr:=Br.f;go_wp2_with fail;have Gy:=J4 Bt.cells Ba.cells Bb.cells Br.cells;refine rgn 11 (λw2 hb=>?_);clear Gy;clear Ft Fa Fb Fr;obtain ⟨Bt,Ba,Bb,Br,hw,FV⟩:=qX4 Bt Ba Bb Br hw hb;go_wp2_with fail;clear FV;try rw [rounds_succ]
 have Ft:=Bt.f;have Fa:=Ba.f;have Fb:=Bb.f;have Fr:=Br.f;go_wp2_with fail;have Gy:=J4 Bt.cells Ba.cells Bb.cells Br.cells;refine rgn 11 (λw3 hb=>?_);clear Gy;clear Ft Fa Fb Fr;obtain ⟨Bt,Ba,Bb,Br,hw,FV⟩:=qX4 Bt Ba Bb Br hw hb;go_wp2_with fail;clear FV;try rw [rounds_succ]
 have Ft:=Bt.f;have Fa:=Ba.f;have Fb:=Bb.f;have Fr:=Br.f;go_wp2_with fail;refine bodyPost_ret (v:=.agg #[T.C.x,T.C.y]) (by simp [results,results135,go_sem,Fr]) rfl ⟨rfl,by have hl:=hw.size;go_grown⟩
theorem xB (T:Tri3) (a b:Pt) (w:World):Calls prog 135 #[T,a,b] w (Rt w (.agg #[.int .i64 (apx T a b).x,.int .i64 (apx T a b).y])):=by
 unfold apx;cases a0:peqI T.A.x T.A.y a.x a.y with
 | false=>
  cases b0:peqI T.A.x T.A.y b.x b.y with
  | false=>simpa using far_0 T a b a0 b0 w
  | true=>
   cases a1:peqI T.B.x T.B.y a.x a.y with
   | false=>
    cases b1:peqI T.B.x T.B.y b.x b.y with
    | false=>simpa using far_20 T a b a0 b0 a1 b1 w
    | true=>simpa using far_22 T a b a0 b0 a1 b1 w
   | true=>simpa using far_21 T a b a0 b0 a1 w
 | true=>
  cases a1:peqI T.B.x T.B.y a.x a.y with
  | false=>
   cases b1:peqI T.B.x T.B.y b.x b.y with
   | false=>simpa using far_10 T a b a0 a1 b1 w
   | true=>simpa using far_12 T a b a0 a1 b1 w
  | true=>simpa using far_11 T a b a0 a1 w
attribute [local go_sem] rmap_nil
theorem qE (T:Tri3) (w:World):Calls prog 131 #[T] w (Rt w (.agg #[T.A.x,T.A.y,T.B.x,T.B.y,T.B.x,T.B.y,T.C.x,T.C.y,T.C.x,T.C.y,T.A.x,T.A.y])):=by
 go_enter func131,ntmps131
 go_wp2_with fail;refine bodyPost_ret (v:=.agg #[T.A.x,T.A.y,T.B.x,T.B.y,T.B.x,T.B.y,T.C.x,T.C.y,T.C.x,T.C.y,T.A.x,T.A.y]) (by simp [results,results131,go_sem]) rfl ⟨rfl,by go_grown⟩
theorem rleft_1 (mb b:Nat) (E:Es) (p q:Pt) (T:Tri3) (hg:getE E (p,q)=some T) (hk:okW (p,q)) (w:World) (Bm:Box w mb [.map (some b)] 98) (Hm:Hs w b E):Calls prog 132 #[pt0 mb,p,q] w (Rt w (.tuple #[T,.bool true])):=by
 go_enter func132,ntmps132
 go_wp2_with fail;refine qD3 λW1 Bp Bq Br hw=>?_;have BM:Box W1 (mb) [.map (some b)] 98:=Bm.ee hw;have hl:∀ d os,(Instr.lookup 96 (.map (some b)) (.agg #[p.x,p.y,q.x,q.y]) true).run prog (grow (redrawn W1 d) os)=.ok (.tuple #[T,.bool true]) (grow (redrawn W1 d) os):=λd os=>((Hm.ee hw).ext (below_regrown W1 d os) rfl).look_some kvR y9 hk hg;clear hg;have GX:=J4 Bp.cells Bq.cells Br.cells BM.cells;refine rgl 11 8 19 (λw2 bks hb h1b h2b Bs=>?_);have lps:=Bp.lt;have lqs:=Bq.lt;have lrs:=Br.lt;have lMs:=BM.lt;have hw0z:=hw.size;clear GX;obtain ⟨Bp,Bq,Br,BM,hw,-⟩:=qX4 Bp Bq Br BM hw hb;have fs:=h1b;have hwz:w.heap.size<=W1.heap.size:=hw0z;clear hb h1b h2b hw0z;simp only [Act.put];clear hl;have Fp:=Bp.f;have Fq:=Bq.f;have Fr:=Br.f;have FM:=BM.f;have Fs:=Bs.f;go_wp2_with fail;refine bodyPost_ret (v:=.tuple #[T,.bool true]) (by simp [results,results132,go_sem,Fr]) rfl ⟨rfl,by have hl:=hw.size;go_grown⟩
theorem rleft_0 (mb b:Nat) (E:Es) (p q:Pt) (hg:getE E (p,q)=none) (hk:okW (p,q)) (w:World) (Bm:Box w mb [.map (some b)] 98) (Hm:Hs w b E):Calls prog 132 #[pt0 mb,p,q] w (Rt w (.tuple #[.agg #[(),(),(),(),(),()],.bool false])):=by
 go_enter func132,ntmps132
 go_wp2_with fail;refine qD3 λW1 Bp Bq Br hw=>?_;have BM:Box W1 (mb) [.map (some b)] 98:=Bm.ee hw;have hl:∀ d os,(Instr.lookup 96 (.map (some b)) (.agg #[p.x,p.y,q.x,q.y]) true).run prog (grow (redrawn W1 d) os)=.ok (.tuple #[.agg #[(),(),(),(),(),()],.bool false]) (grow (redrawn W1 d) os):=λd os=>((Hm.ee hw).ext (below_regrown W1 d os) rfl).look_none kvR y9 hk hg;clear hg;have GX:=J4 Bp.cells Bq.cells Br.cells BM.cells;refine rgl 11 8 19 (λw2 bks hb h1b h2b Bs=>?_);have lps:=Bp.lt;have lqs:=Bq.lt;have lrs:=Br.lt;have lMs:=BM.lt;have hw0z:=hw.size;clear GX;obtain ⟨Bp,Bq,Br,BM,hw,-⟩:=qX4 Bp Bq Br BM hw hb;have fs:=h1b;have hwz:w.heap.size<=W1.heap.size:=hw0z;clear hb h1b h2b hw0z;simp only [Act.put];clear hl;have Fp:=Bp.f;have Fq:=Bq.f;have Fr:=Br.f;have FM:=BM.f;have Fs:=Bs.f;go_wp2_with fail;refine bodyPost_ret (v:=.tuple #[.agg #[(),(),(),(),(),()],.bool false]) (by simp [results,results132,go_sem,Fr]) rfl ⟨rfl,by have hl:=hw.size;go_grown⟩
theorem zZ (mb b:Nat) (E:Es) (p q:Pt) (hk:okW (p,q)) (w:World) (Bm:Box w mb [.map (some b)] 98) (Hm:Hs w b E):Calls prog 132 #[pt0 mb,p,q] w (Rt w (.tuple #[eT (lftE E p q).1,.bool (lftE E p q).2])):=by
 cases h:getE E (p,q) with
 | none=>rw [yW h];exact rleft_0 mb b E p q h hk w Bm Hm
 | some t=>rw [zf h];exact rleft_1 mb b E p q t h hk w Bm Hm
theorem toExtD {P : Program} {f : FuncId} {args : Array Value} {v : Value} {W : World} (c : ∀ d os, Calls P f args (grow (redrawn W d) os) λe w' => e = .returned v /\ Below (grow (redrawn W d) os).heap.size (grow (redrawn W d) os) w') :
    ∀ d os,Calls P f args (grow (redrawn W d) os) λe w'=>e=.returned v/\Ext (grow (redrawn W d) os) w':=c
end
end Go.Proofs.YthhcehmmglmlfaaGreat
namespace Go.Proofs.YthhcehmmglmlfaaGreat.Dr
open Go.RowKit Go.Sort
section
variable {P:Program} {ops:Array Oper} {md:Region.Mode} {C:World->Prop}
def Ext (w w':World):Prop:=Below w w w'/\w.drawn<=w'.drawn
def rUpon (P:Program) (w:World) (v:Value):Result Next->Prop
 | .ok (.value u) w'=>w'=w/\u=v
 | .ok .skip w'=>w'=w/\v=undef
 | .ok (.enter f args) w'=>w'=w/\Calls P f args w (λe w''=>e=.returned v/\Ext w w'')
 | _=>False
def rAt (P:Program) (o:Oper) (a:Act) (w:World) (v:Value):Prop:=rUpon P w v ((execOp a.eval o).run P w)
def rOper (P:Program) (o:Oper) (a:Act) (C:World->Prop) (next:Act->Prop):Prop:=∃ v,(∀ w,C w->rAt P o a w v)/\next (a.put o.dst v)
def rWalk (P:Program) (ops:Array Oper) (C:World->Prop) (Q:Act->Prop):List Oper->Act->Prop
 | [],a=>Q a
 | o :: rest,a=>if Region.wanted o (yielded ops a.tmps) then rOper P o a C (rWalk P ops C Q rest) else rWalk P ops C Q rest (a.put o.dst undef)
theorem rWalk_nil {Q:Act->Prop} {a:Act} (h:Q a):rWalk P ops C Q [] a:=h
theorem rWalk_step {Q:Act->Prop} {a:Act} {o:Oper} {rest:List Oper} (h:∀ K:Act->Prop,(∀ a,rWalk P ops C Q rest a->K a)->if Region.wanted o (yielded ops a.tmps) then rOper P o a C K else K (a.put o.dst undef)):rWalk P ops C Q (o :: rest) a:=
 h _ (λ_ h=>h)
def rYields (P:Program) (ops:Array Oper) (C:World->Prop) (o:Oper) (v:Value) (a:Act):Prop:=
 (Region.wanted o (yielded ops a.tmps)=true/\∀ w,C w->rAt P o a w v)\/(Region.wanted o (yielded ops a.tmps)=false/\v=undef)
theorem rYields.same {o:Oper} {v:Value} {a a':Act} (hy:rYields P ops C o v a) (he:execOp a'.eval o=execOp a.eval o) (hw:Region.wanted o (yielded ops a'.tmps)=Region.wanted o (yielded ops a.tmps)):rYields P ops C o v a':=by
 unfold rYields rAt at *;rw [he,hw];exact hy
theorem rYields.of_walk {o:Oper} {rest:List Oper} {Q:Act->Prop} {a:Act} (h:rWalk P ops C Q (o :: rest) a):∃ v,rYields P ops C o v a/\rWalk P ops C Q rest (a.put o.dst v):=by
 simp only [rWalk] at h;cases hw:Region.wanted o (yielded ops a.tmps) with
 | true=>
  rw [hw,JH rfl] at h;obtain ⟨v,h1,h2⟩:=h;exact ⟨v,.inl ⟨hw,h1⟩,h2⟩
 | false=>
  rw [hw,J0 (by simp)] at h;exact ⟨undef,.inr ⟨hw,rfl⟩,h⟩
def rAny (P:Program) (md:Region.Mode) (ops:Array Oper) (C:World->Prop) (n:Nat) (L:Array Bool->Act->Prop):Nat->Array Bool->Act->Prop
 | 0,listed,a=>L listed a
 | f+1,listed,a=>Region.ready md ops listed≠[] /\
  ∀ i∈Region.ready md ops listed,i < n/\∃ o v,ops[i]? = some o/\rYields P ops C o v a/\rAny P md ops C n L f (listed.setIfInBounds i true) (a.put o.dst v)
def TailWaits (md:Region.Mode) (ops:Array Oper) (n:Nat) (listed:Array Bool):Prop:=
 ∀ i,i < n->listed.getD i true=false->∀ t,n<=t->t ∉ Region.ready md ops listed
theorem kC {n i : Nat} {oi : Oper} {v : Value} {L : Array Bool -> Act -> Prop} (hi : ops[i]? = some oi) (hsel : ∀ (j : Nat) (o : Oper) cs b, ops[j]? = some o -> o.op ≠ .select cs b)
    (hin:i < n) (Inv:Array Bool->Prop) (hinv:∀ listed j,Inv listed->j∈Region.ready md ops listed->j < n->Inv (listed.setIfInBounds j true))
    (htail:∀ listed,Inv listed->TailWaits md ops n listed)
    (hdone:∀ listed a,L listed a->∀ j∈Region.ready md ops listed,n<=j) :
    ∀ (f:Nat) (listed:Array Bool) (a:Act),Inv listed ->
     (∀ j oj,ops[j]? = some oj->j≠i->listed.getD j true=false->(∀ e∈oj.after,Region.binds md e=true->e.on≠i)->oi.apart ops oj=true) ->
     i∈Region.ready md ops listed->rYields P ops C oi v a ->
     rAny P md ops C n L f (listed.setIfInBounds i true) (a.put oi.dst v)->rAny P md ops C n L (f+1) listed a:=by
 intro f;induction f with
 | zero=>
  intro listed a inv _ hr hy H;have hun:=(mem_ready.1 hr).1;refine ⟨λh=>(by rw [h] at hr;cases hr),λj hj=>?_⟩;have hjn:j < n:=by
   rcases Qb j n with h | h
   ·exact h
   ·exact absurd hj (htail _ inv i hin hun j h)
  by_cases hji:j=i
  ·subst hji;exact ⟨hjn,oi,v,hi,hy,H⟩
  ·have:=hdone _ _ H j (ready_mono hj hji);omega
 | succ f ih=>
  intro listed a inv hfree hr hy H;have hun:=(mem_ready.1 hr).1;refine ⟨λh=>(by rw [h] at hr;cases hr),λj hj=>?_⟩;have hjn:j < n:=by
   rcases Qb j n with h | h
   ·exact h
   ·exact absurd hj (htail _ inv i hin hun j h)
  by_cases hji:j=i
  ·subst hji;exact ⟨hjn,oi,v,hi,hy,H⟩
  ·obtain ⟨_,oj,u,hoj,hyj,hK⟩:=H.2 j (ready_mono hj hji);obtain ⟨hjun,oj',hoj',hall⟩:=mem_ready.1 hj;have hoo:oj'=oj:=JU (hoj'.symm.trans hoj);subst hoo;have hnot:∀ e∈oj'.after,Region.binds md e=true->e.on≠i:=λe he hb heq=>by
    have h1:=hall e he hb;rw [heq,getD_both hun] at h1;cases h1
   obtain ⟨h1,h2,h3⟩:=Oper.apart_spec (hfree j oj' hoj hji hjun hnot);have hyj':rYields P ops C oj' u a:=hyj.same (execOp_put oj' (λcs b=>hsel j oj' cs b hoj) a oi.dst v h1).symm (wanted_put oj' a oi.dst v h1).symm;have hyi':rYields P ops C oi v (a.put oj'.dst u):=hy.same (execOp_put oi (λcs b=>hsel i oi cs b hi) a oj'.dst u h3) (wanted_put oi a oj'.dst u h3);refine ⟨hjn,oj',u,hoj,hyj',?_⟩;refine ih (listed.setIfInBounds j true) _ (hinv _ _ inv hj hjn) (λk ok hk hki hun' hno=>?_) (ready_mono hr (Ne.symm hji)) hyi' ?_
   ·refine hfree k ok hk hki ?_ hno;by_cases hjk:j=k
    ·subst hjk;exact hjun
    ·rw [getD_set_ne true hjk] at hun';exact hun'
   ·rw [QS _ _ hji,<-Act.put_comm a v u h2];exact hK
def orderB (md:Region.Mode) (ops:Array Oper) (n g:Nat):List Nat->Array Bool->Bool
 | [],listed=>Region.seqB md ops g n listed
 | k :: is,listed=>decide (k < n) && (Region.ready md ops listed).contains k && Region.free md ops listed k && orderB md ops n g is (listed.setIfInBounds k true)
theorem yy {n g : Nat} {Lq : Act -> Prop} (hsel : Region.noSelect ops = true) (Inv : Array Bool -> Prop)
    (hinv:∀ listed j,Inv listed->j∈Region.ready md ops listed->j < n->Inv (listed.setIfInBounds j true)) (htail:∀ listed,Inv listed->TailWaits md ops n listed) :
    ∀ (is:List Nat) (l:List Oper) (listed:Array Bool) (a:Act),is.map (λi=>ops[i]?)=l.map some->Inv listed->orderB md ops n g is listed=true->rWalk P ops C Lq l a ->
     rAny P md ops C n (λlisted' a'=>Region.seqB md ops g n listed'=true/\Lq a') is.length listed a
 | [],[],listed,a,_,_,hB,h=>⟨hB,h⟩
 | [],_ :: _,_,_,hl,_,_,_=>by cases hl
 | _ :: _,[],_,_,hl,_,_,_=>by cases hl
 | k :: is,o :: l,listed,a,hl,inv,hB,h=>by
  simp only [Jm,Vb] at hl;obtain ⟨h0,hl⟩:=hl;simp only [orderB,JB,JA] at hB;obtain ⟨⟨⟨hkn,hr⟩,hf⟩,hB'⟩:=hB;have hr':k∈Region.ready md ops listed:=by simpa using hr
  obtain ⟨v,hy,hK⟩:=rYields.of_walk h;exact kC h0 (Region.noSelect_spec hsel) hkn Inv hinv htail (λlisted' a' hL=>seqB_ready hL.1) is.length listed a inv (Region.free_spec h0 hf) hr' hy
   (yy hsel Inv hinv htail is l _ _ hl (hinv _ _ inv hr' hkn) hB' hK)
theorem Ext.trans {a b c:World} (h:Ext a b) (k:Ext b c):Ext a c:=⟨Below.trans h.1 (Below.mono k.1 h.1.size),JY h.2 k.2⟩
theorem yA {i:Nat} {o:Oper} {v:Value} {a:Act} {K:Act->World->Prop} {Q:Exit->Act->World->Prop} {w:World} (hi:ops[i]? = some o) (hC:C w) (hy:rYields P ops C o v a) (h:∀ w',Ext w w'->K (a.put o.dst v) w'):wpOp P ops Q i K a w:=by
 have hrefl:Ext w w:=⟨Below.refl _ _,JJ _⟩;unfold wpOp;simp only [hi];rcases hy with ⟨hw,hv⟩ | ⟨hw,rfl⟩
 ·rw [JH hw];refine .inl ?_;have h3:=hv w hC;unfold rAt at h3;unfold Oper.wp;generalize (execOp a.eval o).run P w=r at *
  cases r with
  | ok n w'=>
   cases n <;> simp only [rUpon] at h3 <;> simp only [Oper.upon]
   case value u=>obtain ⟨e1,e2⟩:=h3;rw [e1,e2];exact h _ hrefl
   case skip=>obtain ⟨e1,e2⟩:=h3;rw [e1,<-e2];exact h _ hrefl
   case enter f args=>
    obtain ⟨e1,hc⟩:=h3;rw [e1];exact hc.mono λe w'' ⟨he,hw''⟩=>by subst he;exact h _ hw''
  | halt x w'=>simp only [rUpon] at h3
 ·rw [hw,J0 (by simp)];exact h _ hrefl
theorem yU {n g : Nat} {Q : Exit -> Act -> World -> Prop} {Lq : Act -> Prop} {l : List Oper} {dst : Option Tmp} {u : Value} {D : World -> Prop} (hsel : Region.noSelect ops = true)
    (hg:l.length=g) (hl:∀ j,l[j]? = ops[n+j]?) (hD:∀ w,D w->C w) (hDe:∀ w w',D w->Ext w w'->D w')
    (J:Nat->Prop) (hap:∀ i o,i < n->¬ J i->ops[i]? = some o->(∀ d,dst=some d->d ∉ o.looksAt ops)/\(∀ d,dst=some d->o.dst≠some d))
    (hQ:∀ a w,D w->Lq a->wpList P ops Q l (a.put dst u) w) :
    ∀ (f:Nat) (listed:Array Bool) (a:Act) (w:World),D w->(∀ i,J i->listed.getD i true=true) ->
     rAny P md ops C n (λlisted' a'=>Region.seqB md ops g n listed'=true/\Lq a') f listed a->wpAny P md ops Q (f+g) listed (a.put dst u) w
 | 0,listed,a,w,hw,_,h=>by
  rw [QJ];subst hg;exact wpAny_of_seq l n listed _ w hl h.1 (hQ a w hw h.2)
 | f+1,listed,a,w,hw,hJ,h=>by
  rw [show f+1+g=(f+g)+1 by omega];refine ⟨λh0=>absurd h0 h.1,λi hi=>?_⟩;obtain ⟨hin,o,v,ho,hy,hK⟩:=h.2 i hi;have hiun:=(mem_ready.1 hi).1;have hnJ:¬ J i:=λhj=>by rw [hJ i hj] at hiun;cases hiun
  obtain ⟨h1,h2⟩:=hap i o hin hnJ ho;have hy':rYields P ops C o v (a.put dst u):=hy.same (execOp_put o (λcs b=>Region.noSelect_spec hsel i o cs b ho) a dst u h1) (wanted_put o a dst u h1);refine yA ho (hD w hw) hy' λw' hw'=>?_;rw [Act.put_comm a u v h2];refine yU hsel hg hl hD hDe J hap hQ f _ _ w' (hDe _ _ hw hw') (λk hk=>?_) hK;by_cases hik:i=k
  ·subst hik;exact absurd hk hnJ
  ·rw [getD_set_ne true hik];exact hJ k hk
def plainB (md:Region.Mode) (ops:Array Oper) (n:Nat):Bool:=
 Region.noSelect ops && decide (n < ops.size) && Region.sinkB md ops n && Region.chainB md ops n && orderB md ops n (ops.size - n) (List.range n) (Array.replicate ops.size false)
theorem headInv0 {n:Nat}:HeadInv md ops n (Array.replicate ops.size false):=
 ⟨by simp,λj oj _ hl=>(by rw [getD_replicate_false] at hl;cases hl),λt _ ht=>getD_in (by simpa using ht) (getD_replicate_false _ _)⟩
theorem wp_region_tail {id:Nat} {Q:Exit->Act->World->Prop} {a:Act} {w:World} {l:List Oper} (n:Nat) (hm:P.follows .mixedOrders) (hB:plainB .any l.toArray n) (hC:∀ w',Below w w w'->C w') (h:rWalk P l.toArray C (λa'=>∀ w',Ext w w'->wpList P l.toArray Q (l.drop n) a' w') (l.take n) a):(Code.region id l.toArray true).wp P Q a w:=by
 simp only [plainB,JB,JA] at hB;obtain ⟨⟨⟨⟨hsel,hn⟩,hs⟩,hc⟩,ho⟩:=hB;have hn':n < l.length:=by simpa using hn
 have hmap:(List.range n).map (λi=>l.toArray[i]?)=(l.take n).map some:=by
  apply VI;intro j;simp only [VJ,QX];by_cases hj:j < n
  ·simp [hj,show j < l.length by omega]
  ·simp [hj]
 have H:=yy (md:=.any) (g:=l.toArray.size - n) hsel (HeadInv .any l.toArray n) (λlisted j inv hj hjn=>inv.set hj hjn) (λlisted inv i hi hun=>tail_waits hs hc hn inv _ i rfl hi hun)
  (List.range n) (l.take n) _ a hmap headInv0 ho h
 refine wp_region_any hm ?_;have:=yU (md:=.any) (Q:=Q) (l:=l.drop n) (dst:=none) (u:=undef) (D:=λw'=>Ext w w') hsel (by simp) (λj=>by simp [Qr])
  (λw' h=>hC w' h.1) (λa b ha hb=>Ext.trans (a:=w) ha hb) (λ_=>False) (λi o _ _ _=>⟨λd hd=>(by cases hd),λd hd=>(by cases hd)⟩)
  (λa' w' hw' hl=>hl w' hw') _ _ _ { w with drawn:=w.drawn+1 } ⟨⟨rfl,rfl,rfl,JJ _,λ_ _=>rfl⟩,by simp⟩ (λi hi=>hi.elim) H
 rw [Vc,show n+(l.toArray.size - n)=l.toArray.size by omega] at this;exact this
end
theorem toExt {P:Program} {f:FuncId} {args:Array Value} {v:Value} (c:∀ w:World,Calls P f args w λe w'=>e=.returned v/\Ext w w'):∀ w:World,Calls P f args w λe w'=>e=.returned v/\Ext w w':=c
theorem Ext.grown {w w':World} (h:Ext w w'):∃ q os,w'=grow (w.drewN q) os:=by
 obtain ⟨p,hp⟩:=regrown_of_below h.1;refine ⟨p.d - w.drawn,p.os,?_⟩;have h2:=h.2;have e:w'.drawn=p.d:=by rw [hp];rfl
 rw [e] at h2;rw [hp];have:redrawn w p.d=w.drewN (p.d - w.drawn):=by unfold redrawn World.drewN;congr 1;omega
 rw [this]
end Go.Proofs.YthhcehmmglmlfaaGreat.Dr
namespace Go.Proofs.YthhcehmmglmlfaaGreat
open _root_.Go.Proofs.Tryz
section
open Go.RowKit Go.Sort
attribute [local go_sem] Dr.rOper Dr.rAt Dr.rUpon cell_set sg_i64 sg_u64 alloc_cell alloc_frozen
attribute [local go_sem 10000] pt_eql pt_neq tri_eql
attribute [local irreducible] Dr.rWalk
theorem tc (p q:Pt) (w:World):Calls prog 72 #[p,q] w λe w'=>e=.returned (.int .i64 (cmpP p q))/\Dr.Ext w w':=by
 by_cases h:p.x=q.x
 ·have e1:(p.x != q.x)=false:=by simp [h]
  have e2:cmpP p q=cmpN p.y q.y:=by unfold cmpP;rw [JH h]
  rw [e2];clear e2 h
  go_enter func72,ntmps72
  go_wp2_with (go_at_call 101;refine (vZ _ _ _).mono ?_;rintro e w' ⟨rfl,rfl⟩)
  go_returns
  exact ⟨rfl,by go_grown,JJ _⟩
 ·have e1:(p.x != q.x)=true:=by simp [h]
  have e2:cmpP p q=cmpN p.x q.x:=by unfold cmpP;rw [J0 h]
  rw [e2];clear e2 h
  go_enter func72,ntmps72
  go_wp2_with (go_at_call 101;refine (vZ _ _ _).mono ?_;rintro e w' ⟨rfl,rfl⟩)
  go_returns
  exact ⟨rfl,by go_grown,JJ _⟩
theorem dor_0 (x y z:Int) (h0:(x == 0)=false) (w:World) (bk:Nat) (hB:Box w bk [x,y,z] 3):Calls prog 71 #[.slice (some ⟨bk,0,none⟩) 3 3] w λe w'=>e=.returned (.int .i64 x)/\Dr.Ext w w':=by
 have Fs:=hB.f
 go_enter func71,ntmps71
 go_wp2_with fail;refine wp_loop_rounds 5 ?_;try rw [rounds_succ]
 go_wp2_with fail
 go_ret
 exact ⟨rfl,by go_grown,JJ _⟩
theorem dor_1 (x y z:Int) (h0:(x == 0)=true) (h1:(y == 0)=false) (w:World) (bk:Nat) (hB:Box w bk [x,y,z] 3):Calls prog 71 #[.slice (some ⟨bk,0,none⟩) 3 3] w λe w'=>e=.returned (.int .i64 y)/\Dr.Ext w w':=by
 have Fs:=hB.f
 go_enter func71,ntmps71
 go_wp2_with fail;refine wp_loop_rounds 5 ?_;try rw [rounds_succ]
 go_wp2_with fail;try rw [rounds_succ]
 go_wp2_with fail
 go_ret
 exact ⟨rfl,by go_grown,JJ _⟩
theorem dor_2 (x y z:Int) (h0:(x == 0)=true) (h1:(y == 0)=true) (h2:(z == 0)=false) (w:World) (bk:Nat) (hB:Box w bk [x,y,z] 3):Calls prog 71 #[.slice (some ⟨bk,0,none⟩) 3 3] w λe w'=>e=.returned (.int .i64 z)/\Dr.Ext w w':=by
 have Fs:=hB.f
 go_enter func71,ntmps71
 go_wp2_with fail;refine wp_loop_rounds 5 ?_;try rw [rounds_succ]
 go_wp2_with fail;try rw [rounds_succ]
 go_wp2_with fail;try rw [rounds_succ]
 go_wp2_with fail
 go_ret
 exact ⟨rfl,by go_grown,JJ _⟩
theorem dor_3 (x y z:Int) (h0:(x == 0)=true) (h1:(y == 0)=true) (h2:(z == 0)=true) (w:World) (bk:Nat) (hB:Box w bk [x,y,z] 3):Calls prog 71 #[.slice (some ⟨bk,0,none⟩) 3 3] w λe w'=>e=.returned (.int .i64 0)/\Dr.Ext w w':=by
 have Fs:=hB.f
 go_enter func71,ntmps71
 go_wp2_with fail;refine wp_loop_rounds 5 ?_;try rw [rounds_succ]
 go_wp2_with fail;try rw [rounds_succ]
 go_wp2_with fail;try rw [rounds_succ]
 go_wp2_with fail;try rw [rounds_succ]
 go_wp2_with fail
 go_ret
 exact ⟨rfl,by go_grown,JJ _⟩
theorem Kd (x y z:Int) (w:World) (bk:Nat) (hB:Box w bk [x,y,z] 3):Calls prog 71 #[.slice (some ⟨bk,0,none⟩) 3 3] w λe w'=>e=.returned (.int .i64 (or3 x y z))/\Dr.Ext w w':=by
 cases h0:(x == 0) with
 | false=>rw [show or3 x y z=x by simp at h0;simp [or3,h0]];exact dor_0 x y z h0 w bk hB
 | true=>cases h1:(y == 0) with
  | false=>rw [show or3 x y z=y by simp at h0 h1;simp [or3,h0,h1]];exact dor_1 x y z h0 h1 w bk hB
  | true=>cases h2:(z == 0) with
   | false=>rw [show or3 x y z=z by simp at h0 h1;simp [or3,h0,h1]];exact dor_2 x y z h0 h1 h2 w bk hB
   | true=>rw [show or3 x y z=0 by simp at h0 h1 h2;simp [or3,h0,h1,h2]];exact dor_3 x y z h0 h1 h2 w bk hB
theorem dcmpT_any (S T:Tri3) (w:World):Calls prog 36 #[S,T] w λe w'=>e=.returned (.int .i64 (cmpT S T))/\Dr.Ext w w':=by
 have d1:=tc S.A T.A;have d2:=tc S.B T.B;have d3:=tc S.C T.C;rw [show cmpT S T=or3 (cmpP S.A T.A) (cmpP S.B T.B) (cmpP S.C T.C) by rfl];generalize cmpP S.A T.A=m at *
 generalize cmpP S.B T.B=n at *
 generalize cmpP S.C T.C=o at *
 go_enter func36,ntmps36
 go_wp2_with fail;refine zG λW1 hW=>?_;have Bs:Box W1 w [S.A.x,S.A.y,S.B.x,S.B.y,S.C.x,S.C.y] 45:=by rw [hW];exact (Box.new rfl).old _
 have Bt:Box W1 (w+1) [T.A.x,T.A.y,T.B.x,T.B.y,T.C.x,T.C.y] 45:=by rw [hW];exact Box.new (by simp)
 have hw:Below w w W1:=by rw [hW];go_grown
 have hdr:w.drawn<=W1.drawn:=by rw [hW];exact JJ _
 clear hW;have HJ:=J2 Bs.cells Bt.cells;refine Dr.wp_region_tail 15 (by kernel_rfl) (by kernel_rfl) (C:=λw'=>∃ p:Regrown,w'=grow (redrawn W1 p.d) p.os) rgB ?_;simp only [tK1,tK0,dP1,dP0];repeat (first | (refine Dr_skip (Eq.refl false) ?_;simp only [Act.put,sT2,sT1,sT0]) | (refine Dr.rWalk_step (λK hK=>?_);go_simp;first | (refine hK _ ?_;clear hK K) | (apply Exists.intro;refine ⟨λ_=>?_,hK _ ?_⟩;(first | with_reducible exact Dr.toExt d1 _ | with_reducible exact Dr.toExt d2 _ | with_reducible exact Dr.toExt d3 _);clear hK K)))
 refine Dr.rWalk_nil ?_;intro w2 hb0;have hb:=hb0.1;replace hdr:=JY hdr hb0.2;clear hb0;clear HJ;obtain ⟨Bs,Bt,hw,-⟩:=qX2 Bs Bt hw hb;have Fs:=Bs.f;have Ft:=Bt.f;go_wp2_with fail;refine zI λW3 hW=>?_;obtain ⟨bkv,hbv⟩:∃ b,w2.heap.size=b:=⟨_,rfl⟩;rw [hbv];have lsv:=Bs.lt;rw [hbv] at lsv;have ltv:=Bt.lt;rw [hbv] at ltv;have fv:=hw.size;rw [hbv] at fv;have Bv:Box W3 bkv [.int .i64 m,.int .i64 n,.int .i64 o] 3:=by rw [hW];exact Box.new hbv.symm
 replace Bs:Box W3 w [S.A.x,S.A.y,S.B.x,S.B.y,S.C.x,S.C.y] 45:=by rw [hW];exact Bs.old _
 replace Bt:Box W3 (w+1) [T.A.x,T.A.y,T.B.x,T.B.y,T.C.x,T.C.y] 45:=by rw [hW];exact Bt.old _
 replace hw:Below w w W3:=by have hl:=hw.size;rw [hW];go_grown
 replace hdr:w.drawn<=W3.drawn:=by rw [hW];exact hdr
 clear hW hbv;refine (Kd m n o _ bkv Bv).mono ?_;rintro e w4 ⟨rfl,hb0⟩;have hb:=hb0.1;replace hdr:=JY hdr hb0.2;clear hb0;clear Fs Ft;obtain ⟨Bs,Bt,Bv,hw,-⟩:=qX3 Bs Bt Bv hw hb;clear hb;have Fs:=Bs.f;have Ft:=Bt.f;have Fv:=Bv.f;go_wp2
 go_ret
 exact ⟨rfl,by have hl:=hw.size;go_grown,hdr⟩
attribute [local go_sem] rOper rAt rUpon
theorem tmake_n0 (a b c:Pt) (l0:lds ⟨a,b,c⟩=true) (ho:decide (ori a b c < 0)=true) (hv:valT ⟨a,c,b⟩=true) (w:World):Calls prog 34 #[a,b,c] w (Rt w (.tuple #[.agg #[a.x,a.y,c.x,c.y,b.x,b.y],.bool true])):=by
 have k0:=y8 ⟨a,b,c⟩;rw [l0] at k0;dsimp only at k0;have co:=zJ a b c;have cv:=yH ⟨a,c,b⟩;rw [hv] at cv;dsimp only at cv;generalize ori a b c=n at *
 clear hv l0
 go_enter func34,ntmps34
 go_wp2_with fail;refine qD5 λW1 Ba Bb Bc Br Bt hw=>?_;refine wp_loop_rounds 4 ?_;try rw [rounds_succ]
 have FZ:=J5 Ba.f Bb.f Bc.f Br.f Bt.f;go_wp2_with fail;clear FZ;refine qC5 (k0 _) Ba Bb Bc Br Bt hw λw2 Ba Bb Bc Br Bt hw FZ=>?_;go_wp2_with fail;clear FZ;refine qK5 (co _) Ba Bb Bc Br Bt hw λw3 Ba Bb Bc Br Bt hw=>?_;have Fa:=Ba.f;have Fb:=Bb.f;have Fc:=Bc.f;have Fr:=Br.f;have Ft:=Bt.f;go_wp2_with fail;refine zI λW4 hW=>?_;replace Ba:=sto Ba hW;replace Bb:=sto Bb hW;replace Bc:=sto Bc hW;replace Br:=sto Br hW;replace Bt:=sto Bt hW;replace hw:=stw hw hW;clear Fa Fb Fc Fr Ft;clear hW;refine qK5 (cv _) Ba Bb Bc Br Bt hw λw5 Ba Bb Bc Br Bt hw=>?_;have Fa:=Ba.f;have Fb:=Bb.f;have Fc:=Bc.f;have Fr:=Br.f;have Ft:=Bt.f;go_wp2_with fail;refine bodyPost_ret (v:=.tuple #[.agg #[a.x,a.y,c.x,c.y,b.x,b.y],.bool true]) (by simp [results,results34,go_sem,Fr]) rfl ⟨rfl,by have hl:=hw.size;go_grown⟩
theorem tmake_p0 (a b c:Pt) (l0:lds ⟨a,b,c⟩=true) (ho:decide (ori a b c < 0)=false) (hv:valT ⟨a,b,c⟩=true) (w:World):Calls prog 34 #[a,b,c] w (Rt w (.tuple #[.agg #[a.x,a.y,b.x,b.y,c.x,c.y],.bool true])):=by
 have k0:=y8 ⟨a,b,c⟩;rw [l0] at k0;dsimp only at k0;have co:=zJ a b c;have cv:=yH ⟨a,b,c⟩;rw [hv] at cv;dsimp only at cv;generalize ori a b c=n at *
 clear hv l0
 go_enter func34,ntmps34
 go_wp2_with fail;refine qD5 λW1 Ba Bb Bc Br Bt hw=>?_;refine wp_loop_rounds 4 ?_;try rw [rounds_succ]
 have FZ:=J5 Ba.f Bb.f Bc.f Br.f Bt.f;go_wp2_with fail;clear FZ;refine qC5 (k0 _) Ba Bb Bc Br Bt hw λw2 Ba Bb Bc Br Bt hw FZ=>?_;go_wp2_with fail;clear FZ;refine qC5 (co _) Ba Bb Bc Br Bt hw λw3 Ba Bb Bc Br Bt hw FZ=>?_;go_wp2_with fail;clear FZ;refine qK5 (cv _) Ba Bb Bc Br Bt hw λw4 Ba Bb Bc Br Bt hw=>?_;have Fa:=Ba.f;have Fb:=Bb.f;have Fc:=Bc.f;have Fr:=Br.f;have Ft:=Bt.f;go_wp2_with fail;refine bodyPost_ret (v:=.tuple #[.agg #[a.x,a.y,b.x,b.y,c.x,c.y],.bool true]) (by simp [results,results34,go_sem,Fr]) rfl ⟨rfl,by have hl:=hw.size;go_grown⟩
theorem tmake_z0 (a b c:Pt) (l0:lds ⟨a,b,c⟩=true) (ho:decide (ori a b c < 0)=false) (hv:valT ⟨a,b,c⟩=false) (w:World):Calls prog 34 #[a,b,c] w (Rt w (.tuple #[.agg #[(),(),(),(),(),()],.bool false])):=by
 have k0:=y8 ⟨a,b,c⟩;rw [l0] at k0;dsimp only at k0;have co:=zJ a b c;have cv:=yH ⟨a,b,c⟩;rw [hv] at cv;dsimp only at cv;generalize ori a b c=n at *
 clear hv l0
 go_enter func34,ntmps34
 go_wp2_with fail;refine qD5 λW1 Ba Bb Bc Br Bt hw=>?_;refine wp_loop_rounds 4 ?_;try rw [rounds_succ]
 have FZ:=J5 Ba.f Bb.f Bc.f Br.f Bt.f;go_wp2_with fail;clear FZ;refine qC5 (k0 _) Ba Bb Bc Br Bt hw λw2 Ba Bb Bc Br Bt hw FZ=>?_;go_wp2_with fail;clear FZ;refine qC5 (co _) Ba Bb Bc Br Bt hw λw3 Ba Bb Bc Br Bt hw FZ=>?_;go_wp2_with fail;clear FZ;refine qK5 (cv _) Ba Bb Bc Br Bt hw λw4 Ba Bb Bc Br Bt hw=>?_;have Fa:=Ba.f;have Fb:=Bb.f;have Fc:=Bc.f;have Fr:=Br.f;have Ft:=Bt.f;go_wp2_with fail;refine bodyPost_ret (v:=.tuple #[.agg #[(),(),(),(),(),()],.bool false]) (by simp [results,results34,go_sem,Fr]) rfl ⟨rfl,by have hl:=hw.size;go_grown⟩
theorem tmake_n1 (a b c:Pt) (l0:lds ⟨a,b,c⟩=false) (l1:lds ⟨b,c,a⟩=true) (ho:decide (ori b c a < 0)=true) (hv:valT ⟨b,a,c⟩=true) (w:World):Calls prog 34 #[a,b,c] w (Rt w (.tuple #[.agg #[b.x,b.y,a.x,a.y,c.x,c.y],.bool true])):=by
 have k0:=y8 ⟨a,b,c⟩;rw [l0] at k0;dsimp only at k0;have r0:=yk ⟨a,b,c⟩;dsimp only at r0;have k1:=y8 ⟨b,c,a⟩;rw [l1] at k1;dsimp only at k1;have co:=zJ b c a;have cv:=yH ⟨b,a,c⟩;rw [hv] at cv;dsimp only at cv;generalize ori b c a=n at *
 clear hv l0 l1
 go_enter func34,ntmps34
 go_wp2_with fail;refine qD5 λW1 Ba Bb Bc Br Bt hw=>?_;refine wp_loop_rounds 4 ?_;try rw [rounds_succ]
 have FZ:=J5 Ba.f Bb.f Bc.f Br.f Bt.f;go_wp2_with fail;clear FZ;refine qC5 (k0 _) Ba Bb Bc Br Bt hw λw2 Ba Bb Bc Br Bt hw FZ=>?_;go_wp2_with fail;clear FZ;refine qK5 (r0 _) Ba Bb Bc Br Bt hw λw3 Ba Bb Bc Br Bt hw=>?_;have Fa:=Ba.f;have Fb:=Bb.f;have Fc:=Bc.f;have Fr:=Br.f;have Ft:=Bt.f;go_wp2_with fail;refine zG λW4 hW=>?_;replace Ba:=sto Ba hW;replace Bb:=sto Bb hW;replace Bc:=sto Bc hW;replace Br:=sto Br hW;replace Bt:=sto Bt hW;replace hw:=stw hw hW;clear Fa Fb Fc Fr Ft;clear hW;try rw [rounds_succ]
 have FZ:=J5 Ba.f Bb.f Bc.f Br.f Bt.f;go_wp2_with fail;clear FZ;refine qC5 (k1 _) Ba Bb Bc Br Bt hw λw5 Ba Bb Bc Br Bt hw FZ=>?_;go_wp2_with fail;clear FZ;refine qK5 (co _) Ba Bb Bc Br Bt hw λw6 Ba Bb Bc Br Bt hw=>?_;have Fa:=Ba.f;have Fb:=Bb.f;have Fc:=Bc.f;have Fr:=Br.f;have Ft:=Bt.f;go_wp2_with fail;refine zI λW7 hW=>?_;replace Ba:=sto Ba hW;replace Bb:=sto Bb hW;replace Bc:=sto Bc hW;replace Br:=sto Br hW;replace Bt:=sto Bt hW;replace hw:=stw hw hW;clear Fa Fb Fc Fr Ft;clear hW;refine qK5 (cv _) Ba Bb Bc Br Bt hw λw8 Ba Bb Bc Br Bt hw=>?_;have Fa:=Ba.f;have Fb:=Bb.f;have Fc:=Bc.f;have Fr:=Br.f;have Ft:=Bt.f;go_wp2_with fail;refine bodyPost_ret (v:=.tuple #[.agg #[b.x,b.y,a.x,a.y,c.x,c.y],.bool true]) (by simp [results,results34,go_sem,Fr]) rfl ⟨rfl,by have hl:=hw.size;go_grown⟩
theorem tmake_p1 (a b c:Pt) (l0:lds ⟨a,b,c⟩=false) (l1:lds ⟨b,c,a⟩=true) (ho:decide (ori b c a < 0)=false) (hv:valT ⟨b,c,a⟩=true) (w:World):Calls prog 34 #[a,b,c] w (Rt w (.tuple #[.agg #[b.x,b.y,c.x,c.y,a.x,a.y],.bool true])):=by
 have k0:=y8 ⟨a,b,c⟩;rw [l0] at k0;dsimp only at k0;have r0:=yk ⟨a,b,c⟩;dsimp only at r0;have k1:=y8 ⟨b,c,a⟩;rw [l1] at k1;dsimp only at k1;have co:=zJ b c a;have cv:=yH ⟨b,c,a⟩;rw [hv] at cv;dsimp only at cv;generalize ori b c a=n at *
 clear hv l0 l1
 go_enter func34,ntmps34
 go_wp2_with fail;refine qD5 λW1 Ba Bb Bc Br Bt hw=>?_;refine wp_loop_rounds 4 ?_;try rw [rounds_succ]
 have FZ:=J5 Ba.f Bb.f Bc.f Br.f Bt.f;go_wp2_with fail;clear FZ;refine qC5 (k0 _) Ba Bb Bc Br Bt hw λw2 Ba Bb Bc Br Bt hw FZ=>?_;go_wp2_with fail;clear FZ;refine qK5 (r0 _) Ba Bb Bc Br Bt hw λw3 Ba Bb Bc Br Bt hw=>?_;have Fa:=Ba.f;have Fb:=Bb.f;have Fc:=Bc.f;have Fr:=Br.f;have Ft:=Bt.f;go_wp2_with fail;refine zG λW4 hW=>?_;replace Ba:=sto Ba hW;replace Bb:=sto Bb hW;replace Bc:=sto Bc hW;replace Br:=sto Br hW;replace Bt:=sto Bt hW;replace hw:=stw hw hW;clear Fa Fb Fc Fr Ft;clear hW;try rw [rounds_succ]
 have FZ:=J5 Ba.f Bb.f Bc.f Br.f Bt.f;go_wp2_with fail;clear FZ;refine qC5 (k1 _) Ba Bb Bc Br Bt hw λw5 Ba Bb Bc Br Bt hw FZ=>?_;go_wp2_with fail;clear FZ;refine qC5 (co _) Ba Bb Bc Br Bt hw λw6 Ba Bb Bc Br Bt hw FZ=>?_;go_wp2_with fail;clear FZ;refine qK5 (cv _) Ba Bb Bc Br Bt hw λw7 Ba Bb Bc Br Bt hw=>?_;have Fa:=Ba.f;have Fb:=Bb.f;have Fc:=Bc.f;have Fr:=Br.f;have Ft:=Bt.f;go_wp2_with fail;refine bodyPost_ret (v:=.tuple #[.agg #[b.x,b.y,c.x,c.y,a.x,a.y],.bool true]) (by simp [results,results34,go_sem,Fr]) rfl ⟨rfl,by have hl:=hw.size;go_grown⟩
theorem tmake_z1 (a b c:Pt) (l0:lds ⟨a,b,c⟩=false) (l1:lds ⟨b,c,a⟩=true) (ho:decide (ori b c a < 0)=false) (hv:valT ⟨b,c,a⟩=false) (w:World):Calls prog 34 #[a,b,c] w (Rt w (.tuple #[.agg #[(),(),(),(),(),()],.bool false])):=by
 have k0:=y8 ⟨a,b,c⟩;rw [l0] at k0;dsimp only at k0;have r0:=yk ⟨a,b,c⟩;dsimp only at r0;have k1:=y8 ⟨b,c,a⟩;rw [l1] at k1;dsimp only at k1;have co:=zJ b c a;have cv:=yH ⟨b,c,a⟩;rw [hv] at cv;dsimp only at cv;generalize ori b c a=n at *
 clear hv l0 l1
 go_enter func34,ntmps34
 go_wp2_with fail;refine qD5 λW1 Ba Bb Bc Br Bt hw=>?_;refine wp_loop_rounds 4 ?_;try rw [rounds_succ]
 have FZ:=J5 Ba.f Bb.f Bc.f Br.f Bt.f;go_wp2_with fail;clear FZ;refine qC5 (k0 _) Ba Bb Bc Br Bt hw λw2 Ba Bb Bc Br Bt hw FZ=>?_;go_wp2_with fail;clear FZ;refine qK5 (r0 _) Ba Bb Bc Br Bt hw λw3 Ba Bb Bc Br Bt hw=>?_;have Fa:=Ba.f;have Fb:=Bb.f;have Fc:=Bc.f;have Fr:=Br.f;have Ft:=Bt.f;go_wp2_with fail;refine zG λW4 hW=>?_;replace Ba:=sto Ba hW;replace Bb:=sto Bb hW;replace Bc:=sto Bc hW;replace Br:=sto Br hW;replace Bt:=sto Bt hW;replace hw:=stw hw hW;clear Fa Fb Fc Fr Ft;clear hW;try rw [rounds_succ]
 have FZ:=J5 Ba.f Bb.f Bc.f Br.f Bt.f;go_wp2_with fail;clear FZ;refine qC5 (k1 _) Ba Bb Bc Br Bt hw λw5 Ba Bb Bc Br Bt hw FZ=>?_;go_wp2_with fail;clear FZ;refine qC5 (co _) Ba Bb Bc Br Bt hw λw6 Ba Bb Bc Br Bt hw FZ=>?_;go_wp2_with fail;clear FZ;refine qK5 (cv _) Ba Bb Bc Br Bt hw λw7 Ba Bb Bc Br Bt hw=>?_;have Fa:=Ba.f;have Fb:=Bb.f;have Fc:=Bc.f;have Fr:=Br.f;have Ft:=Bt.f;go_wp2_with fail;refine bodyPost_ret (v:=.tuple #[.agg #[(),(),(),(),(),()],.bool false]) (by simp [results,results34,go_sem,Fr]) rfl ⟨rfl,by have hl:=hw.size;go_grown⟩
theorem tmake_n2 (a b c:Pt) (l0:lds ⟨a,b,c⟩=false) (l1:lds ⟨b,c,a⟩=false) (l2:lds ⟨c,a,b⟩=true) (ho:decide (ori c a b < 0)=true) (hv:valT ⟨c,b,a⟩=true) (w:World):Calls prog 34 #[a,b,c] w (Rt w (.tuple #[.agg #[c.x,c.y,b.x,b.y,a.x,a.y],.bool true])):=by
 have k0:=y8 ⟨a,b,c⟩;rw [l0] at k0;dsimp only at k0;have r0:=yk ⟨a,b,c⟩;dsimp only at r0;have k1:=y8 ⟨b,c,a⟩;rw [l1] at k1;dsimp only at k1;have r1:=yk ⟨b,c,a⟩;dsimp only at r1;have k2:=y8 ⟨c,a,b⟩;rw [l2] at k2;dsimp only at k2;have co:=zJ c a b;have cv:=yH ⟨c,b,a⟩;rw [hv] at cv;dsimp only at cv;generalize ori c a b=n at *
 clear hv l0 l1 l2
 go_enter func34,ntmps34
 go_wp2_with fail;refine qD5 λW1 Ba Bb Bc Br Bt hw=>?_;refine wp_loop_rounds 4 ?_;try rw [rounds_succ]
 have FZ:=J5 Ba.f Bb.f Bc.f Br.f Bt.f;go_wp2_with fail;clear FZ;refine qC5 (k0 _) Ba Bb Bc Br Bt hw λw2 Ba Bb Bc Br Bt hw FZ=>?_;go_wp2_with fail;clear FZ;refine qK5 (r0 _) Ba Bb Bc Br Bt hw λw3 Ba Bb Bc Br Bt hw=>?_;have Fa:=Ba.f;have Fb:=Bb.f;have Fc:=Bc.f;have Fr:=Br.f;have Ft:=Bt.f;go_wp2_with fail;refine zG λW4 hW=>?_;replace Ba:=sto Ba hW;replace Bb:=sto Bb hW;replace Bc:=sto Bc hW;replace Br:=sto Br hW;replace Bt:=sto Bt hW;replace hw:=stw hw hW;clear Fa Fb Fc Fr Ft;clear hW;try rw [rounds_succ]
 have FZ:=J5 Ba.f Bb.f Bc.f Br.f Bt.f;go_wp2_with fail;clear FZ;refine qC5 (k1 _) Ba Bb Bc Br Bt hw λw5 Ba Bb Bc Br Bt hw FZ=>?_;go_wp2_with fail;clear FZ;refine qK5 (r1 _) Ba Bb Bc Br Bt hw λw6 Ba Bb Bc Br Bt hw=>?_;have Fa:=Ba.f;have Fb:=Bb.f;have Fc:=Bc.f;have Fr:=Br.f;have Ft:=Bt.f;go_wp2_with fail;refine zG λW7 hW=>?_;replace Ba:=sto Ba hW;replace Bb:=sto Bb hW;replace Bc:=sto Bc hW;replace Br:=sto Br hW;replace Bt:=sto Bt hW;replace hw:=stw hw hW;clear Fa Fb Fc Fr Ft;clear hW;try rw [rounds_succ]
 have FZ:=J5 Ba.f Bb.f Bc.f Br.f Bt.f;go_wp2_with fail;clear FZ;refine qC5 (k2 _) Ba Bb Bc Br Bt hw λw8 Ba Bb Bc Br Bt hw FZ=>?_;go_wp2_with fail;clear FZ;refine qK5 (co _) Ba Bb Bc Br Bt hw λw9 Ba Bb Bc Br Bt hw=>?_;have Fa:=Ba.f;have Fb:=Bb.f;have Fc:=Bc.f;have Fr:=Br.f;have Ft:=Bt.f;go_wp2_with fail;refine zI λW10 hW=>?_;replace Ba:=sto Ba hW;replace Bb:=sto Bb hW;replace Bc:=sto Bc hW;replace Br:=sto Br hW;replace Bt:=sto Bt hW;replace hw:=stw hw hW;clear Fa Fb Fc Fr Ft;clear hW;refine qK5 (cv _) Ba Bb Bc Br Bt hw λw11 Ba Bb Bc Br Bt hw=>?_;have Fa:=Ba.f;have Fb:=Bb.f;have Fc:=Bc.f;have Fr:=Br.f;have Ft:=Bt.f;go_wp2_with fail;refine bodyPost_ret (v:=.tuple #[.agg #[c.x,c.y,b.x,b.y,a.x,a.y],.bool true]) (by simp [results,results34,go_sem,Fr]) rfl ⟨rfl,by have hl:=hw.size;go_grown⟩
theorem tmake_p2 (a b c:Pt) (l0:lds ⟨a,b,c⟩=false) (l1:lds ⟨b,c,a⟩=false) (l2:lds ⟨c,a,b⟩=true) (ho:decide (ori c a b < 0)=false) (hv:valT ⟨c,a,b⟩=true) (w:World):Calls prog 34 #[a,b,c] w (Rt w (.tuple #[.agg #[c.x,c.y,a.x,a.y,b.x,b.y],.bool true])):=by
 have k0:=y8 ⟨a,b,c⟩;rw [l0] at k0;dsimp only at k0;have r0:=yk ⟨a,b,c⟩;dsimp only at r0;have k1:=y8 ⟨b,c,a⟩;rw [l1] at k1;dsimp only at k1;have r1:=yk ⟨b,c,a⟩;dsimp only at r1;have k2:=y8 ⟨c,a,b⟩;rw [l2] at k2;dsimp only at k2;have co:=zJ c a b;have cv:=yH ⟨c,a,b⟩;rw [hv] at cv;dsimp only at cv;generalize ori c a b=n at *
 clear hv l0 l1 l2
 go_enter func34,ntmps34
 go_wp2_with fail;refine qD5 λW1 Ba Bb Bc Br Bt hw=>?_;refine wp_loop_rounds 4 ?_;try rw [rounds_succ]
 have FZ:=J5 Ba.f Bb.f Bc.f Br.f Bt.f;go_wp2_with fail;clear FZ;refine qC5 (k0 _) Ba Bb Bc Br Bt hw λw2 Ba Bb Bc Br Bt hw FZ=>?_;go_wp2_with fail;clear FZ;refine qK5 (r0 _) Ba Bb Bc Br Bt hw λw3 Ba Bb Bc Br Bt hw=>?_;have Fa:=Ba.f;have Fb:=Bb.f;have Fc:=Bc.f;have Fr:=Br.f;have Ft:=Bt.f;go_wp2_with fail;refine zG λW4 hW=>?_;replace Ba:=sto Ba hW;replace Bb:=sto Bb hW;replace Bc:=sto Bc hW;replace Br:=sto Br hW;replace Bt:=sto Bt hW;replace hw:=stw hw hW;clear Fa Fb Fc Fr Ft;clear hW;try rw [rounds_succ]
 have FZ:=J5 Ba.f Bb.f Bc.f Br.f Bt.f;go_wp2_with fail;clear FZ;refine qC5 (k1 _) Ba Bb Bc Br Bt hw λw5 Ba Bb Bc Br Bt hw FZ=>?_;go_wp2_with fail;clear FZ;refine qK5 (r1 _) Ba Bb Bc Br Bt hw λw6 Ba Bb Bc Br Bt hw=>?_;have Fa:=Ba.f;have Fb:=Bb.f;have Fc:=Bc.f;have Fr:=Br.f;have Ft:=Bt.f;go_wp2_with fail;refine zG λW7 hW=>?_;replace Ba:=sto Ba hW;replace Bb:=sto Bb hW;replace Bc:=sto Bc hW;replace Br:=sto Br hW;replace Bt:=sto Bt hW;replace hw:=stw hw hW;clear Fa Fb Fc Fr Ft;clear hW;try rw [rounds_succ]
 have FZ:=J5 Ba.f Bb.f Bc.f Br.f Bt.f;go_wp2_with fail;clear FZ;refine qC5 (k2 _) Ba Bb Bc Br Bt hw λw8 Ba Bb Bc Br Bt hw FZ=>?_;go_wp2_with fail;clear FZ;refine qC5 (co _) Ba Bb Bc Br Bt hw λw9 Ba Bb Bc Br Bt hw FZ=>?_;go_wp2_with fail;clear FZ;refine qK5 (cv _) Ba Bb Bc Br Bt hw λw10 Ba Bb Bc Br Bt hw=>?_;have Fa:=Ba.f;have Fb:=Bb.f;have Fc:=Bc.f;have Fr:=Br.f;have Ft:=Bt.f;go_wp2_with fail;refine bodyPost_ret (v:=.tuple #[.agg #[c.x,c.y,a.x,a.y,b.x,b.y],.bool true]) (by simp [results,results34,go_sem,Fr]) rfl ⟨rfl,by have hl:=hw.size;go_grown⟩
theorem tmake_z2 (a b c:Pt) (l0:lds ⟨a,b,c⟩=false) (l1:lds ⟨b,c,a⟩=false) (l2:lds ⟨c,a,b⟩=true) (ho:decide (ori c a b < 0)=false) (hv:valT ⟨c,a,b⟩=false) (w:World):Calls prog 34 #[a,b,c] w (Rt w (.tuple #[.agg #[(),(),(),(),(),()],.bool false])):=by
 have k0:=y8 ⟨a,b,c⟩;rw [l0] at k0;dsimp only at k0;have r0:=yk ⟨a,b,c⟩;dsimp only at r0;have k1:=y8 ⟨b,c,a⟩;rw [l1] at k1;dsimp only at k1;have r1:=yk ⟨b,c,a⟩;dsimp only at r1;have k2:=y8 ⟨c,a,b⟩;rw [l2] at k2;dsimp only at k2;have co:=zJ c a b;have cv:=yH ⟨c,a,b⟩;rw [hv] at cv;dsimp only at cv;generalize ori c a b=n at *
 clear hv l0 l1 l2
 go_enter func34,ntmps34
 go_wp2_with fail;refine qD5 λW1 Ba Bb Bc Br Bt hw=>?_;refine wp_loop_rounds 4 ?_;try rw [rounds_succ]
 have FZ:=J5 Ba.f Bb.f Bc.f Br.f Bt.f;go_wp2_with fail;clear FZ;refine qC5 (k0 _) Ba Bb Bc Br Bt hw λw2 Ba Bb Bc Br Bt hw FZ=>?_;go_wp2_with fail;clear FZ;refine qK5 (r0 _) Ba Bb Bc Br Bt hw λw3 Ba Bb Bc Br Bt hw=>?_;have Fa:=Ba.f;have Fb:=Bb.f;have Fc:=Bc.f;have Fr:=Br.f;have Ft:=Bt.f;go_wp2_with fail;refine zG λW4 hW=>?_;replace Ba:=sto Ba hW;replace Bb:=sto Bb hW;replace Bc:=sto Bc hW;replace Br:=sto Br hW;replace Bt:=sto Bt hW;replace hw:=stw hw hW;clear Fa Fb Fc Fr Ft;clear hW;try rw [rounds_succ]
 have FZ:=J5 Ba.f Bb.f Bc.f Br.f Bt.f;go_wp2_with fail;clear FZ;refine qC5 (k1 _) Ba Bb Bc Br Bt hw λw5 Ba Bb Bc Br Bt hw FZ=>?_;go_wp2_with fail;clear FZ;refine qK5 (r1 _) Ba Bb Bc Br Bt hw λw6 Ba Bb Bc Br Bt hw=>?_;have Fa:=Ba.f;have Fb:=Bb.f;have Fc:=Bc.f;have Fr:=Br.f;have Ft:=Bt.f;go_wp2_with fail;refine zG λW7 hW=>?_;replace Ba:=sto Ba hW;replace Bb:=sto Bb hW;replace Bc:=sto Bc hW;replace Br:=sto Br hW;replace Bt:=sto Bt hW;replace hw:=stw hw hW;clear Fa Fb Fc Fr Ft;clear hW;try rw [rounds_succ]
 have FZ:=J5 Ba.f Bb.f Bc.f Br.f Bt.f;go_wp2_with fail;clear FZ;refine qC5 (k2 _) Ba Bb Bc Br Bt hw λw8 Ba Bb Bc Br Bt hw FZ=>?_;go_wp2_with fail;clear FZ;refine qC5 (co _) Ba Bb Bc Br Bt hw λw9 Ba Bb Bc Br Bt hw FZ=>?_;go_wp2_with fail;clear FZ;refine qK5 (cv _) Ba Bb Bc Br Bt hw λw10 Ba Bb Bc Br Bt hw=>?_;have Fa:=Ba.f;have Fb:=Bb.f;have Fc:=Bc.f;have Fr:=Br.f;have Ft:=Bt.f;go_wp2_with fail;refine bodyPost_ret (v:=.tuple #[.agg #[(),(),(),(),(),()],.bool false]) (by simp [results,results34,go_sem,Fr]) rfl ⟨rfl,by have hl:=hw.size;go_grown⟩
end
section
open Go.RowKit Go.Sort
attribute [local go_sem] rOper rAt rUpon cell_set sg_i64 sg_u64 alloc_cell alloc_frozen
attribute [local go_sem 10000] pt_eql pt_neq
attribute [local irreducible] rWalk
theorem KT {p q:Pt}:leq p q=true↔p.x < q.x\/(p.x=q.x/\p.y<=q.y):=by
 unfold leq cmpP cmpN sgn;rw [JA]
 (repeat' split) <;> omega
theorem KU {T:Tri3}:lds T=true↔(T.A.x < T.B.x\/(T.A.x=T.B.x/\T.A.y<=T.B.y))/\(T.A.x < T.C.x\/(T.A.x=T.C.x/\T.A.y<=T.C.y)):=by
 unfold lds;rw [JB,KT,KT]
theorem lead_some (a b c:Pt) (h1:lds ⟨a,b,c⟩=false) (h2:lds ⟨b,c,a⟩=false):lds ⟨c,a,b⟩=true:=by
 rw [<-QO,KU] at h1 h2;rw [KU];simp only at h1 h2 ⊢;omega
theorem KP {x y z:Pt} (hx:vld x) (hy:vld y) (hz:vld z) (n1:key x≠key y) (n2:key x≠key z) (n3:key y≠key z):mkT y z x=mkT x y z:=by
 rcases kG hx hy hz n1 n2 n3 with ⟨u1,u2,e⟩ | ⟨u1,u2,e⟩ | ⟨u1,u2,e⟩ <;> rcases kG hy hz hx n3 n1.symm n2.symm with ⟨v1,v2,f⟩ | ⟨v1,v2,f⟩ | ⟨v1,v2,f⟩ <;> first | (exfalso;omega) | rw [e,f]
theorem Zt {a b c:Pt} (h:ori a b c=0):mk a b c=⟨⟨0,0⟩,⟨0,0⟩,⟨0,0⟩⟩:=by unfold mk;rw [JH h]
theorem Yz {a b c:Pt} (h0:¬ ori a b c=0):vld a=true/\vld b=true/\vld c=true/\key a≠key b/\key a≠key c/\key b≠key c:=by
 obtain ⟨va,vb,vc⟩:=yz h0;obtain ⟨d1,d2,d3⟩:=yf h0;exact ⟨va,vb,vc,λh=>d1 (yj va vb h).symm,λh=>d2 (yj va vc h).symm,λh=>d3 (yj vb vc h).symm⟩
theorem ZH (a b c:Pt):mk b c a=mk a b c:=by
 by_cases h0:ori a b c=0
 ·rw [Zt h0,Zt (by rw [yi];exact h0)]
 ·obtain ⟨va,vb,vc,n1,n2,n3⟩:=Yz h0;unfold mk;rw [yi,J0 h0,J0 h0,KP va vb vc n1 n2 n3,KP vb va vc n1.symm n3 n2]
theorem mk_swap (a b c:Pt):mk a c b=mk a b c:=by
 have hb:=y6 a b c;unfold mk;rw [kF];by_cases h0:ori a b c=0
 ·simp [h0]
 ·rw [J0 h0,J0 (by omega)];by_cases h1:ori a b c=1
  ·rw [JH h1,J0 (by omega)]
  ·rw [J0 h1,JH (by omega)]
theorem val_mk {x y z:Pt} (h:valT ⟨x,y,z⟩=true):mk x y z=⟨x,y,z⟩:=by
 unfold valT at h;simp only [JB,k9] at h;exact h.2
theorem val_of {x y z:Pt} (ho:0 < ori x y z) (hl:lds ⟨x,y,z⟩=true):valT ⟨x,y,z⟩=true:=by
 rw [Z3];unfold valS;simp [ho,hl]
theorem val_none {x y z:Pt} (ho:ori x y z=0):valT ⟨x,y,z⟩=false:=by
 rw [Z3];unfold valS;simp [ho]
theorem lds_swap {x y z:Pt} (hl:lds ⟨x,y,z⟩=true):lds ⟨x,z,y⟩=true:=by
 unfold lds at hl ⊢;simp only at hl ⊢;rw [Bool.and_comm];exact hl
theorem ori_swap2' (x y z:Pt):ori x z y = -ori x y z:=kF x y z
theorem vw (a b c:Pt) (w:World):Calls prog 34 #[a,b,c] w (Rt w (.tuple #[.agg #[.int .i64 (mk a b c).A.x,.int .i64 (mk a b c).A.y,.int .i64 (mk a b c).B.x,.int .i64 (mk a b c).B.y,.int .i64 (mk a b c).C.x,.int .i64 (mk a b c).C.y],.bool (!decide (ori a b c=0))])):=by
 have main : ∀ {x y z : Pt}, ori x y z = ori a b c -> mk x y z = mk a b c -> lds ⟨x, y, z⟩ = true ->
     (ori x y z=0/\decide (ori x y z < 0)=false/\valT ⟨x,y,z⟩=false/\mk a b c=⟨⟨0,0⟩,⟨0,0⟩,⟨0,0⟩⟩/\(!decide (ori a b c=0))=false) \/
     (decide (ori x y z < 0)=false/\valT ⟨x,y,z⟩=true/\mk a b c=⟨x,y,z⟩/\(!decide (ori a b c=0))=true) \/
     (decide (ori x y z < 0)=true/\valT ⟨x,z,y⟩=true/\mk a b c=⟨x,z,y⟩/\(!decide (ori a b c=0))=true):=by
  intro x y z e1 e2 hl;by_cases h0:ori x y z=0
  ·left
   exact ⟨h0,by simp [h0],val_none h0,by rw [<-e2];exact Zt h0,by rw [<-e1];simp [h0]⟩
  ·right
   by_cases h1:ori x y z < 0
   ·right
    have hv:valT ⟨x,z,y⟩=true:=val_of (by rw [ori_swap2'];omega) (lds_swap hl);exact ⟨by simp [h1],hv,by rw [<-e2,<-mk_swap];exact val_mk hv,by rw [<-e1];simp [h0]⟩
   ·left
    have hv:valT ⟨x,y,z⟩=true:=val_of (by omega) hl;exact ⟨by simp;omega,hv,by rw [<-e2];exact val_mk hv,by rw [<-e1];simp [h0]⟩
 cases l0:lds ⟨a,b,c⟩ with
 | true=>
  rcases main (x:=a) (y:=b) (z:=c) rfl rfl l0 with ⟨_,p,q,e,f⟩ | ⟨p,q,e,f⟩ | ⟨p,q,e,f⟩ <;> rw [e,f]
  ·exact tmake_z0 a b c l0 p q w
  ·exact tmake_p0 a b c l0 p q w
  ·exact tmake_n0 a b c l0 p q w
 | false=>cases l1:lds ⟨b,c,a⟩ with
  | true=>
   rcases main (x:=b) (y:=c) (z:=a) (yi a b c) (ZH a b c) l1 with ⟨_,p,q,e,f⟩ | ⟨p,q,e,f⟩ | ⟨p,q,e,f⟩ <;> rw [e,f]
   ·exact tmake_z1 a b c l0 l1 p q w
   ·exact tmake_p1 a b c l0 l1 p q w
   ·exact tmake_n1 a b c l0 l1 p q w
  | false=>
   have l2:=lead_some a b c l0 l1;rcases main (x:=c) (y:=a) (z:=b) (by rw [yi,yi]) (by rw [ZH,ZH]) l2 with ⟨_,p,q,e,f⟩ | ⟨p,q,e,f⟩ | ⟨p,q,e,f⟩ <;> rw [e,f]
   ·exact tmake_z2 a b c l0 l1 l2 p q w
   ·exact tmake_p2 a b c l0 l1 l2 p q w
   ·exact tmake_n2 a b c l0 l1 l2 p q w
theorem mk_ok {a b c:Pt} (h0:¬ ori a b c=0):valT (mk a b c)=true/\(mk a b c=⟨a,b,c⟩\/mk a b c=⟨b,c,a⟩\/mk a b c=⟨c,a,b⟩\/mk a b c=⟨a,c,b⟩\/mk a b c=⟨c,b,a⟩\/mk a b c=⟨b,a,c⟩):=by
 obtain ⟨va,vb,vc,n1,n2,n3⟩:=Yz h0;have hb:=y6 a b c;rw [Z3];unfold valS lds;by_cases h1:ori a b c=1
 ·have e0:mk a b c=mkT a b c:=by unfold mk;rw [J0 h0,JH h1]
  rw [e0];rcases kG va vb vc n1 n2 n3 with ⟨x1,x2,e⟩ | ⟨x1,x2,e⟩ | ⟨x1,x2,e⟩ <;> rw [e] <;> simp only
  ·rw [xA va vb,xA va vc];refine ⟨?_,by simp⟩;simp only [JB,JA];omega
  ·rw [yi,xA vb vc,xA vb va];refine ⟨?_,by simp⟩;simp only [JB,JA];omega
  ·rw [yi,yi,xA vc va,xA vc vb];refine ⟨?_,by simp⟩;simp only [JB,JA];omega
 ·have e0:mk a b c=mkT a c b:=by unfold mk;rw [J0 h0,J0 h1]
  have h2:ori a c b=1:=by rw [kF];omega
  rw [e0];rcases kG va vc vb n2 n1 n3.symm with ⟨x1,x2,e⟩ | ⟨x1,x2,e⟩ | ⟨x1,x2,e⟩ <;> rw [e] <;> simp only
  ·rw [xA va vb,xA va vc];refine ⟨?_,by simp⟩;simp only [JB,JA];omega
  ·rw [yi,xA vc vb,xA vc va];refine ⟨?_,by simp⟩;simp only [JB,JA];omega
  ·rw [yi,yi,xA vb va,xA vb vc];refine ⟨?_,by simp⟩;simp only [JB,JA];omega
theorem k8 {T:Tri3} (h:valT T):vld T.A=true/\vld T.B=true/\vld T.C=true/\0 < det T.A T.B T.C:=by
 obtain ⟨va,vb,vc⟩:=valT_vld h;rw [Z3] at h;unfold valS at h;simp only [JB,JA] at h;have h1:=h.1;rw [ori_v va vb vc] at h1;have:=zL (det T.A T.B T.C);exact ⟨va,vb,vc,by omega⟩
theorem qn (a b c p:Pt):det a b p+det b c p+det c a p=det a b c:=by unfold det;grind
theorem corner0 {a b c:Pt} (p:Pt) (hD:0 < det a b c):p=a↔det a b p=0/\det c a p=0:=by
 constructor
 ·intro h;subst h;constructor <;> (unfold det;grind)
 ·intro ⟨h1,h2⟩;have e1:det a b c * (p.x - a.x)=det c a p * (b.x - a.x)+det a b p * (c.x - a.x):=by unfold det;grind
  have e2:det a b c * (p.y - a.y)=det c a p * (b.y - a.y)+det a b p * (c.y - a.y):=by unfold det;grind
  rw [h1,h2] at e1 e2;simp only [Jn,VA] at e1 e2;rw [Pt.eq_iff];rcases JF.1 e1 with h | h
  ·omega
  ·rcases JF.1 e2 with h' | h'
   ·omega
   ·omega
theorem tb {a b c:Pt} (ha:vld a) (hb:vld b) (hc:vld c) : -562949886312450<=det a b c/\det a b c<=562949886312450:=by
 have:=cr_bd (qp ha hb) (qp ha hc);exact this
theorem Ks {a b p:Pt} (va:vld a) (vb:vld b) (vp:vld p):(0 < ori a b p↔0 < det a b p)/\(0<=ori a b p↔0<=det a b p)/\(ori a b p=0↔det a b p=0):=by
 rw [ori_v va vb vp];have:=zL (det a b p);omega
end
end Go.Proofs.YthhcehmmglmlfaaGreat
