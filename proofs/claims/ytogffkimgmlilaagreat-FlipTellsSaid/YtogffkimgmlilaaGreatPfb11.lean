/- Put together: Stl, TrB, Alike, MesB, MesC, MesD, MesE, MesF. -/
import Derived.Test.YtogffkimgmlilaaGreatPfb10
import Derived.Laws.Cover3
import Derived.Maps.OwnOps
set_option maxRecDepth 100000
set_option maxHeartbeats 8000000
set_option linter.all false
namespace Go.Proofs.YtogffkimgmlilaaGreat
open Go.RowKit Go.Sort _root_.Go.Proofs.Tryz
theorem walk_to {P:Program} {ops:Array Oper} {A:Act} {R:Act→Prop} (k:R A):∀ (L:List Oper) (b:Act) (C:World→Prop),rWalk P ops C (fun a'=>a'=A) L b→rWalk P ops C R L b:=by
 intro L;induction L with
 | nil=>intro b C h;simp only [rWalk] at h ⊢;rw [h];exact k
 | cons o rest ih=>
  intro b C h;simp only [rWalk] at h ⊢;split
  ·rename_i hw
   rw [jAc hw] at h;obtain ⟨v,h1,h2⟩:=h;exact ⟨v,h1,ih _ _ h2⟩
  ·rename_i hw
   rw [jA0 hw] at h;exact ih _ _ h
theorem rgl {P : Program} {id : Nat} {Q : Exit → Act → World → Prop} {a A : Act} {w : World} {l r : List Oper} {c0 c1 c2 c3 c4 c5 : Value} {T : TypeId} {oj os : Oper} (m : Nat) (d t : Tmp)
    (k:∀ w' b,Below w w w'→w.heap.size≤b→b < w'.heap.size→Box w' b [c0,c1,c2,c3,c4,c5] T→wpList P l.toArray Q r (A.put (some d) (.pointer (some ⟨b,0,none⟩))) w')
    (hoj:l.toArray[m]? = some oj:=by rfl) (hos:l.toArray[m+1]? = some os:=by rfl) (hjd:oj.dst=some d:=by rfl) (hafter:oj.after=#[]:=by rfl) (hguard:oj.guard=none:=by rfl) (hsd:os.dst=none:=by rfl) (hsg:os.guard=none:=by rfl)
    (hdsz:d < a.tmps.size:=by simp)
    (hrun:∀ (ρ:Operand→Value) (w:World),(execOp ρ oj).run P w=.ok (.value (.pointer (some ⟨w,0,none⟩))) (w.alloc (.cells #[(),(),(),(),(),()] T)):=by (intro ρ W;simp [execOp,go_sem];rfl))
    (hm:P.follows .mixedOrders=true:=by kernel_rfl) (hB:lateB .any l.toArray (m+2) m (m+1) d t=true:=by as_aux_lemma=>kernel_rfl)
    (hr:l.drop (m+2)=r:=by (simp only [dP1,dP0];try rfl))
    (h:rWalk P l.toArray (fun w'=>∃ p:Regrown,w'=grow (redrawn w p.d) p.os) (fun a'=>a'=A) (l.take m) a:=by
     simp only [jBf,jCg];repeat (first | (refine zA7 (Eq.refl false) ?_;simp only [Act.put,sT2,sT1,sT0]) | (refine rWalk_step (fun K hK=>?_);go_simp;first | (refine hK _ ?_;clear hK K) | (apply Exists.intro;refine ⟨fun _=>?_,hK _ ?_⟩;(with_reducible exact toExt (by assumption) _);clear hK K)))
     exact rWalk_nil rfl)
    (he:A.eval (.tmp t)=.agg #[c0,c1,c2,c3,c4,c5]:=by rfl)
    (hst:∀ (ρ:Operand→Value) (w:World) (b:Nat),ρ (.tmp d)=.pointer (some ⟨b,0,none⟩)→ρ (.tmp t)=.agg #[c0,c1,c2,c3,c4,c5]→Box w b [(),(),(),(),(),()] T→(execOp ρ os).run P w=.ok .skip (eff6 c0 c1 c2 c3 c4 c5 b w):=by
     (intro ρ W b e1 e2 hB;obtain ⟨x,y,_,_⟩:=hB.f;simp [execOp,go_sem,e1,e2,x,y,eff6])):(Code.region id l.toArray true).wp P Q a w:=
 zC7 m d t [c0,c1,c2,c3,c4,c5] (zs:=[(),(),(),(),(),()]) (eff:=eff6 c0 c1 c2 c3 c4 c5) zI4 hoj hos hjd hafter hguard hsd hsg hdsz hrun hm hB rgB
  (walk_to (A:=A) ⟨he,fun w' b h1 h2 h3 h4=>by rw [hr];exact k w' b h1 h2 h3 h4⟩ _ _ _ h) hst
section
attribute [local go_sem] rOper rAt rUpon cell_set sg_i64 sg_u64 alloc_cell alloc_frozen
attribute [local go_sem 10000] pt_eql pt_neq tri_eql
attribute [local irreducible] rWalk
theorem zN2 (T:Tri3) (i:Int) (w:World):Calls prog 83 #[T,i] w (Rt w (.tuple #[.agg #[.int .i64 (crn T i).x,.int .i64 (crn T i).y],.agg #[.int .i64 (crn T (i+1)).x,.int .i64 (crn T (i+1)).y]])):=by
 have cp:=zFn i;have d1:=zEr T (plc i);have d2:=zEr T (plc i+1);rw [crn_plc] at d1;rw [crn_next] at d2;have hk:=zHn i;have hq:wrap64 (plc i+1)=plc i+1:=by rw [w64];omega
 have hq2:IntKind.i64.wrap (plc i+1)=plc i+1:=by rw [IntKind.wrap_i64];omega
 generalize crn T i=P at *
 generalize crn T (i+1)=Q at *
 generalize plc i=k at *
 clear hk
 go_enter func83,ntmps83
 go_wp2_with fail;refine qE3 fun W1 Bt Br Bq hw=>?_;refine qK3 (cp _) Bt Br Bq hw fun w2 Bt Br Bq hw=>?_;have Ft:=Bt.f;have Fr:=Br.f;have Fq:=Bq.f;go_wp2_with fail;refine zA1 fun W9 hW=>?_;subst hW;clear Ft Fr Fq;have g_trq:=J3 Bt.cells Br.cells Bq.cells;refine rgn 7 (fun w3 hb=>?_);clear g_trq;obtain ⟨Bt,Br,Bq,hw,-⟩:=qX3 Bt Br Bq hw hb;have Ft:=Bt.f;have Fr:=Br.f;have Fq:=Bq.f;go_wp2_with fail;refine bodyPost_ret (v:=.tuple #[P,Q]) (by simp [results,results83,go_sem,Fr,Fq]) rfl ⟨rfl,by have hl:=hw.size;go_grown⟩
def mn3 (x y z:Int):Int:=if z < (if y < x then y else x) then z else (if y < x then y else x)
theorem run_mn3 {P:Program} (w:World) (ts:Array TypeId) (t:TypeId) (k k' k'':IntKind) (x y z:Int):(Builtin.min_ ts t #[.int k x,.int k' y,.int k'' z]).run P w=.ok (.int k (mn3 x y z)) w:=run_min_int3 w ts t k k' k'' x y z
attribute [local go_sem 10000] run_mn3
def sde (T:Tri3) (p:Pt):Int:=mn3 (ori T.A T.B p) (ori T.B T.C p) (ori T.C T.A p)
def hasS (T:Tri3) (p:Pt):Bool:=valT T && (vld p && decide (0≤sde T p))
end
section
attribute [local go_sem] rOper rAt rUpon cell_set sg_i64 sg_u64 alloc_cell alloc_frozen
attribute [local go_sem 10000] pt_eql pt_neq tri_eql
attribute [local irreducible] rWalk
theorem tri_neq (s u:Tri3) (w:World):(binOp .neq 56 (.agg #[s.A.x,s.A.y,s.B.x,s.B.y,s.C.x,s.C.y]) (.agg #[u.A.x,u.A.y,u.B.x,u.B.y,u.C.x,u.C.y])).run prog w=.ok (.bool (!teq s u)) w:=by
 unfold teq peqI;by_cases h1:s.A.x=u.A.x
 case neg=>simp [go_sem,h1]
 case pos=>
 by_cases h2:s.A.y=u.A.y
 case neg=>simp [go_sem,h1,h2]
 case pos=>
 by_cases h3:s.B.x=u.B.x
 case neg=>simp [go_sem,h1,h2,h3]
 case pos=>
 by_cases h4:s.B.y=u.B.y
 case neg=>simp [go_sem,h1,h2,h3,h4]
 case pos=>
 by_cases h5:s.C.x=u.C.x
 case neg=>simp [go_sem,h1,h2,h3,h4,h5]
 case pos=>
 by_cases h6:s.C.y=u.C.y
 ·simp [go_sem,h1,h2,h3,h4,h5,h6]
 ·simp [go_sem,h1,h2,h3,h4,h5,h6]
attribute [local go_sem 10000] tri_neq
theorem alike_T (a1 a2:Option Addr) (c1 c2:Nat) (L1 L2:List Tri3) (w:World) (h1:RowAt cT 6 w a1 L1) (h2:RowAt cT 6 w a2 L2) (hl1:L1.length≤1000000):Calls prog 17 #[.slice a1 L1.length c1,.slice a2 L2.length c2] w (Rt w (.bool (decide (L1=L2)))):=by
 by_cases hl:L1.length=L2.length
 case neg=>
  have hne:L1≠L2:=fun e=>hl (by rw [e]);have hd:decide (L1=L2)=false:=by simpa using hne
  rw [hd];have hb2:((L1.length:Int) != L2.length)=true:=by rw [jF8];omega
  clear h1 h2 hne hd;generalize L1.length=n1 at *
  generalize L2.length=n2 at *
  go_enter func17,ntmps17
  go_wp2
  go_ret
  exact ⟨rfl,Below.refl _ _⟩
 case pos=>
  obtain ⟨n,hn1⟩:∃ n,L1.length=n:=⟨_,rfl⟩;have hn2:L2.length=n:=by rw [←hl,hn1]
  have hb2:((n:Int) != n)=false:=by simp
  rw [hn1,hn2];have hn:n≤1000000:=hn1▸hl1;have H1:=hdd hn1;have H2:=hdd hn2;clear hn1 hn2 hl hl1
  go_enter func17,ntmps17
  go_wp2
  go_loopw [5] (fun i wr=>∃ k:Nat,k≤n∧i=.int .i64 k∧Hid (L1.take k=L2.take k)∧Below w w wr) (fun i _=>n - (intOf i).toNat)
  case atStart=>exact ⟨0,jAt _,rfl,hdd rfl,Below.refl _ _⟩
  case round=>
   obtain ⟨k,hk,rfl,hT,hw⟩:=hrel;by_cases hlt:k < n
   ·have r1:=h1.ee hw;have r2:=h2.ee hw;obtain ⟨ad1,A1,ea1,eA1,_,_,q0,q1,q2,q3,q4,q5⟩:=r1.tri (j:=k) (by rw [H1.out];exact hlt);obtain ⟨ad2,A2,ea2,eA2,_,_,p0,p1,p2,p3,p4,p5⟩:=r2.tri (j:=k) (by rw [H2.out];exact hlt);clear r1 r2;have e1:L1[k]'(by rw [H1.out];exact hlt)=L1[k]'(by rw [H1.out];exact hlt):=rfl;by_cases he:L1[k]'(by rw [H1.out];exact hlt)=L2[k]'(by rw [H2.out];exact hlt)
    ·have hd:teq (L1[k]'(by rw [H1.out];exact hlt)) (L2[k]'(by rw [H2.out];exact hlt))=true:=zE8.2 he;have HE:=hdd he;clear he e1;go_wp2
     go_quiet (fail)
     go_wp2
     go_roundw
     case rel => 
      refine ⟨k+1,by omega,by go_num,Lib.hid ?_,?_⟩
      ·rw [jAb (by rw [H1.out];exact hlt),jAb (by rw [H2.out];exact hlt),hT.out,HE.out]
      ·exact hw.trans ⟨rfl,rfl,rfl,jA9 _,fun _ _=>rfl⟩
     case measure=>simp [intOf];omega
    ·have hd:teq (L1[k]'(by rw [H1.out];exact hlt)) (L2[k]'(by rw [H2.out];exact hlt))=false:=by rw [←jBl,zE8];exact he
     have hne:decide (L1=L2)=false:=by rw [jC3];intro e;subst e;exact he rfl
     have HN:=hdd hne;clear he e1 hne;go_wp2
     go_quiet (fail)
     go_wp2
     go_ret
     exact ⟨zB9 HN.out.symm,hw.trans ⟨rfl,rfl,rfl,jA9 _,fun _ _=>rfl⟩⟩
   ·have he : L1 = L2 := by
      have:=hT.out
      rwa [jAe (by rw [H1.out];omega),jAe (by rw [H2.out];omega)] at this
    have hd:decide (L1=L2)=true:=by simpa using he
    have HN:=hdd hd;clear he hd;go_wp2
    go_ret
    exact ⟨zB9 HN.out.symm,hw⟩
theorem zBe {p q:Pt}:peqI p.x p.y q.x q.y=true↔p=q:=zC9.trans Pt.eq_iff.symm
theorem alike_P (a1 a2:Option Addr) (c1 c2:Nat) (L1 L2:List Pt) (w:World) (h1:RowAt cP 2 w a1 L1) (h2:RowAt cP 2 w a2 L2) (hl1:L1.length≤1000000):Calls prog 23 #[.slice a1 L1.length c1,.slice a2 L2.length c2] w (Rt w (.bool (decide (L1=L2)))):=by
 by_cases hl:L1.length=L2.length
 case neg=>
  have hne:L1≠L2:=fun e=>hl (by rw [e]);have hd:decide (L1=L2)=false:=by simpa using hne
  rw [hd];have hb2:((L1.length:Int) != L2.length)=true:=by rw [jF8];omega
  clear h1 h2 hne hd;generalize L1.length=n1 at *
  generalize L2.length=n2 at *
  go_enter func23,ntmps23
  go_wp2
  go_ret
  exact ⟨rfl,Below.refl _ _⟩
 case pos=>
  obtain ⟨n,hn1⟩:∃ n,L1.length=n:=⟨_,rfl⟩;have hn2:L2.length=n:=by rw [←hl,hn1]
  have hb2:((n:Int) != n)=false:=by simp
  rw [hn1,hn2];have hn:n≤1000000:=hn1▸hl1;have H1:=hdd hn1;have H2:=hdd hn2;clear hn1 hn2 hl hl1
  go_enter func23,ntmps23
  go_wp2
  go_loopw [5] (fun i wr=>∃ k:Nat,k≤n∧i=.int .i64 k∧Hid (L1.take k=L2.take k)∧Below w w wr) (fun i _=>n - (intOf i).toNat)
  case atStart=>exact ⟨0,jAt _,rfl,hdd rfl,Below.refl _ _⟩
  case round=>
   obtain ⟨k,hk,rfl,hT,hw⟩:=hrel;by_cases hlt:k < n
   ·have r1:=h1.ee hw;have r2:=h2.ee hw;obtain ⟨ad1,A1,ea1,eA1,_,_,q0,q1⟩:=r1.pt (j:=k) (by rw [H1.out];exact hlt);obtain ⟨ad2,A2,ea2,eA2,_,_,p0,p1⟩:=r2.pt (j:=k) (by rw [H2.out];exact hlt);clear r1 r2;have e1:L1[k]'(by rw [H1.out];exact hlt)=L1[k]'(by rw [H1.out];exact hlt):=rfl;by_cases he:L1[k]'(by rw [H1.out];exact hlt)=L2[k]'(by rw [H2.out];exact hlt)
    ·have hd:peqI (L1[k]'(by rw [H1.out];exact hlt)).x (L1[k]'(by rw [H1.out];exact hlt)).y (L2[k]'(by rw [H2.out];exact hlt)).x (L2[k]'(by rw [H2.out];exact hlt)).y=true:=zBe.2 he;have HE:=hdd he;clear he e1;go_wp2
     go_quiet (fail)
     go_wp2
     go_roundw
     case rel => 
      refine ⟨k+1,by omega,by go_num,Lib.hid ?_,?_⟩
      ·rw [jAb (by rw [H1.out];exact hlt),jAb (by rw [H2.out];exact hlt),hT.out,HE.out]
      ·exact hw.trans ⟨rfl,rfl,rfl,jA9 _,fun _ _=>rfl⟩
     case measure=>simp [intOf];omega
    ·have hd:peqI (L1[k]'(by rw [H1.out];exact hlt)).x (L1[k]'(by rw [H1.out];exact hlt)).y (L2[k]'(by rw [H2.out];exact hlt)).x (L2[k]'(by rw [H2.out];exact hlt)).y=false:=by rw [←jBl,zBe];exact he
     have hne:decide (L1=L2)=false:=by rw [jC3];intro e;subst e;exact he rfl
     have HN:=hdd hne;clear he e1 hne;go_wp2
     go_quiet (fail)
     go_wp2
     go_ret
     exact ⟨zB9 HN.out.symm,hw.trans ⟨rfl,rfl,rfl,jA9 _,fun _ _=>rfl⟩⟩
   ·have he : L1 = L2 := by
      have:=hT.out
      rwa [jAe (by rw [H1.out];omega),jAe (by rw [H2.out];omega)] at this
    have hd:decide (L1=L2)=true:=by simpa using he
    have HN:=hdd hd;clear he hd;go_wp2
    go_ret
    exact ⟨zB9 HN.out.symm,hw⟩
end
section
attribute [local go_sem] rOper rAt rUpon cell_set sg_i64 sg_u64 alloc_cell alloc_frozen
attribute [local go_sem 10000] pt_eql pt_neq tri_eql
attribute [local irreducible] rWalk
theorem zAy (w:World):(zeroValue 56).run prog w=.ok (.agg #[(),(),(),(),(),()]) w:=by kernel_rfl
theorem HoldsMap.look_some {P:Program} {k e t:TypeId} {eK:Pt×Pt→Value} {ok:Pt×Pt→Prop} {w:World} {b:Nat} {E:List ((Pt×Pt)×Tri3)} (h:HoldsMap eK eT ok w b E) (V:KV P k e t eK ok) {z:Value} (hz:∀ w,(zeroValue e).run P w=.ok z w) {x:Pt×Pt} (hx:ok x) {v:Tri3} (hg:getE E x=some v):(Instr.lookup t (.map (some b)) (eK x) true).run P w=.ok (.tuple #[eT v,.bool true]) w:=by
 rw [h.look V (hz w) hx,hg]
theorem HoldsMap.look_none {P:Program} {k e t:TypeId} {eK:Pt×Pt→Value} {ok:Pt×Pt→Prop} {w:World} {b:Nat} {E:List ((Pt×Pt)×Tri3)} (h:HoldsMap eK eT ok w b E) (V:KV P k e t eK ok) {z:Value} (hz:∀ w,(zeroValue e).run P w=.ok z w) {x:Pt×Pt} (hx:ok x) (hg:getE E x=none):(Instr.lookup t (.map (some b)) (eK x) true).run P w=.ok (.tuple #[z,.bool false]) w:=by
 rw [h.look V (hz w) hx,hg]
def lftE (E:List ((Pt×Pt)×Tri3)) (p q:Pt):Tri3×Bool:=match getE E (p,q) with | some t=>(t,true) | none=>(⟨⟨0,0⟩,⟨0,0⟩,⟨0,0⟩⟩,false)
theorem lftE_some {E:List ((Pt×Pt)×Tri3)} {p q:Pt} {t:Tri3} (h:getE E (p,q)=some t):lftE E p q=(t,true):=by unfold lftE;rw [h]
theorem lftE_none {E:List ((Pt×Pt)×Tri3)} {p q:Pt} (h:getE E (p,q)=none):lftE E p q=(⟨⟨0,0⟩,⟨0,0⟩,⟨0,0⟩⟩,false):=by unfold lftE;rw [h]
theorem zLr (T:Tri3) (i:Int) (w:World):Calls prog 76 #[T,i] w (Rt w (.agg #[.int .i64 (crn T i).x,.int .i64 (crn T i).y,.int .i64 (crn T (i+1)).x,.int .i64 (crn T (i+1)).y])):=by
 have ce:=zN2 T i;generalize crn T i=P at *
 generalize crn T (i+1)=Q at *
 go_enter func76,ntmps76
 go_wp2_with fail;refine qE2 fun W1 Bt Br hw=>?_;refine qK2 (ce _) Bt Br hw fun w2 Bt Br hw=>?_;obtain ⟨xt,yt,zt,vt⟩:=Bt.f;obtain ⟨xr,yr,zr,vr⟩:=Br.f;go_wp2_with fail;refine bodyPost_ret (v:=.agg #[P.x,P.y,Q.x,Q.y]) (by simp [results,results76,go_sem,xr,zr,zt]) rfl ⟨rfl,by have hl:=hw.size;go_grown⟩
theorem zJt (mb b:Nat) (E:List ((Pt×Pt)×Tri3)) (p q:Pt) (T:Tri3) (hg:getE E (p,q)=some T) (hk:okW (p,q)) (w:World) (Bm:Box w mb [.map (some b)] 81) (Hm:HoldsMap eW eT okW w b E):Calls prog 22 #[pt0 mb,p,q] w (Rt w (.tuple #[T,.bool true])):=by
 go_enter func22,ntmps22
 go_wp2_with fail;refine qD3 fun W1 Bp Bq Br hw=>?_;have BM:Box W1 (mb) [.map (some b)] 81:=Bm.ee hw;have hl:∀ d os,(Instr.lookup 79 (.map (some b)) (.agg #[p.x,p.y,q.x,q.y]) true).run prog (grow (redrawn W1 d) os)=.ok (.tuple #[T,.bool true]) (grow (redrawn W1 d) os):=fun d os=>((Hm.ee hw).ext (below_regrown W1 d os) rfl).look_some kvM zAy hk hg;clear hg;have g_pqrM:=J4 Bp.cells Bq.cells Br.cells BM.cells;refine zC7 11 8 22 [T.A.x,T.A.y,T.B.x,T.B.y,T.C.x,T.C.y] (zs:=[(),(),(),(),(),()]) (eff:=eff6 (.int .i64 T.A.x) (.int .i64 T.A.y) (.int .i64 T.B.x) (.int .i64 T.B.y) (.int .i64 T.C.x) (.int .i64 T.C.y)) zI4 rfl rfl rfl rfl rfl rfl rfl (by simp) (fun ρ W=>by simp [execOp,go_sem];rfl) (by kernel_rfl) (by as_aux_lemma=>kernel_rfl) (C:=fun w'=>∃ p:Regrown,w'=grow (redrawn W1 p.d) p.os) rgB ?_ (fun ρ W b e1 e2 hB=>by obtain ⟨x,y,_,_⟩:=hB.f;simp [execOp,go_sem,e1,e2,x,y,eff6]);simp only [tK1,tK0,dP1,dP0];repeat (first | (refine zA7 (Eq.refl false) ?_;simp only [Act.put,sT2,sT1,sT0]) | (refine rWalk_step (fun K hK=>?_);go_simp;refine hK _ ?_;clear hK K))
 refine rWalk_nil ⟨rfl,?_⟩;intro w2 bks hb h1b h2b Bs;have lps:=Bp.lt;have lqs:=Bq.lt;have lrs:=Br.lt;have lMs:=BM.lt;have hw0z:=hw.size;clear g_pqrM;obtain ⟨Bp,Bq,Br,BM,hw,-⟩:=qX4 Bp Bq Br BM hw hb;have fs:=h1b;have hwz:w.heap.size≤W1.heap.size:=hw0z;clear hb h1b h2b hw0z;simp only [Act.put];clear hl;obtain ⟨xp,yp,zp,vp⟩:=Bp.f;obtain ⟨xq,yq,zq,vq⟩:=Bq.f;obtain ⟨xr,yr,zr,vr⟩:=Br.f;obtain ⟨xM,yM,zM,vM⟩:=BM.f;obtain ⟨xs,ys,zs,vs⟩:=Bs.f;go_wp2_with fail;refine bodyPost_ret (v:=.tuple #[T,.bool true]) (by simp [results,results22,go_sem,xr]) rfl ⟨rfl,by have hl:=hw.size;go_grown⟩
theorem zNo (mb b:Nat) (E:List ((Pt×Pt)×Tri3)) (p q:Pt) (hg:getE E (p,q)=none) (hk:okW (p,q)) (w:World) (Bm:Box w mb [.map (some b)] 81) (Hm:HoldsMap eW eT okW w b E):Calls prog 22 #[pt0 mb,p,q] w (Rt w (.tuple #[.agg #[(),(),(),(),(),()],.bool false])):=by
 go_enter func22,ntmps22
 go_wp2_with fail;refine qD3 fun W1 Bp Bq Br hw=>?_;have BM:Box W1 (mb) [.map (some b)] 81:=Bm.ee hw;have hl:∀ d os,(Instr.lookup 79 (.map (some b)) (.agg #[p.x,p.y,q.x,q.y]) true).run prog (grow (redrawn W1 d) os)=.ok (.tuple #[.agg #[(),(),(),(),(),()],.bool false]) (grow (redrawn W1 d) os):=fun d os=>((Hm.ee hw).ext (below_regrown W1 d os) rfl).look_none kvM zAy hk hg;clear hg;have g_pqrM:=J4 Bp.cells Bq.cells Br.cells BM.cells;refine zC7 11 8 22 [(),(),(),(),(),()] (zs:=[(),(),(),(),(),()]) (eff:=eff6 (.int .i64 0) (.int .i64 0) (.int .i64 0) (.int .i64 0) (.int .i64 0) (.int .i64 0)) zI4 rfl rfl rfl rfl rfl rfl rfl (by simp) (fun ρ W=>by simp [execOp,go_sem];rfl) (by kernel_rfl) (by as_aux_lemma=>kernel_rfl) (C:=fun w'=>∃ p:Regrown,w'=grow (redrawn W1 p.d) p.os) rgB ?_ (fun ρ W b e1 e2 hB=>by obtain ⟨x,y,_,_⟩:=hB.f;simp [execOp,go_sem,e1,e2,x,y,eff6]);simp only [tK1,tK0,dP1,dP0];repeat (first | (refine zA7 (Eq.refl false) ?_;simp only [Act.put,sT2,sT1,sT0]) | (refine rWalk_step (fun K hK=>?_);go_simp;refine hK _ ?_;clear hK K))
 refine rWalk_nil ⟨rfl,?_⟩;intro w2 bks hb h1b h2b Bs;have lps:=Bp.lt;have lqs:=Bq.lt;have lrs:=Br.lt;have lMs:=BM.lt;have hw0z:=hw.size;clear g_pqrM;obtain ⟨Bp,Bq,Br,BM,hw,-⟩:=qX4 Bp Bq Br BM hw hb;have fs:=h1b;have hwz:w.heap.size≤W1.heap.size:=hw0z;clear hb h1b h2b hw0z;simp only [Act.put];clear hl;obtain ⟨xp,yp,zp,vp⟩:=Bp.f;obtain ⟨xq,yq,zq,vq⟩:=Bq.f;obtain ⟨xr,yr,zr,vr⟩:=Br.f;obtain ⟨xM,yM,zM,vM⟩:=BM.f;obtain ⟨xs,ys,zs,vs⟩:=Bs.f;go_wp2_with fail;refine bodyPost_ret (v:=.tuple #[.agg #[(),(),(),(),(),()],.bool false]) (by simp [results,results22,go_sem,xr]) rfl ⟨rfl,by have hl:=hw.size;go_grown⟩
theorem left_any (mb b:Nat) (E:List ((Pt×Pt)×Tri3)) (p q:Pt) (hk:okW (p,q)) (w:World) (Bm:Box w mb [.map (some b)] 81) (Hm:HoldsMap eW eT okW w b E):Calls prog 22 #[pt0 mb,p,q] w (Rt w (.tuple #[eT (lftE E p q).1,.bool (lftE E p q).2])):=by
 cases h:getE E (p,q) with
 | none=>rw [lftE_none h];exact zNo mb b E p q h hk w Bm Hm
 | some t=>rw [lftE_some h];exact zJt mb b E p q t h hk w Bm Hm
def hasE (E:List ((Pt×Pt)×Tri3)) (T:Tri3):Bool:=match getE E (T.A,T.B) with | some s=>teq s T | none=>false
def fitsE (E:List ((Pt×Pt)×Tri3)) (T:Tri3):Bool:=(getE E (T.A,T.B)).isNone && ((getE E (T.B,T.C)).isNone && ((getE E (T.C,T.A)).isNone && valT T))
theorem okT_w {T:Tri3} (h:okT T):okW (T.A,T.B)∧okW (T.B,T.C)∧okW (T.C,T.A):=⟨⟨h.1,h.2.1⟩,⟨h.2.1,h.2.2⟩,⟨h.2.2,h.1⟩⟩
theorem way_0 (T:Tri3) (w:World):Calls prog 76 #[T,()] w (Rt w (.agg #[T.A.x,T.A.y,T.B.x,T.B.y])):=zLr T 0 w
theorem way_1 (T:Tri3) (w:World):Calls prog 76 #[T,.int .i64 1] w (Rt w (.agg #[T.B.x,T.B.y,T.C.x,T.C.y])):=zLr T 1 w
theorem way_2 (T:Tri3) (w:World):Calls prog 76 #[T,.int .i64 2] w (Rt w (.agg #[T.C.x,T.C.y,T.A.x,T.A.y])):=zLr T 2 w
theorem mhas_1 (mb b:Nat) (E:List ((Pt×Pt)×Tri3)) (T:Tri3) (S:Tri3) (hg:getE E (T.A,T.B)=some S) (hk:okT T) (w:World) (Bm:Box w mb [.map (some b)] 81) (Hm:HoldsMap eW eT okW w b E):Calls prog 32 #[pt0 mb,T] w (Rt w (.bool (teq S T))):=by
 go_enter func32,ntmps32
 go_wp2_with fail;refine qE1 fun W1 Bt hw=>?_;refine qK1 (zJt mb b E T.A T.B S hg (okT_w hk).1 _ (Bm.ee hw) (Hm.ee hw)) Bt hw fun w2 Bt hw=>?_;clear hg hk;have Ft:=Bt.f;go_wp2
 go_ret
 exact ⟨rfl,by have hl:=hw.size;go_grown⟩
theorem mhas_0 (mb b:Nat) (E:List ((Pt×Pt)×Tri3)) (T:Tri3) (hg:getE E (T.A,T.B)=none) (hk:okT T) (w:World) (Bm:Box w mb [.map (some b)] 81) (Hm:HoldsMap eW eT okW w b E):Calls prog 32 #[pt0 mb,T] w (Rt w (.bool false)):=by
 go_enter func32,ntmps32
 go_wp2_with fail;refine qE1 fun W1 Bt hw=>?_;refine qK1 (zNo mb b E T.A T.B hg (okT_w hk).1 _ (Bm.ee hw) (Hm.ee hw)) Bt hw fun w2 Bt hw=>?_;clear hg hk;have Ft:=Bt.f;go_wp2
 go_ret
 exact ⟨rfl,by have hl:=hw.size;go_grown⟩
theorem zJr (mb b:Nat) (E:List ((Pt×Pt)×Tri3)) (T:Tri3) (hk:okT T) (w:World) (Bm:Box w mb [.map (some b)] 81) (Hm:HoldsMap eW eT okW w b E):Calls prog 32 #[pt0 mb,T] w (Rt w (.bool (hasE E T))):=by
 cases h:getE E (T.A,T.B) with
 | none=>rw [show hasE E T=false by unfold hasE;rw [h]];exact mhas_0 mb b E T h hk w Bm Hm
 | some S=>rw [show hasE E T=teq S T by unfold hasE;rw [h]];exact mhas_1 mb b E T S h hk w Bm Hm
theorem fits_0 (mb b:Nat) (E:List ((Pt×Pt)×Tri3)) (T:Tri3) (S:Tri3) (hg0:getE E (T.A,T.B)=some S) (hk:okT T) (w:World) (Bm:Box w mb [.map (some b)] 81) (Hm:HoldsMap eW eT okW w b E):Calls prog 75 #[pt0 mb,T] w (Rt w (.bool false)):=by
 go_enter func75,ntmps75
 go_wp2_with fail;refine qD1 fun W1 Bt hw=>?_;have BM:Box W1 (mb) [.map (some b)] 81:=Bm.ee hw;refine wp_loop_rounds 5 ?_;try rw [rounds_succ]
 have Ft:=Bt.f;have FM:=BM.f;go_wp2_with fail;have hl:∀ d os,(Instr.lookup 79 (.map (some b)) (.agg #[T.A.x,T.A.y,T.B.x,T.B.y]) true).run prog (grow (redrawn W1 d) os)=.ok (.tuple #[S,.bool true]) (grow (redrawn W1 d) os):=fun d os=>((Hm.ee hw).ext (below_regrown W1 d os) rfl).look_some kvM zAy (okT_w hk).1 hg0;clear hg0;have g_tM:=J2 Bt.cells BM.cells;have cz0:=way_0 T;refine rgl 11 6 20 (fun w2 bks0 hb h1b h2b Bs0=>?_);clear cz0;have lts0:=Bt.lt;have lMs0:=BM.lt;have hw0z:=hw.size;clear g_tM;clear Ft FM;obtain ⟨Bt,BM,hw,-⟩:=qX2 Bt BM hw hb;have fs0:=h1b;have hwz:w.heap.size≤W1.heap.size:=hw0z;clear hb h1b h2b hw0z;simp only [Act.put];clear hl;have Ft:=Bt.f;have FM:=BM.f;have Fs0:=Bs0.f;go_wp2
 go_ret
 exact ⟨rfl,hw⟩
theorem fits_1 (mb b:Nat) (E:List ((Pt×Pt)×Tri3)) (T:Tri3) (S:Tri3) (hg0:getE E (T.A,T.B)=none) (hg1:getE E (T.B,T.C)=some S) (hk:okT T) (w:World) (Bm:Box w mb [.map (some b)] 81) (Hm:HoldsMap eW eT okW w b E):Calls prog 75 #[pt0 mb,T] w (Rt w (.bool false)):=by
 go_enter func75,ntmps75
 go_wp2_with fail;refine qD1 fun W1 Bt hw=>?_;have BM:Box W1 (mb) [.map (some b)] 81:=Bm.ee hw;refine wp_loop_rounds 5 ?_;try rw [rounds_succ]
 have Ft:=Bt.f;have FM:=BM.f;go_wp2_with fail;have hl:∀ d os,(Instr.lookup 79 (.map (some b)) (.agg #[T.A.x,T.A.y,T.B.x,T.B.y]) true).run prog (grow (redrawn W1 d) os)=.ok (.tuple #[.agg #[(),(),(),(),(),()],.bool false]) (grow (redrawn W1 d) os):=fun d os=>((Hm.ee hw).ext (below_regrown W1 d os) rfl).look_none kvM zAy (okT_w hk).1 hg0;clear hg0;have gt:=Bt.cells;have gM:=BM.cells;have cz0:=way_0 T;refine rgl 11 6 20 (fun w2 bks0 hb h1b h2b Bs0=>?_);clear cz0;have lts0:=Bt.lt;have lMs0:=BM.lt;have hw0z:=hw.size;clear gt gM;clear Ft FM;obtain ⟨Bt,BM,hw,-⟩:=qX2 Bt BM hw hb;have fs0:=h1b;have hwz:w.heap.size≤W1.heap.size:=hw0z;clear hb h1b h2b hw0z;simp only [Act.put];clear hl;have F_tMs0:=J3 Bt.f BM.f Bs0.f;go_wp2_with fail;clear F_tMs0;try rw [rounds_succ]
 have Ft:=Bt.f;have FM:=BM.f;have Fs0:=Bs0.f;go_wp2_with fail;refine zA1 fun W3 hW=>?_;subst hW;clear Ft FM Fs0;have hl:∀ d os,(Instr.lookup 79 (.map (some b)) (.agg #[T.B.x,T.B.y,T.C.x,T.C.y]) true).run prog (grow (redrawn W3 d) os)=.ok (.tuple #[S,.bool true]) (grow (redrawn W3 d) os):=fun d os=>((Hm.ee hw).ext (below_regrown W3 d os) rfl).look_some kvM zAy (okT_w hk).2.1 hg1;clear hg1;have gt:=Bt.cells;have gM:=BM.cells;have gs0:=Bs0.cells;have cz0:=way_1 T;refine rgl 11 6 20 (fun w4 bks1 hb h1b h2b Bs1=>?_);clear cz0;have lts1:=Bt.lt;have lMs1:=BM.lt;have ls0s1:=Bs0.lt;have hw0z:=hw.size;clear gt gM gs0;obtain ⟨Bt,BM,Bs0,hw,-⟩:=qX3 Bt BM Bs0 hw hb;have fs1:=h1b;have hwz:w.heap.size≤W3.heap.size:=hw0z;clear hb h1b h2b hw0z;simp only [Act.put];clear hl;have Ft:=Bt.f;have FM:=BM.f;have Fs0:=Bs0.f;have Fs1:=Bs1.f;go_wp2
 go_ret
 exact ⟨rfl,hw⟩
theorem fits_2 (mb b:Nat) (E:List ((Pt×Pt)×Tri3)) (T:Tri3) (S:Tri3) (hg0:getE E (T.A,T.B)=none) (hg1:getE E (T.B,T.C)=none) (hg2:getE E (T.C,T.A)=some S) (hk:okT T) (w:World) (Bm:Box w mb [.map (some b)] 81) (Hm:HoldsMap eW eT okW w b E):Calls prog 75 #[pt0 mb,T] w (Rt w (.bool false)):=by
 go_enter func75,ntmps75
 go_wp2_with fail;refine qD1 fun W1 Bt hw=>?_;have BM:Box W1 (mb) [.map (some b)] 81:=Bm.ee hw;refine wp_loop_rounds 5 ?_;try rw [rounds_succ]
 have Ft:=Bt.f;have FM:=BM.f;go_wp2_with fail;have hl:∀ d os,(Instr.lookup 79 (.map (some b)) (.agg #[T.A.x,T.A.y,T.B.x,T.B.y]) true).run prog (grow (redrawn W1 d) os)=.ok (.tuple #[.agg #[(),(),(),(),(),()],.bool false]) (grow (redrawn W1 d) os):=fun d os=>((Hm.ee hw).ext (below_regrown W1 d os) rfl).look_none kvM zAy (okT_w hk).1 hg0;clear hg0;have gt:=Bt.cells;have gM:=BM.cells;have cz0:=way_0 T;refine rgl 11 6 20 (fun w2 bks0 hb h1b h2b Bs0=>?_);clear cz0;have lts0:=Bt.lt;have lMs0:=BM.lt;have hw0z:=hw.size;clear gt gM;clear Ft FM;obtain ⟨Bt,BM,hw,-⟩:=qX2 Bt BM hw hb;have fs0:=h1b;have hwz:w.heap.size≤W1.heap.size:=hw0z;clear hb h1b h2b hw0z;simp only [Act.put];clear hl;have F_tMs0:=J3 Bt.f BM.f Bs0.f;go_wp2_with fail;clear F_tMs0;try rw [rounds_succ]
 have Ft:=Bt.f;have FM:=BM.f;have Fs0:=Bs0.f;go_wp2_with fail;refine zA1 fun W3 hW=>?_;subst hW;clear Ft FM Fs0;have hl:∀ d os,(Instr.lookup 79 (.map (some b)) (.agg #[T.B.x,T.B.y,T.C.x,T.C.y]) true).run prog (grow (redrawn W3 d) os)=.ok (.tuple #[.agg #[(),(),(),(),(),()],.bool false]) (grow (redrawn W3 d) os):=fun d os=>((Hm.ee hw).ext (below_regrown W3 d os) rfl).look_none kvM zAy (okT_w hk).2.1 hg1;clear hg1;have gt:=Bt.cells;have gM:=BM.cells;have gs0:=Bs0.cells;have cz0:=way_1 T;refine rgl 11 6 20 (fun w4 bks1 hb h1b h2b Bs1=>?_);clear cz0;have lts1:=Bt.lt;have lMs1:=BM.lt;have ls0s1:=Bs0.lt;have hw0z:=hw.size;clear gt gM gs0;obtain ⟨Bt,BM,Bs0,hw,-⟩:=qX3 Bt BM Bs0 hw hb;have fs1:=h1b;have hwz:w.heap.size≤W3.heap.size:=hw0z;clear hb h1b h2b hw0z;simp only [Act.put];clear hl;have F_tMs0s1:=J4 Bt.f BM.f Bs0.f Bs1.f;go_wp2_with fail;clear F_tMs0s1;try rw [rounds_succ]
 have Ft:=Bt.f;have FM:=BM.f;have Fs0:=Bs0.f;have Fs1:=Bs1.f;go_wp2_with fail;refine zA1 fun W5 hW=>?_;subst hW;clear Ft FM Fs0 Fs1;have hl:∀ d os,(Instr.lookup 79 (.map (some b)) (.agg #[T.C.x,T.C.y,T.A.x,T.A.y]) true).run prog (grow (redrawn W5 d) os)=.ok (.tuple #[S,.bool true]) (grow (redrawn W5 d) os):=fun d os=>((Hm.ee hw).ext (below_regrown W5 d os) rfl).look_some kvM zAy (okT_w hk).2.2 hg2;clear hg2;have gt:=Bt.cells;have gM:=BM.cells;have gs0:=Bs0.cells;have gs1:=Bs1.cells;have cz0:=way_2 T;refine rgl 11 6 20 (fun w6 bks2 hb h1b h2b Bs2=>?_);clear cz0;have lts2:=Bt.lt;have lMs2:=BM.lt;have ls0s2:=Bs0.lt;have ls1s2:=Bs1.lt;have hw0z:=hw.size;clear gt gM gs0 gs1;obtain ⟨Bt,BM,Bs0,Bs1,hw,-⟩:=qX4 Bt BM Bs0 Bs1 hw hb;have fs2:=h1b;have hwz:w.heap.size≤W5.heap.size:=hw0z;clear hb h1b h2b hw0z;simp only [Act.put];clear hl;have Ft:=Bt.f;have FM:=BM.f;have Fs0:=Bs0.f;have Fs1:=Bs1.f;have Fs2:=Bs2.f;go_wp2
 go_ret
 exact ⟨rfl,hw⟩
theorem fits_3 (mb b:Nat) (E:List ((Pt×Pt)×Tri3)) (T:Tri3) (hg0:getE E (T.A,T.B)=none) (hg1:getE E (T.B,T.C)=none) (hg2:getE E (T.C,T.A)=none) (hk:okT T) (w:World) (Bm:Box w mb [.map (some b)] 81) (Hm:HoldsMap eW eT okW w b E):Calls prog 75 #[pt0 mb,T] w (Rt w (.bool (valT T))):=by
 have cv:=zBl T;generalize valT T=v at *
 go_enter func75,ntmps75
 go_wp2_with fail;refine qD1 fun W1 Bt hw=>?_;have BM:Box W1 (mb) [.map (some b)] 81:=Bm.ee hw;refine wp_loop_rounds 5 ?_;try rw [rounds_succ]
 have Ft:=Bt.f;have FM:=BM.f;go_wp2_with fail;have hl:∀ d os,(Instr.lookup 79 (.map (some b)) (.agg #[T.A.x,T.A.y,T.B.x,T.B.y]) true).run prog (grow (redrawn W1 d) os)=.ok (.tuple #[.agg #[(),(),(),(),(),()],.bool false]) (grow (redrawn W1 d) os):=fun d os=>((Hm.ee hw).ext (below_regrown W1 d os) rfl).look_none kvM zAy (okT_w hk).1 hg0;clear hg0;have gt:=Bt.cells;have gM:=BM.cells;have cz0:=way_0 T;refine rgl 11 6 20 (fun w2 bks0 hb h1b h2b Bs0=>?_);clear cz0;have lts0:=Bt.lt;have lMs0:=BM.lt;have hw0z:=hw.size;clear gt gM;clear Ft FM;obtain ⟨Bt,BM,hw,-⟩:=qX2 Bt BM hw hb;have fs0:=h1b;have hwz:w.heap.size≤W1.heap.size:=hw0z;clear hb h1b h2b hw0z;simp only [Act.put];clear hl;have F_tMs0:=J3 Bt.f BM.f Bs0.f;go_wp2_with fail;clear F_tMs0;try rw [rounds_succ]
 have Ft:=Bt.f;have FM:=BM.f;have Fs0:=Bs0.f;go_wp2_with fail;refine zA1 fun W3 hW=>?_;subst hW;clear Ft FM Fs0;have hl:∀ d os,(Instr.lookup 79 (.map (some b)) (.agg #[T.B.x,T.B.y,T.C.x,T.C.y]) true).run prog (grow (redrawn W3 d) os)=.ok (.tuple #[.agg #[(),(),(),(),(),()],.bool false]) (grow (redrawn W3 d) os):=fun d os=>((Hm.ee hw).ext (below_regrown W3 d os) rfl).look_none kvM zAy (okT_w hk).2.1 hg1;clear hg1;have gt:=Bt.cells;have gM:=BM.cells;have gs0:=Bs0.cells;have cz0:=way_1 T;refine rgl 11 6 20 (fun w4 bks1 hb h1b h2b Bs1=>?_);clear cz0;have lts1:=Bt.lt;have lMs1:=BM.lt;have ls0s1:=Bs0.lt;have hw0z:=hw.size;clear gt gM gs0;obtain ⟨Bt,BM,Bs0,hw,-⟩:=qX3 Bt BM Bs0 hw hb;have fs1:=h1b;have hwz:w.heap.size≤W3.heap.size:=hw0z;clear hb h1b h2b hw0z;simp only [Act.put];clear hl;have F_tMs0s1:=J4 Bt.f BM.f Bs0.f Bs1.f;go_wp2_with fail;clear F_tMs0s1;try rw [rounds_succ]
 have Ft:=Bt.f;have FM:=BM.f;have Fs0:=Bs0.f;have Fs1:=Bs1.f;go_wp2_with fail;refine zA1 fun W5 hW=>?_;subst hW;clear Ft FM Fs0 Fs1;have hl:∀ d os,(Instr.lookup 79 (.map (some b)) (.agg #[T.C.x,T.C.y,T.A.x,T.A.y]) true).run prog (grow (redrawn W5 d) os)=.ok (.tuple #[.agg #[(),(),(),(),(),()],.bool false]) (grow (redrawn W5 d) os):=fun d os=>((Hm.ee hw).ext (below_regrown W5 d os) rfl).look_none kvM zAy (okT_w hk).2.2 hg2;clear hg2;have gt:=Bt.cells;have gM:=BM.cells;have gs0:=Bs0.cells;have gs1:=Bs1.cells;have cz0:=way_2 T;refine rgl 11 6 20 (fun w6 bks2 hb h1b h2b Bs2=>?_);clear cz0;have lts2:=Bt.lt;have lMs2:=BM.lt;have ls0s2:=Bs0.lt;have ls1s2:=Bs1.lt;have hw0z:=hw.size;clear gt gM gs0 gs1;obtain ⟨Bt,BM,Bs0,Bs1,hw,-⟩:=qX4 Bt BM Bs0 Bs1 hw hb;have fs2:=h1b;have hwz:w.heap.size≤W5.heap.size:=hw0z;clear hb h1b h2b hw0z;simp only [Act.put];clear hl;have F_tMs0s1s2:=J5 Bt.f BM.f Bs0.f Bs1.f Bs2.f;go_wp2_with fail;clear F_tMs0s1s2;try rw [rounds_succ]
 have Ft:=Bt.f;have FM:=BM.f;have Fs0:=Bs0.f;have Fs1:=Bs1.f;have Fs2:=Bs2.f;go_wp2_with fail;refine (cv _).mono ?_;rintro e w9 ⟨rfl,hb⟩;replace hw:=upB hw hb;clear Ft FM Fs0 Fs1 Fs2;clear hb;go_wp2
 go_ret
 exact ⟨rfl,hw⟩
theorem fits_any (mb b:Nat) (E:List ((Pt×Pt)×Tri3)) (T:Tri3) (hk:okT T) (w:World) (Bm:Box w mb [.map (some b)] 81) (Hm:HoldsMap eW eT okW w b E):Calls prog 75 #[pt0 mb,T] w fun e w'=>e=.returned (.bool (Option.isNone (getE E (T.A,T.B)) && (Option.isNone (getE E (T.B,T.C)) && (Option.isNone (getE E (T.C,T.A)) && valT T))))∧Below w w w':=by
 cases h0:getE E (T.A,T.B) with
 | some S=>exact fits_0 mb b E T S h0 hk w Bm Hm
 | none=>
  cases h1:getE E (T.B,T.C) with
  | some S=>exact fits_1 mb b E T S h0 h1 hk w Bm Hm
  | none=>
   cases h2:getE E (T.C,T.A) with
   | some S=>exact fits_2 mb b E T S h0 h1 h2 hk w Bm Hm
   | none=>exact fits_3 mb b E T h0 h1 h2 hk w Bm Hm
theorem zL5 (mb b : Nat) (E : List ((Pt × Pt) × Tri3)) (T : Tri3) (hk : okT T) (w : World) (Bm : Box w mb [.map (some b)] 81) (Hm : HoldsMap eW eT okW w b E) :
    Calls prog 75 #[pt0 mb,T] w (Rt w (.bool (fitsE E T))):=fits_any mb b E T hk w Bm Hm
end
theorem zA6 {w w':World} (h:Below w w w') (row:Option Nat):w.grownBy w' row:=⟨h.os,h.tape,h.output,h.size,fun i hi _=>h.block i hi⟩
theorem zD2 {w w':World} (h:w.grownBy w' none):Below w w w':=⟨h.os,h.tape,h.output,h.size,fun i hi=>h.block i hi (by simp)⟩
theorem zHg {B:Nat} {w w' w2:World} {b:Nat} (h:Below B w w') (hg:w'.grownBy w2 (some b)) (hB:B≤w'.heap.size) (hb:B≤b):Below B w w2:=
 ⟨hg.os.trans h.os,hg.tape.trans h.tape,hg.output.trans h.output,jAp h.size hg.size,fun i hi=>(hg.block i (by omega) (fun e=>by cases e;omega)).trans (h.block i hi)⟩
theorem zAa {a b c:World} {r:Nat} (h:a.grownBy b (some r)) (k:b.grownBy c (some r)):a.grownBy c (some r):=h.andThen k (fun _ hj=>.inr hj)
theorem zA9 {a b c:World} {r:Nat} (h:a.grownBy b (some r)) (k:Below b b c):a.grownBy c (some r):=zAa h (zA6 k _)
theorem below_then {a b c:World} {r:Nat} (h:Below a a b) (k:b.grownBy c (some r)):a.grownBy c (some r):=zAa (zA6 h _) k
theorem zCa (w:World) (row:Option Nat):w.grownBy w row:=⟨rfl,rfl,rfl,jA9 _,fun _ _ _=>rfl⟩
theorem Box.ne_map {w:World} {x b:Nat} {cs:List Value} {T:TypeId} {E:List ((Pt×Pt)×Tri3)} (h:Box w x cs T) (H:HoldsMap eW eT okW w b E):x≠b:=by
 obtain ⟨es,clock,hb,_⟩:=H;intro e;unfold Box at h;rw [e,hb] at h;cases h
theorem Box.turn {w w':World} {x b:Nat} {cs:List Value} {T:TypeId} {E:List ((Pt×Pt)×Tri3)} (h:Box w x cs T) (H:HoldsMap eW eT okW w b E) (hg:w.grownBy w' (some b)):Box w' x cs T:=by
 have hne:=h.ne_map H;have hl:=h.lt;unfold Box at *;rw [hg.block x hl (by simpa using hne)];exact h
theorem RowAt.turn {α:Type} {c:α→List Value} {k:Nat} {w w':World} {a:Option Addr} {L:List α} {b:Nat} {E:List ((Pt×Pt)×Tri3)} (h:RowAt c k w a L) (hc:∀ x,c x≠[]) (H:HoldsMap eW eT okW w b E) (hg:w.grownBy w' (some b)):RowAt c k w' a L:=fun j x hx=>by
 obtain ⟨ad,h1,h2,h3⟩:=h j x hx;have hne:ad.block≠b:=by
  obtain ⟨es,clock,hb,_⟩:=H;cases hcx:c x with
  | nil=>exact absurd hcx (hc x)
  | cons v l=>
   have h4:=h3 0 v (by rw [hcx];rfl);intro e;unfold World.cell? at h4;rw [zAo,zAo,e,hb] at h4;cases h4
 refine ⟨ad,h1,jBj h2 hg.size,fun i u hu=>?_⟩;exact hg.cell (h3 i u hu) (by rw [zAo,zAo];simpa using hne)
theorem cT_ne (x:Tri3):cT x≠[]:=by simp [cT]
theorem cP_ne (x:Pt):cP x≠[]:=by simp [cP]
abbrev Es:=List ((Pt×Pt)×Tri3)
def putT (E:Es) (T:Tri3):Es:=putE (putE (putE E (T.A,T.B) T) (T.B,T.C) T) (T.C,T.A) T
def takeT (E:Es) (T:Tri3):Es:=delE (delE (delE E (T.A,T.B)) (T.B,T.C)) (T.C,T.A)
def putRun (E:Es):List Tri3→Nat×Es
 | []=>(0,E)
 | T :: l=>if fitsE E T=true then ((putRun (putT E T) l).1+1,(putRun (putT E T) l).2) else (0,E)
def takeRun (E:Es):List Tri3→Nat×Es
 | []=>(0,E)
 | T :: l=>if hasE E T=true then ((takeRun (takeT E T) l).1+1,(takeRun (takeT E T) l).2) else (0,E)
theorem zH3 {E F:Es} {L:List Tri3} {k:Nat} (hk:k < L.length) (h:putRun E L=(k+(putRun F (L.drop k)).1,(putRun F (L.drop k)).2)) (hf:fitsE F L[k]=true):putRun E L=(k+1+(putRun (putT F L[k]) (L.drop (k+1))).1,(putRun (putT F L[k]) (L.drop (k+1))).2):=by
 rw [h,jBi hk,putRun,jAc hf];simp only [jB6,jE8];omega
theorem zH2 {E F:Es} {L:List Tri3} {k:Nat} (hk:k < L.length) (h:putRun E L=(k+(putRun F (L.drop k)).1,(putRun F (L.drop k)).2)) (hf:fitsE F L[k]=false):putRun E L=(k,F):=by
 rw [h,jBi hk,putRun,jA0 (by rw [hf];decide)];rfl
theorem zIp {E F:Es} {L:List Tri3} {k:Nat} (hk:L.length≤k) (h:putRun E L=(k+(putRun F (L.drop k)).1,(putRun F (L.drop k)).2)):putRun E L=(k,F):=by
 rw [h,jDl hk];rfl
theorem takeRun_step {E F:Es} {L:List Tri3} {k:Nat} (hk:k < L.length) (h:takeRun E L=(k+(takeRun F (L.drop k)).1,(takeRun F (L.drop k)).2)) (hf:hasE F L[k]=true):takeRun E L=(k+1+(takeRun (takeT F L[k]) (L.drop (k+1))).1,(takeRun (takeT F L[k]) (L.drop (k+1))).2):=by
 rw [h,jBi hk,takeRun,jAc hf];simp only [jB6,jE8];omega
theorem takeRun_stop {E F:Es} {L:List Tri3} {k:Nat} (hk:k < L.length) (h:takeRun E L=(k+(takeRun F (L.drop k)).1,(takeRun F (L.drop k)).2)) (hf:hasE F L[k]=false):takeRun E L=(k,F):=by
 rw [h,jBi hk,takeRun,jA0 (by rw [hf];decide)];rfl
theorem takeRun_end {E F:Es} {L:List Tri3} {k:Nat} (hk:L.length≤k) (h:takeRun E L=(k+(takeRun F (L.drop k)).1,(takeRun F (L.drop k)).2)):takeRun E L=(k,F):=by
 rw [h,jDl hk];rfl
section
attribute [local go_sem] rOper rAt rUpon cell_set sg_i64 sg_u64 alloc_cell alloc_frozen
attribute [local go_sem 10000] pt_eql pt_neq tri_eql
attribute [local irreducible] rWalk
theorem map_nil (b:Nat) (w:World):(binOp .eql 79 (.map (some b)) (.map none)).run prog w=.ok (.bool false) w:=by
 simp only [binOp];simp [run_equal_map_nil w 79 _ _ (some b) underlying79]
theorem rmap_nil (b:Nat) (w:World):(binOp .eql 88 (.map (some b)) (.map none)).run prog w=.ok (.bool false) w:=by
 simp only [binOp];simp [run_equal_map_nil w 88 _ _ (some b) underlying88]
attribute [local go_sem] map_nil rmap_nil
theorem zGa (mb b:Nat) (E:Es) (a:Option Addr) (cap n:Nat) (L:List Tri3) (hn:Hid (L.length=n)) (hn1:n≤1000000) (hok:∀ T∈L,okT T) (w:World) (Bm:Box w mb [.map (some b)] 81) (Hm:HoldsMap eW eT okW w b E) (Hr:RowAt cT 6 w a L):Calls prog 37 #[pt0 mb,.slice a n cap] w fun e w'=>e=.returned (.int .i64 (putRun E L).1)∧w.grownBy w' (some b)∧HoldsMap eW eT okW w' b (putRun E L).2:=by
 have hmb:=Bm.ne_map Hm;have Fm:=Bm.f
 go_enter func37,ntmps37
 go_wp2;clear Fm
 go_loopw [19] (fun i wr=>∃ (k:Nat) (F:Es),k≤n∧i=.int .i64 k∧Hid (putRun E L=(k+(putRun F (L.drop k)).1,(putRun F (L.drop k)).2))∧HoldsMap eW eT okW wr b F∧w.grownBy wr (some b)) (fun i _=>n - (intOf i).toNat)
 case atStart=>exact ⟨0,E,jAt _,rfl,hdd (by simp),Hm,zCa _ _⟩
 case round=>
  obtain ⟨k,F,hk,rfl,hR,HF,hg⟩:=hrel;have BM:=Bm.turn Hm hg;by_cases hlt:k < n
  ·have hlk:k < L.length:=hn.out▸hlt;have hokk:=hok L[k] (jAx hlk);have hst:=fun hf=>zH3 hlk hR.out hf;have hsp:=fun hf=>zH2 hlk hR.out hf;obtain ⟨ad,A,ea,eA,zA,_,q0,q1,q2,q3,q4,q5⟩:=(Hr.turn cT_ne Hm hg).tri hlk;generalize L[k]=T at *
   cases hf:fitsE F T with
   | false=>
    have HP:=hdd (hsp hf);clear hst hsp;have cf:=zL5 mb b F T hokk;rw [hf] at cf;clear hf;have FM:=BM.f;go_wp2_with fail;refine zA4 fun W1 hW=>?_;have Bt:Box W1 wr [T.A.x,T.A.y,T.B.x,T.B.y,T.C.x,T.C.y] 56:=by rw [hW];exact Box.new rfl
    have hw:Below wr wr W1:=by rw [hW];go_grown
    clear hW;clear FM;replace BM:=BM.ee hw;clear q0 q1 q2 q3 q4 q5 ea eA zA;refine qK2 (cf _ BM (HF.ee hw)) BM Bt hw fun w2 BM Bt hw=>?_;have FM:=BM.f;have Ft:=Bt.f;go_wp2
    go_ret
    exact ⟨zAp (by rw [HP.out]),zA9 hg hw,by rw [HP.out];exact HF.ee hw⟩
   | true=>
    have HP:=hdd (hst hf);clear hst hsp;have cf:=zL5 mb b F T hokk;rw [hf] at cf;clear hf;have FM:=BM.f;go_wp2_with fail;refine zA4 fun W1 hW=>?_;have Bt:Box W1 wr [T.A.x,T.A.y,T.B.x,T.B.y,T.C.x,T.C.y] 56:=by rw [hW];exact Box.new rfl
    have hw:Below wr wr W1:=by rw [hW];go_grown
    clear hW;clear FM;replace BM:=BM.ee hw;clear q0 q1 q2 q3 q4 q5 ea eA zA;refine qC2 (cf _ BM (HF.ee hw)) BM Bt hw fun w2 BM Bt hw F_Mt=>?_;go_wp2_with fail;clear F_Mt;refine wp_loop_rounds 5 ?_;try rw [rounds_succ]
    have FM:=BM.f;have Ft:=Bt.f;go_wp2_with fail;replace HF:=HF.ee hw;replace hg:=zA9 hg hw;have hw:Below w2 w2 w2:=Below.refl _ _;have g_Mt:=J2 BM.cells Bt.cells;have cz0:=way_0 T;refine rgn 8 (fun w3 hb=>?_);clear cz0;clear g_Mt;clear FM Ft;obtain ⟨BM,Bt,hw,-⟩:=qX2 BM Bt hw hb;replace HF:=HF.ee hw;replace hg:=zA9 hg hw;clear hw;refine zBs _ rfl _ _ _ rfl kvM rfl HF (T.A,T.B) T rfl rfl (okT_w hokk).1 ?_;intro c0 HG hh hs;replace BM:=BM.turn HF hh;replace Bt:=Bt.turn HF hh;replace hg:=zAa hg hh;clear HF hh hs;have HF:=HG;clear HG;have F_Mt:=J2 BM.f Bt.f;go_wp2_with fail;clear F_Mt;try rw [rounds_succ]
    have FM:=BM.f;have Ft:=Bt.f;go_wp2_with fail;have hw:Below c0 c0 c0:=Below.refl _ _;have g_Mt:=J2 BM.cells Bt.cells;have cz0:=way_1 T;refine rgn 8 (fun w4 hb=>?_);clear cz0;clear g_Mt;clear FM Ft;obtain ⟨BM,Bt,hw,-⟩:=qX2 BM Bt hw hb;replace HF:=HF.ee hw;replace hg:=zA9 hg hw;clear hw;refine zBs _ rfl _ _ _ rfl kvM rfl HF (T.B,T.C) T rfl rfl (okT_w hokk).2.1 ?_;intro c1 HG hh hs;replace BM:=BM.turn HF hh;replace Bt:=Bt.turn HF hh;replace hg:=zAa hg hh;clear HF hh hs;have HF:=HG;clear HG;have F_Mt:=J2 BM.f Bt.f;go_wp2_with fail;clear F_Mt;try rw [rounds_succ]
    have FM:=BM.f;have Ft:=Bt.f;go_wp2_with fail;have hw:Below c1 c1 c1:=Below.refl _ _;have g_Mt:=J2 BM.cells Bt.cells;have cz0:=way_2 T;refine rgn 8 (fun w5 hb=>?_);clear cz0;clear g_Mt;clear FM Ft;obtain ⟨BM,Bt,hw,-⟩:=qX2 BM Bt hw hb;replace HF:=HF.ee hw;replace hg:=zA9 hg hw;clear hw;refine zBs _ rfl _ _ _ rfl kvM rfl HF (T.C,T.A) T rfl rfl (okT_w hokk).2.2 ?_;intro c2 HG hh hs;replace BM:=BM.turn HF hh;replace Bt:=Bt.turn HF hh;replace hg:=zAa hg hh;clear HF hh hs;have HF:=HG;clear HG;have F_Mt:=J2 BM.f Bt.f;go_wp2_with fail;clear F_Mt;try rw [rounds_succ]
    have FM:=BM.f;have Ft:=Bt.f;go_wp2
    go_roundw
    case rel=>exact ⟨k+1,putT F T,by omega,by go_num,HP,HF,hg⟩
    case measure=>simp [intOf];omega
  ·have HP:=hdd (zIp (by rw [hn.out];omega) hR.out);have Fm:=BM.f;go_wp2
   go_ret
   exact ⟨zAp (by rw [HP.out];omega),hg,by rw [HP.out];exact HF⟩
theorem zFp (mb b:Nat) (E:Es) (a:Option Addr) (cap n:Nat) (L:List Tri3) (hn:Hid (L.length=n)) (hn1:n≤1000000) (hok:∀ T∈L,okT T) (w:World) (Bm:Box w mb [.map (some b)] 81) (Hm:HoldsMap eW eT okW w b E) (Hr:RowAt cT 6 w a L):Calls prog 166 #[pt0 mb,.slice a n cap] w fun e w'=>e=.returned (.int .i64 (takeRun E L).1)∧w.grownBy w' (some b)∧HoldsMap eW eT okW w' b (takeRun E L).2:=by
 have hmb:=Bm.ne_map Hm;have Fm:=Bm.f
 go_enter func166,ntmps166
 go_wp2;clear Fm
 go_loopw [10] (fun i wr=>∃ (k:Nat) (F:Es),k≤n∧i=.int .i64 k∧Hid (takeRun E L=(k+(takeRun F (L.drop k)).1,(takeRun F (L.drop k)).2))∧HoldsMap eW eT okW wr b F∧w.grownBy wr (some b)) (fun i _=>n - (intOf i).toNat)
 case atStart=>exact ⟨0,E,jAt _,rfl,hdd (by simp),Hm,zCa _ _⟩
 case round=>
  obtain ⟨k,F,hk,rfl,hR,HF,hg⟩:=hrel;have BM:=Bm.turn Hm hg;by_cases hlt:k < n
  ·have hlk:k < L.length:=hn.out▸hlt;have hokk:=hok L[k] (jAx hlk);have hst:=fun hf=>takeRun_step hlk hR.out hf;have hsp:=fun hf=>takeRun_stop hlk hR.out hf;obtain ⟨ad,A,ea,eA,zA,_,q0,q1,q2,q3,q4,q5⟩:=(Hr.turn cT_ne Hm hg).tri hlk;generalize L[k]=T at *
   cases hf:hasE F T with
   | false=>
    have HP:=hdd (hsp hf);clear hst hsp;have cf:=zJr mb b F T hokk;rw [hf] at cf;clear hf;have FM:=BM.f;go_wp2_with fail;refine zA4 fun W1 hW=>?_;have Bt:Box W1 wr [T.A.x,T.A.y,T.B.x,T.B.y,T.C.x,T.C.y] 56:=by rw [hW];exact Box.new rfl
    have hw:Below wr wr W1:=by rw [hW];go_grown
    clear hW;clear FM;replace BM:=BM.ee hw;clear q0 q1 q2 q3 q4 q5 ea eA zA;refine qK2 (cf _ BM (HF.ee hw)) BM Bt hw fun w2 BM Bt hw=>?_;have FM:=BM.f;have Ft:=Bt.f;go_wp2
    go_ret
    exact ⟨zAp (by rw [HP.out]),zA9 hg hw,by rw [HP.out];exact HF.ee hw⟩
   | true=>
    have HP:=hdd (hst hf);clear hst hsp;have cf:=zJr mb b F T hokk;rw [hf] at cf;clear hf;have FM:=BM.f;go_wp2_with fail;refine zA4 fun W1 hW=>?_;have Bt:Box W1 wr [T.A.x,T.A.y,T.B.x,T.B.y,T.C.x,T.C.y] 56:=by rw [hW];exact Box.new rfl
    have hw:Below wr wr W1:=by rw [hW];go_grown
    clear hW;clear FM;replace BM:=BM.ee hw;clear q0 q1 q2 q3 q4 q5 ea eA zA;refine qC2 (cf _ BM (HF.ee hw)) BM Bt hw fun w2 BM Bt hw F_Mt=>?_;go_wp2_with fail;clear F_Mt;refine wp_loop_rounds 5 ?_;try rw [rounds_succ]
    have FM:=BM.f;have Ft:=Bt.f;go_wp2_with fail;replace HF:=HF.ee hw;replace hg:=zA9 hg hw;have hw:Below w2 w2 w2:=Below.refl _ _;have g_Mt:=J2 BM.cells Bt.cells;have cz0:=way_0 T;refine rgn 7 (fun w3 hb=>?_);clear cz0;clear g_Mt;clear FM Ft;obtain ⟨BM,Bt,hw,-⟩:=qX2 BM Bt hw hb;replace HF:=HF.ee hw;replace hg:=zA9 hg hw;clear hw;refine zC5 _ rfl _ _ rfl kvM rfl HF (T.A,T.B) rfl (okT_w hokk).1 ?_;intro c0 HG hh hs;replace BM:=BM.turn HF hh;replace Bt:=Bt.turn HF hh;replace hg:=zAa hg hh;clear HF hh hs;have HF:=HG;clear HG;have F_Mt:=J2 BM.f Bt.f;go_wp2_with fail;clear F_Mt;try rw [rounds_succ]
    have FM:=BM.f;have Ft:=Bt.f;go_wp2_with fail;have hw:Below c0 c0 c0:=Below.refl _ _;have g_Mt:=J2 BM.cells Bt.cells;have cz0:=way_1 T;refine rgn 7 (fun w4 hb=>?_);clear cz0;clear g_Mt;clear FM Ft;obtain ⟨BM,Bt,hw,-⟩:=qX2 BM Bt hw hb;replace HF:=HF.ee hw;replace hg:=zA9 hg hw;clear hw;refine zC5 _ rfl _ _ rfl kvM rfl HF (T.B,T.C) rfl (okT_w hokk).2.1 ?_;intro c1 HG hh hs;replace BM:=BM.turn HF hh;replace Bt:=Bt.turn HF hh;replace hg:=zAa hg hh;clear HF hh hs;have HF:=HG;clear HG;have F_Mt:=J2 BM.f Bt.f;go_wp2_with fail;clear F_Mt;try rw [rounds_succ]
    have FM:=BM.f;have Ft:=Bt.f;go_wp2_with fail;have hw:Below c1 c1 c1:=Below.refl _ _;have g_Mt:=J2 BM.cells Bt.cells;have cz0:=way_2 T;refine rgn 7 (fun w5 hb=>?_);clear cz0;clear g_Mt;clear FM Ft;obtain ⟨BM,Bt,hw,-⟩:=qX2 BM Bt hw hb;replace HF:=HF.ee hw;replace hg:=zA9 hg hw;clear hw;refine zC5 _ rfl _ _ rfl kvM rfl HF (T.C,T.A) rfl (okT_w hokk).2.2 ?_;intro c2 HG hh hs;replace BM:=BM.turn HF hh;replace Bt:=Bt.turn HF hh;replace hg:=zAa hg hh;clear HF hh hs;have HF:=HG;clear HG;have F_Mt:=J2 BM.f Bt.f;go_wp2_with fail;clear F_Mt;try rw [rounds_succ]
    have FM:=BM.f;have Ft:=Bt.f;go_wp2
    go_roundw
    case rel=>exact ⟨k+1,takeT F T,by omega,by go_num,HP,HF,hg⟩
    case measure=>simp [intOf];omega
  ·have HP:=hdd (takeRun_end (by rw [hn.out];omega) hR.out);have Fm:=BM.f;go_wp2
   go_ret
   exact ⟨zAp (by rw [HP.out];omega),hg,by rw [HP.out];exact HF⟩
end
section
attribute [local go_sem] rOper rAt rUpon cell_set sg_i64 sg_u64 alloc_cell alloc_frozen
attribute [local go_sem 10000] pt_eql pt_neq tri_eql
attribute [local irreducible] rWalk
theorem mk_map (n:Int) (w:World):(Instr.makeMap 79 (some (.int .i64 n))).run prog w=.ok (.map (some w.heap.size)) (w.alloc (.map #[] 0)):=by
 unfold Instr.makeMap;simp [asIntOf,go_sem]
attribute [local go_sem] mk_map map_nil
theorem HoldsMap.box {w:World} {b:Nat} {E:Es} (H:HoldsMap eW eT okW w b E) {cs:List Value} {T:TypeId}:HoldsMap eW eT okW (w.alloc (.cells cs.toArray T)) b E:=H.alloc _
theorem mnew_1 (a:Option Addr) (cap n:Nat) (L:List Tri3) (hn:Hid (L.length=n)) (hn1:n≤1000000) (hok:∀ T∈L,okT T) (hx:(putRun [] L).1=n) (w:World) (Hr:RowAt cT 6 w a L):Calls prog 10 #[.slice a n cap] w fun e w'=>∃ mb b,e=.returned (.tuple #[pt0 mb,()])∧Box w' mb [.map (some b)] 81∧HoldsMap eW eT okW w' b (putRun [] L).2∧w.heap.size≤b∧w.heap.size≤mb∧Below w w w':=by
 have cp:=fun w' B H R=>zGa (w.heap.size+1) w.heap.size [] a cap n L hn hn1 hok w' B H R;obtain ⟨r,E,hr⟩:∃ r E,putRun [] L=(r,E):=⟨_,_,rfl⟩;rw [hr] at cp hx;dsimp only at cp hx;have HR:=hdd hr;clear hr;subst hx;have hd:decide ((r:Int) < (r:Int))=false:=by simp
 go_enter func10,ntmps10
 go_wp2_with fail;refine zA4 fun W1 hW=>?_;have BM:Box W1 (w+1) [.map (some w.heap.size)] 81:=by rw [hW];exact Box.new (by simp)
 have HM:HoldsMap eW eT okW W1 w.heap.size ([]:Es):=by rw [hW];exact (HoldsMap.made w).alloc _
 have hw:Below w w W1:=by rw [hW];go_grown
 clear hW;refine (cp _ BM HM (Hr.ee hw)).mono ?_;rintro e w2 ⟨rfl,hg,H2⟩;have B2:=BM.turn HM hg;replace hw:=zHg hw hg hw.size (jA9 _);clear hg HM BM;go_wp2
 go_ret2
 exact ⟨_,_,rfl,B2,by rw [HR.out];exact H2,jA9 _,by omega,hw⟩
theorem zKm {T:Tri3} (h:okT T) (i:Int):okP (crn T i):=by
 unfold crn;split
 ·exact h.1
 ·split
  ·exact h.2.1
  ·exact h.2.2
end
end Go.Proofs.YtogffkimgmlilaaGreat
