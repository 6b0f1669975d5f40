import Derived.Deep.Draws
import Derived.Sort.Grow
import Derived.Test.YtmpfadapbbjbkaaGreatPgc2
import Derived.Shelf.SlSortCmp.NoneTotal
import Derived.BigCall
import Derived.Shelf.SlicesQ.IndexFunc
import Derived.Shelf.SlicesE.Clone
import Derived.Ground.SlsfProg
import Derived.Ground.SlgfProg
import Derived.Ground.SlgnProg
import Derived.OwnWalk
import Derived.Deep.Slices
set_option maxRecDepth 100000
set_option maxHeartbeats 8000000
set_option linter.all false
namespace Go.Proofs.YtmpfadapbbjbkaaGreat.Dr
open Go.RowKit Go.Sort
section
variable {P:Program} {ops:Array Oper} {md:Region.Mode} {C:World->Prop}
def Ext (w w':World):Prop:=Below w w w'/\w.drawn<=w'.drawn
def rUpon (P:Program) (w:World) (v:Value):Result Next->Prop
 | .ok (.value u) w'=>w'=w/\u=v
 | .ok .skip w'=>w'=w/\v=undef
 | .ok (.enter f args) w'=>w'=w/\Calls P f args w (λe w''=>e=.returned v/\Ext w w'')
 | _=>False
def rAt (P:Program) (o:Oper) (a:Act) (w:World) (v:Value):Prop:=rUpon P w v ((execOp a.eval o).run P w)
def rOper (P:Program) (o:Oper) (a:Act) (C:World->Prop) (next:Act->Prop):Prop:=∃ v,(∀ w,C w->rAt P o a w v)/\next (a.put o.dst v)
def rWalk (P:Program) (ops:Array Oper) (C:World->Prop) (Q:Act->Prop):List Oper->Act->Prop
 | [],a=>Q a
 | o :: rest,a=>if Region.wanted o (yielded ops a.tmps) then rOper P o a C (rWalk P ops C Q rest) else rWalk P ops C Q rest (a.put o.dst undef)
theorem rWalk_nil {Q:Act->Prop} {a:Act} (h:Q a):rWalk P ops C Q [] a:=h
theorem rWalk_step {Q:Act->Prop} {a:Act} {o:Oper} {rest:List Oper} (h:∀ K:Act->Prop,(∀ a,rWalk P ops C Q rest a->K a)->if Region.wanted o (yielded ops a.tmps) then rOper P o a C K else K (a.put o.dst undef)):rWalk P ops C Q (o :: rest) a:=
 h _ (λ_ h=>h)
def rYields (P:Program) (ops:Array Oper) (C:World->Prop) (o:Oper) (v:Value) (a:Act):Prop:=
 (Region.wanted o (yielded ops a.tmps)=true/\∀ w,C w->rAt P o a w v)\/(Region.wanted o (yielded ops a.tmps)=false/\v=undef)
theorem rYields.same {o:Oper} {v:Value} {a a':Act} (hy:rYields P ops C o v a) (he:execOp a'.eval o=execOp a.eval o) (hw:Region.wanted o (yielded ops a'.tmps)=Region.wanted o (yielded ops a.tmps)):rYields P ops C o v a':=by
 unfold rYields rAt at *;rw [he,hw];exact hy
theorem rYields.of_walk {o:Oper} {rest:List Oper} {Q:Act->Prop} {a:Act} (h:rWalk P ops C Q (o :: rest) a):∃ v,rYields P ops C o v a/\rWalk P ops C Q rest (a.put o.dst v):=by
 simp only [rWalk] at h;cases hw:Region.wanted o (yielded ops a.tmps) with
 | true=>
  rw [hw,Yn rfl] at h;obtain ⟨v,h1,h2⟩:=h;exact ⟨v,.inl ⟨hw,h1⟩,h2⟩
 | false=>
  rw [hw,Ye (by simp)] at h;exact ⟨undef,.inr ⟨hw,rfl⟩,h⟩
def rAny (P:Program) (md:Region.Mode) (ops:Array Oper) (C:World->Prop) (n:Nat) (L:Array Bool->Act->Prop):Nat->Array Bool->Act->Prop
 | 0,listed,a=>L listed a
 | f+1,listed,a=>Region.ready md ops listed≠[] /\
  ∀ i∈Region.ready md ops listed,i < n/\∃ o v,ops[i]? = some o/\rYields P ops C o v a/\rAny P md ops C n L f (listed.setIfInBounds i true) (a.put o.dst v)
def TailWaits (md:Region.Mode) (ops:Array Oper) (n:Nat) (listed:Array Bool):Prop:=
 ∀ i,i < n->listed.getD i true=false->∀ t,n<=t->t ∉ Region.ready md ops listed
theorem qK {n i : Nat} {oi : Oper} {v : Value} {L : Array Bool -> Act -> Prop} (hi : ops[i]? = some oi) (hsel : ∀ (j : Nat) (o : Oper) cs b, ops[j]? = some o -> o.op ≠ .select cs b)
    (hin:i < n) (Inv:Array Bool->Prop) (hinv:∀ listed j,Inv listed->j∈Region.ready md ops listed->j < n->Inv (listed.setIfInBounds j true))
    (htail:∀ listed,Inv listed->TailWaits md ops n listed)
    (hdone:∀ listed a,L listed a->∀ j∈Region.ready md ops listed,n<=j) :
    ∀ (f:Nat) (listed:Array Bool) (a:Act),Inv listed ->
     (∀ j oj,ops[j]? = some oj->j≠i->listed.getD j true=false->(∀ e∈oj.after,Region.binds md e=true->e.on≠i)->oi.apart ops oj=true) ->
     i∈Region.ready md ops listed->rYields P ops C oi v a ->
     rAny P md ops C n L f (listed.setIfInBounds i true) (a.put oi.dst v)->rAny P md ops C n L (f+1) listed a:=by
 intro f;induction f with
 | zero=>
  intro listed a inv _ hr hy H;have hun:=(mem_ready.1 hr).1;refine ⟨λh=>(by rw [h] at hr;cases hr),λj hj=>?_⟩;have hjn:j < n:=by
   rcases KF j n with h | h
   ·exact h
   ·exact absurd hj (htail _ inv i hin hun j h)
  by_cases hji:j=i
  ·subst hji;exact ⟨hjn,oi,v,hi,hy,H⟩
  ·have:=hdone _ _ H j (ready_mono hj hji);omega
 | succ f ih=>
  intro listed a inv hfree hr hy H;have hun:=(mem_ready.1 hr).1;refine ⟨λh=>(by rw [h] at hr;cases hr),λj hj=>?_⟩;have hjn:j < n:=by
   rcases KF j n with h | h
   ·exact h
   ·exact absurd hj (htail _ inv i hin hun j h)
  by_cases hji:j=i
  ·subst hji;exact ⟨hjn,oi,v,hi,hy,H⟩
  ·obtain ⟨_,oj,u,hoj,hyj,hK⟩:=H.2 j (ready_mono hj hji);obtain ⟨hjun,oj',hoj',hall⟩:=mem_ready.1 hj;have hoo:oj'=oj:=XF (hoj'.symm.trans hoj);subst hoo;have hnot:∀ e∈oj'.after,Region.binds md e=true->e.on≠i:=λe he hb heq=>by
    have h1:=hall e he hb;rw [heq,getD_both hun] at h1;cases h1
   obtain ⟨h1,h2,h3⟩:=Oper.apart_spec (hfree j oj' hoj hji hjun hnot);have hyj':rYields P ops C oj' u a:=hyj.same (execOp_put oj' (λcs b=>hsel j oj' cs b hoj) a oi.dst v h1).symm (wanted_put oj' a oi.dst v h1).symm;have hyi':rYields P ops C oi v (a.put oj'.dst u):=hy.same (execOp_put oi (λcs b=>hsel i oi cs b hi) a oj'.dst u h3) (wanted_put oi a oj'.dst u h3);refine ⟨hjn,oj',u,hoj,hyj',?_⟩;refine ih (listed.setIfInBounds j true) _ (hinv _ _ inv hj hjn) (λk ok hk hki hun' hno=>?_) (ready_mono hr (Ne.symm hji)) hyi' ?_
   ·refine hfree k ok hk hki ?_ hno;by_cases hjk:j=k
    ·subst hjk;exact hjun
    ·rw [getD_set_ne true hjk] at hun';exact hun'
   ·rw [Xf _ _ hji,<-Act.put_comm a v u h2];exact hK
def orderB (md:Region.Mode) (ops:Array Oper) (n g:Nat):List Nat->Array Bool->Bool
 | [],listed=>Region.seqB md ops g n listed
 | k :: is,listed=>decide (k < n) && (Region.ready md ops listed).contains k && Region.free md ops listed k && orderB md ops n g is (listed.setIfInBounds k true)
theorem yO {n g : Nat} {Lq : Act -> Prop} (hsel : Region.noSelect ops = true) (Inv : Array Bool -> Prop)
    (hinv:∀ listed j,Inv listed->j∈Region.ready md ops listed->j < n->Inv (listed.setIfInBounds j true)) (htail:∀ listed,Inv listed->TailWaits md ops n listed) :
    ∀ (is:List Nat) (l:List Oper) (listed:Array Bool) (a:Act),is.map (λi=>ops[i]?)=l.map some->Inv listed->orderB md ops n g is listed=true->rWalk P ops C Lq l a ->
     rAny P md ops C n (λlisted' a'=>Region.seqB md ops g n listed'=true/\Lq a') is.length listed a
 | [],[],listed,a,_,_,hB,h=>⟨hB,h⟩
 | [],_ :: _,_,_,hl,_,_,_=>by cases hl
 | _ :: _,[],_,_,hl,_,_,_=>by cases hl
 | k :: is,o :: l,listed,a,hl,inv,hB,h=>by
  simp only [Xe,List.cons.injEq] at hl;obtain ⟨h0,hl⟩:=hl;simp only [orderB,Yf,Yh] at hB;obtain ⟨⟨⟨hkn,hr⟩,hf⟩,hB'⟩:=hB;have hr':k∈Region.ready md ops listed:=by simpa using hr
  obtain ⟨v,hy,hK⟩:=rYields.of_walk h;exact qK h0 (Region.noSelect_spec hsel) hkn Inv hinv htail (λlisted' a' hL=>seqB_ready hL.1) is.length listed a inv (Region.free_spec h0 hf) hr' hy
   (yO hsel Inv hinv htail is l _ _ hl (hinv _ _ inv hr' hkn) hB' hK)
theorem Ext.trans {a b c:World} (h:Ext a b) (k:Ext b c):Ext a c:=⟨Below.trans h.1 (Below.mono k.1 h.1.size),XD h.2 k.2⟩
theorem zn {i:Nat} {o:Oper} {v:Value} {a:Act} {K:Act->World->Prop} {Q:Exit->Act->World->Prop} {w:World} (hi:ops[i]? = some o) (hC:C w) (hy:rYields P ops C o v a) (h:∀ w',Ext w w'->K (a.put o.dst v) w'):wpOp P ops Q i K a w:=by
 have hrefl:Ext w w:=⟨Below.refl _ _,Yq _⟩;unfold wpOp;simp only [hi];rcases hy with ⟨hw,hv⟩ | ⟨hw,rfl⟩
 ·rw [Yn hw];refine .inl ?_;have h3:=hv w hC;unfold rAt at h3;unfold Oper.wp;generalize (execOp a.eval o).run P w=r at *
  cases r with
  | ok n w'=>
   cases n <;> simp only [rUpon] at h3 <;> simp only [Oper.upon]
   case value u=>obtain ⟨e1,e2⟩:=h3;rw [e1,e2];exact h _ hrefl
   case skip=>obtain ⟨e1,e2⟩:=h3;rw [e1,<-e2];exact h _ hrefl
   case enter f args=>
    obtain ⟨e1,hc⟩:=h3;rw [e1];exact hc.mono λe w'' ⟨he,hw''⟩=>by subst he;exact h _ hw''
  | halt x w'=>simp only [rUpon] at h3
 ·rw [hw,Ye (by simp)];exact h _ hrefl
theorem zz {n g : Nat} {Q : Exit -> Act -> World -> Prop} {Lq : Act -> Prop} {l : List Oper} {dst : Option Tmp} {u : Value} {D : World -> Prop} (hsel : Region.noSelect ops = true)
    (hg:l.length=g) (hl:∀ j,l[j]? = ops[n+j]?) (hD:∀ w,D w->C w) (hDe:∀ w w',D w->Ext w w'->D w')
    (J:Nat->Prop) (hap:∀ i o,i < n->¬ J i->ops[i]? = some o->(∀ d,dst=some d->d ∉ o.looksAt ops)/\(∀ d,dst=some d->o.dst≠some d))
    (hQ:∀ a w,D w->Lq a->wpList P ops Q l (a.put dst u) w) :
    ∀ (f:Nat) (listed:Array Bool) (a:Act) (w:World),D w->(∀ i,J i->listed.getD i true=true) ->
     rAny P md ops C n (λlisted' a'=>Region.seqB md ops g n listed'=true/\Lq a') f listed a->wpAny P md ops Q (f+g) listed (a.put dst u) w
 | 0,listed,a,w,hw,_,h=>by
  rw [Xa];subst hg;exact wpAny_of_seq l n listed _ w hl h.1 (hQ a w hw h.2)
 | f+1,listed,a,w,hw,hJ,h=>by
  rw [show f+1+g=(f+g)+1 by omega];refine ⟨λh0=>absurd h0 h.1,λi hi=>?_⟩;obtain ⟨hin,o,v,ho,hy,hK⟩:=h.2 i hi;have hiun:=(mem_ready.1 hi).1;have hnJ:¬ J i:=λhj=>by rw [hJ i hj] at hiun;cases hiun
  obtain ⟨h1,h2⟩:=hap i o hin hnJ ho;have hy':rYields P ops C o v (a.put dst u):=hy.same (execOp_put o (λcs b=>Region.noSelect_spec hsel i o cs b ho) a dst u h1) (wanted_put o a dst u h1);refine zn ho (hD w hw) hy' λw' hw'=>?_;rw [Act.put_comm a u v h2];refine zz hsel hg hl hD hDe J hap hQ f _ _ w' (hDe _ _ hw hw') (λk hk=>?_) hK;by_cases hik:i=k
  ·subst hik;exact absurd hk hnJ
  ·rw [getD_set_ne true hik];exact hJ k hk
def plainB (md:Region.Mode) (ops:Array Oper) (n:Nat):Bool:=
 Region.noSelect ops && decide (n < ops.size) && Region.sinkB md ops n && Region.chainB md ops n && orderB md ops n (ops.size - n) (List.range n) (Array.replicate ops.size false)
theorem headInv0 {n:Nat}:HeadInv md ops n (Array.replicate ops.size false):=
 ⟨by simp,λj oj _ hl=>(by rw [getD_replicate_false] at hl;cases hl),λt _ ht=>getD_in (by simpa using ht) (getD_replicate_false _ _)⟩
theorem wp_region_tail {id:Nat} {Q:Exit->Act->World->Prop} {a:Act} {w:World} {l:List Oper} (n:Nat) (hm:P.follows .mixedOrders=true) (hB:plainB .any l.toArray n=true) (hC:∀ w',Below w w w'->C w') (h:rWalk P l.toArray C (λa'=>∀ w',Ext w w'->wpList P l.toArray Q (l.drop n) a' w') (l.take n) a):(Code.region id l.toArray true).wp P Q a w:=by
 simp only [plainB,Yf,Yh] at hB;obtain ⟨⟨⟨⟨hsel,hn⟩,hs⟩,hc⟩,ho⟩:=hB;have hn':n < l.length:=by simpa using hn
 have hmap:(List.range n).map (λi=>l.toArray[i]?)=(l.take n).map some:=by
  apply Kh;intro j;simp only [JM,Xo];by_cases hj:j < n
  ·simp [hj,show j < l.length by omega]
  ·simp [hj]
 have H:=yO (md:=.any) (g:=l.toArray.size - n) hsel (HeadInv .any l.toArray n) (λlisted j inv hj hjn=>inv.set hj hjn) (λlisted inv i hi hun=>tail_waits hs hc hn inv _ i rfl hi hun)
  (List.range n) (l.take n) _ a hmap headInv0 ho h
 refine wp_region_any hm ?_;have:=zz (md:=.any) (Q:=Q) (l:=l.drop n) (dst:=none) (u:=undef) (D:=λw'=>Ext w w') hsel (by simp) (λj=>by simp [KC])
  (λw' h=>hC w' h.1) (λa b ha hb=>Ext.trans (a:=w) ha hb) (λ_=>False) (λi o _ _ _=>⟨λd hd=>(by cases hd),λd hd=>(by cases hd)⟩)
  (λa' w' hw' hl=>hl w' hw') _ _ _ { w with drawn:=w.drawn+1 } ⟨⟨rfl,rfl,rfl,Yq _,λ_ _=>rfl⟩,by simp⟩ (λi hi=>hi.elim) H
 rw [JD,show n+(l.toArray.size - n)=l.toArray.size by omega] at this;exact this
end
theorem toExt {P:Program} {f:FuncId} {args:Array Value} {v:Value} (c:∀ w:World,Calls P f args w λe w'=>e=.returned v/\Ext w w'):∀ w:World,Calls P f args w λe w'=>e=.returned v/\Ext w w':=c
theorem Ext.grown {w w':World} (h:Ext w w'):∃ q os,w'=grow (w.drewN q) os:=by
 obtain ⟨p,hp⟩:=regrown_of_below h.1;refine ⟨p.d - w.drawn,p.os,?_⟩;have h2:=h.2;have e:w'.drawn=p.d:=by rw [hp];rfl
 rw [e] at h2;rw [hp];have:redrawn w p.d=w.drewN (p.d - w.drawn):=by unfold redrawn World.drewN;congr 1;omega
 rw [this]
end Go.Proofs.YtmpfadapbbjbkaaGreat.Dr
namespace Go.Proofs.YtmpfadapbbjbkaaGreat
open _root_.Go.Proofs.Tryz
section
open Go.RowKit Go.Sort
attribute [local go_sem] Dr.rOper Dr.rAt Dr.rUpon cell_set sg_i64 sg_u64 alloc_cell alloc_frozen
attribute [local go_sem 10000] pt_eql pt_neq tri_eql
attribute [local irreducible] Dr.rWalk
theorem vT (p q:Pt) (w:World):Calls prog 106 #[p,q] w λe w'=>e=.returned (.int .i64 (cmpP p q))/\Dr.Ext w w':=by
 by_cases h:p.x=q.x
 ·have e1:(p.x != q.x)=false:=by simp [h]
  have e2:cmpP p q=cmpN p.y q.y:=by unfold cmpP;rw [Yn h]
  rw [e2];clear e2 h
  go_enter func106,ntmps106
  go_wp2_with (go_at_call 122;refine (j7 _ _ _).mono ?_;rintro e w' ⟨rfl,rfl⟩)
  go_returns
  exact ⟨rfl,by go_grown,Yq _⟩
 ·have e1:(p.x != q.x)=true:=by simp [h]
  have e2:cmpP p q=cmpN p.x q.x:=by unfold cmpP;rw [Ye h]
  rw [e2];clear e2 h
  go_enter func106,ntmps106
  go_wp2_with (go_at_call 122;refine (j7 _ _ _).mono ?_;rintro e w' ⟨rfl,rfl⟩)
  go_returns
  exact ⟨rfl,by go_grown,Yq _⟩
theorem dor_0 (x y z:Int) (h0:(x == 0)=false) (w:World) (bk:Nat) (hB:Box w bk [x,y,z] 3):Calls prog 105 #[.slice (some ⟨bk,0,none⟩) 3 3] w λe w'=>e=.returned (.int .i64 x)/\Dr.Ext w w':=by
 have Fs:=hB.f
 go_enter func105,ntmps105
 go_wp2_with fail;refine wp_loop_rounds 5 ?_;try rw [rounds_succ]
 go_wp2_with fail
 go_ret
 exact ⟨rfl,by go_grown,Yq _⟩
theorem dor_1 (x y z:Int) (h0:(x == 0)=true) (h1:(y == 0)=false) (w:World) (bk:Nat) (hB:Box w bk [x,y,z] 3):Calls prog 105 #[.slice (some ⟨bk,0,none⟩) 3 3] w λe w'=>e=.returned (.int .i64 y)/\Dr.Ext w w':=by
 have Fs:=hB.f
 go_enter func105,ntmps105
 go_wp2_with fail;refine wp_loop_rounds 5 ?_;try rw [rounds_succ]
 go_wp2_with fail;try rw [rounds_succ]
 go_wp2_with fail
 go_ret
 exact ⟨rfl,by go_grown,Yq _⟩
theorem dor_2 (x y z:Int) (h0:(x == 0)=true) (h1:(y == 0)=true) (h2:(z == 0)=false) (w:World) (bk:Nat) (hB:Box w bk [x,y,z] 3):Calls prog 105 #[.slice (some ⟨bk,0,none⟩) 3 3] w λe w'=>e=.returned (.int .i64 z)/\Dr.Ext w w':=by
 have Fs:=hB.f
 go_enter func105,ntmps105
 go_wp2_with fail;refine wp_loop_rounds 5 ?_;try rw [rounds_succ]
 go_wp2_with fail;try rw [rounds_succ]
 go_wp2_with fail;try rw [rounds_succ]
 go_wp2_with fail
 go_ret
 exact ⟨rfl,by go_grown,Yq _⟩
theorem dor_3 (x y z:Int) (h0:(x == 0)=true) (h1:(y == 0)=true) (h2:(z == 0)=true) (w:World) (bk:Nat) (hB:Box w bk [x,y,z] 3):Calls prog 105 #[.slice (some ⟨bk,0,none⟩) 3 3] w λe w'=>e=.returned (.int .i64 0)/\Dr.Ext w w':=by
 have Fs:=hB.f
 go_enter func105,ntmps105
 go_wp2_with fail;refine wp_loop_rounds 5 ?_;try rw [rounds_succ]
 go_wp2_with fail;try rw [rounds_succ]
 go_wp2_with fail;try rw [rounds_succ]
 go_wp2_with fail;try rw [rounds_succ]
 go_wp2_with fail
 go_ret
 exact ⟨rfl,by go_grown,Yq _⟩
theorem YM (x y z:Int) (w:World) (bk:Nat) (hB:Box w bk [x,y,z] 3):Calls prog 105 #[.slice (some ⟨bk,0,none⟩) 3 3] w λe w'=>e=.returned (.int .i64 (or3 x y z))/\Dr.Ext w w':=by
 cases h0:(x == 0) with
 | false=>rw [show or3 x y z=x by simp at h0;simp [or3,h0]];exact dor_0 x y z h0 w bk hB
 | true=>cases h1:(y == 0) with
  | false=>rw [show or3 x y z=y by simp at h0 h1;simp [or3,h0,h1]];exact dor_1 x y z h0 h1 w bk hB
  | true=>cases h2:(z == 0) with
   | false=>rw [show or3 x y z=z by simp at h0 h1;simp [or3,h0,h1]];exact dor_2 x y z h0 h1 h2 w bk hB
   | true=>rw [show or3 x y z=0 by simp at h0 h1 h2;simp [or3,h0,h1,h2]];exact dor_3 x y z h0 h1 h2 w bk hB
theorem dcmpT_any (S T:Tri3) (w:World):Calls prog 51 #[S,T] w λe w'=>e=.returned (.int .i64 (cmpT S T))/\Dr.Ext w w':=by
 have d1:=vT S.A T.A;have d2:=vT S.B T.B;have d3:=vT S.C T.C;rw [show cmpT S T=or3 (cmpP S.A T.A) (cmpP S.B T.B) (cmpP S.C T.C) by rfl];generalize cmpP S.A T.A=m at *
 generalize cmpP S.B T.B=n at *
 generalize cmpP S.C T.C=o at *
 go_enter func51,ntmps51
 go_wp2_with fail;refine z7 λW1 hW=>?_;have Bs:Box W1 w [S.A.x,S.A.y,S.B.x,S.B.y,S.C.x,S.C.y] 28:=by rw [hW];exact (Box.new rfl).old _
 have Bt:Box W1 (w+1) [T.A.x,T.A.y,T.B.x,T.B.y,T.C.x,T.C.y] 28:=by rw [hW];exact Box.new (by simp)
 have hw:Below w w W1:=by rw [hW];go_grown
 have hdr:w.drawn<=W1.drawn:=by rw [hW];exact Yq _
 clear hW;have Kk:=J2 Bs.cells Bt.cells;refine Dr.wp_region_tail 15 (by kernel_rfl) (by kernel_rfl) (C:=λw'=>∃ p:Regrown,w'=grow (redrawn W1 p.d) p.os) rgB ?_;simp only [tK1,tK0,dP1,dP0];repeat (first | (refine Dr_skip (Eq.refl false) ?_;simp only [Act.put,sT2,sT1,sT0]) | (refine Dr.rWalk_step (λK hK=>?_);go_simp;first | (refine hK _ ?_;clear hK K) | (apply Exists.intro;refine ⟨λ_=>?_,hK _ ?_⟩;(first | with_reducible exact Dr.toExt d1 _ | with_reducible exact Dr.toExt d2 _ | with_reducible exact Dr.toExt d3 _);clear hK K)))
 refine Dr.rWalk_nil ?_;intro w2 hb0;have hb:=hb0.1;replace hdr:=XD hdr hb0.2;clear hb0;clear Kk;obtain ⟨Bs,Bt,hw,-⟩:=qX2 Bs Bt hw hb;have Fs:=Bs.f;have Ft:=Bt.f;go_wp2_with fail;refine zG λW3 hW=>?_;obtain ⟨bkv,hbv⟩:∃ b,w2.heap.size=b:=⟨_,rfl⟩;rw [hbv];have lsv:=Bs.lt;rw [hbv] at lsv;have ltv:=Bt.lt;rw [hbv] at ltv;have fv:=hw.size;rw [hbv] at fv;have Bv:Box W3 bkv [.int .i64 m,.int .i64 n,.int .i64 o] 3:=by rw [hW];exact Box.new hbv.symm
 replace Bs:Box W3 w [S.A.x,S.A.y,S.B.x,S.B.y,S.C.x,S.C.y] 28:=by rw [hW];exact Bs.old _
 replace Bt:Box W3 (w+1) [T.A.x,T.A.y,T.B.x,T.B.y,T.C.x,T.C.y] 28:=by rw [hW];exact Bt.old _
 replace hw:Below w w W3:=by have hl:=hw.size;rw [hW];go_grown
 replace hdr:w.drawn<=W3.drawn:=by rw [hW];exact hdr
 clear hW hbv;refine (YM m n o _ bkv Bv).mono ?_;rintro e w4 ⟨rfl,hb0⟩;have hb:=hb0.1;replace hdr:=XD hdr hb0.2;clear hb0;clear Fs Ft;obtain ⟨Bs,Bt,Bv,hw,-⟩:=qX3 Bs Bt Bv hw hb;clear hb;have Fs:=Bs.f;have Ft:=Bt.f;have Fv:=Bv.f;go_wp2
 go_ret
 exact ⟨rfl,by have hl:=hw.size;go_grown,hdr⟩
attribute [local go_sem] rOper rAt rUpon
theorem tmake_n0 (a b c:Pt) (l0:lds ⟨a,b,c⟩=true) (ho:decide (ori a b c < 0)=true) (hv:valT ⟨a,c,b⟩=true) (w:World):Calls prog 49 #[a,b,c] w (Rt w (.tuple #[.agg #[a.x,a.y,c.x,c.y,b.x,b.y],.bool true])):=by
 have k0:=zg ⟨a,b,c⟩;rw [l0] at k0;dsimp only at k0;have co:=zF a b c;have cv:=zq ⟨a,c,b⟩;rw [hv] at cv;dsimp only at cv;generalize ori a b c=n at *
 clear hv l0
 go_enter func49,ntmps49
 go_wp2_with fail;refine qD5 λW1 Ba Bb Bc Br Bt hw=>?_;refine wp_loop_rounds 4 ?_;try rw [rounds_succ]
 have F0:=J5 Ba.f Bb.f Bc.f Br.f Bt.f;go_wp2_with fail;clear F0;refine qC5 (k0 _) Ba Bb Bc Br Bt hw λw2 Ba Bb Bc Br Bt hw F0=>?_;go_wp2_with fail;clear F0;refine qK5 (co _) Ba Bb Bc Br Bt hw λw3 Ba Bb Bc Br Bt hw=>?_;have Fa:=Ba.f;have Fb:=Bb.f;have Fc:=Bc.f;have Fr:=Br.f;have Ft:=Bt.f;go_wp2_with fail;refine zG λW4 hW=>?_;replace Ba:=sto Ba hW;replace Bb:=sto Bb hW;replace Bc:=sto Bc hW;replace Br:=sto Br hW;replace Bt:=sto Bt hW;replace hw:=stw hw hW;clear Fa Fb Fc Fr Ft;clear hW;refine qK5 (cv _) Ba Bb Bc Br Bt hw λw5 Ba Bb Bc Br Bt hw=>?_;have Fa:=Ba.f;have Fb:=Bb.f;have Fc:=Bc.f;have Fr:=Br.f;have Ft:=Bt.f;go_wp2_with fail;refine bodyPost_ret (v:=.tuple #[.agg #[a.x,a.y,c.x,c.y,b.x,b.y],.bool true]) (by simp [results,results49,go_sem,Fr]) rfl ⟨rfl,by have hl:=hw.size;go_grown⟩
theorem tmake_p0 (a b c:Pt) (l0:lds ⟨a,b,c⟩=true) (ho:decide (ori a b c < 0)=false) (hv:valT ⟨a,b,c⟩=true) (w:World):Calls prog 49 #[a,b,c] w (Rt w (.tuple #[.agg #[a.x,a.y,b.x,b.y,c.x,c.y],.bool true])):=by
 have k0:=zg ⟨a,b,c⟩;rw [l0] at k0;dsimp only at k0;have co:=zF a b c;have cv:=zq ⟨a,b,c⟩;rw [hv] at cv;dsimp only at cv;generalize ori a b c=n at *
 clear hv l0
 go_enter func49,ntmps49
 go_wp2_with fail;refine qD5 λW1 Ba Bb Bc Br Bt hw=>?_;refine wp_loop_rounds 4 ?_;try rw [rounds_succ]
 have F0:=J5 Ba.f Bb.f Bc.f Br.f Bt.f;go_wp2_with fail;clear F0;refine qC5 (k0 _) Ba Bb Bc Br Bt hw λw2 Ba Bb Bc Br Bt hw F0=>?_;go_wp2_with fail;clear F0;refine qC5 (co _) Ba Bb Bc Br Bt hw λw3 Ba Bb Bc Br Bt hw F0=>?_;go_wp2_with fail;clear F0;refine qK5 (cv _) Ba Bb Bc Br Bt hw λw4 Ba Bb Bc Br Bt hw=>?_;have Fa:=Ba.f;have Fb:=Bb.f;have Fc:=Bc.f;have Fr:=Br.f;have Ft:=Bt.f;go_wp2_with fail;refine bodyPost_ret (v:=.tuple #[.agg #[a.x,a.y,b.x,b.y,c.x,c.y],.bool true]) (by simp [results,results49,go_sem,Fr]) rfl ⟨rfl,by have hl:=hw.size;go_grown⟩
theorem tmake_z0 (a b c:Pt) (l0:lds ⟨a,b,c⟩=true) (ho:decide (ori a b c < 0)=false) (hv:valT ⟨a,b,c⟩=false) (w:World):Calls prog 49 #[a,b,c] w (Rt w (.tuple #[.agg #[(),(),(),(),(),()],.bool false])):=by
 have k0:=zg ⟨a,b,c⟩;rw [l0] at k0;dsimp only at k0;have co:=zF a b c;have cv:=zq ⟨a,b,c⟩;rw [hv] at cv;dsimp only at cv;generalize ori a b c=n at *
 clear hv l0
 go_enter func49,ntmps49
 go_wp2_with fail;refine qD5 λW1 Ba Bb Bc Br Bt hw=>?_;refine wp_loop_rounds 4 ?_;try rw [rounds_succ]
 have F0:=J5 Ba.f Bb.f Bc.f Br.f Bt.f;go_wp2_with fail;clear F0;refine qC5 (k0 _) Ba Bb Bc Br Bt hw λw2 Ba Bb Bc Br Bt hw F0=>?_;go_wp2_with fail;clear F0;refine qC5 (co _) Ba Bb Bc Br Bt hw λw3 Ba Bb Bc Br Bt hw F0=>?_;go_wp2_with fail;clear F0;refine qK5 (cv _) Ba Bb Bc Br Bt hw λw4 Ba Bb Bc Br Bt hw=>?_;have Fa:=Ba.f;have Fb:=Bb.f;have Fc:=Bc.f;have Fr:=Br.f;have Ft:=Bt.f;go_wp2_with fail;refine bodyPost_ret (v:=.tuple #[.agg #[(),(),(),(),(),()],.bool false]) (by simp [results,results49,go_sem,Fr]) rfl ⟨rfl,by have hl:=hw.size;go_grown⟩
theorem tmake_n1 (a b c:Pt) (l0:lds ⟨a,b,c⟩=false) (l1:lds ⟨b,c,a⟩=true) (ho:decide (ori b c a < 0)=true) (hv:valT ⟨b,a,c⟩=true) (w:World):Calls prog 49 #[a,b,c] w (Rt w (.tuple #[.agg #[b.x,b.y,a.x,a.y,c.x,c.y],.bool true])):=by
 have k0:=zg ⟨a,b,c⟩;rw [l0] at k0;dsimp only at k0;have r0:=yI ⟨a,b,c⟩;dsimp only at r0;have k1:=zg ⟨b,c,a⟩;rw [l1] at k1;dsimp only at k1;have co:=zF b c a;have cv:=zq ⟨b,a,c⟩;rw [hv] at cv;dsimp only at cv;generalize ori b c a=n at *
 clear hv l0 l1
 go_enter func49,ntmps49
 go_wp2_with fail;refine qD5 λW1 Ba Bb Bc Br Bt hw=>?_;refine wp_loop_rounds 4 ?_;try rw [rounds_succ]
 have F0:=J5 Ba.f Bb.f Bc.f Br.f Bt.f;go_wp2_with fail;clear F0;refine qC5 (k0 _) Ba Bb Bc Br Bt hw λw2 Ba Bb Bc Br Bt hw F0=>?_;go_wp2_with fail;clear F0;refine qK5 (r0 _) Ba Bb Bc Br Bt hw λw3 Ba Bb Bc Br Bt hw=>?_;have Fa:=Ba.f;have Fb:=Bb.f;have Fc:=Bc.f;have Fr:=Br.f;have Ft:=Bt.f;go_wp2_with fail;refine z7 λW4 hW=>?_;replace Ba:=sto Ba hW;replace Bb:=sto Bb hW;replace Bc:=sto Bc hW;replace Br:=sto Br hW;replace Bt:=sto Bt hW;replace hw:=stw hw hW;clear Fa Fb Fc Fr Ft;clear hW;try rw [rounds_succ]
 have F0:=J5 Ba.f Bb.f Bc.f Br.f Bt.f;go_wp2_with fail;clear F0;refine qC5 (k1 _) Ba Bb Bc Br Bt hw λw5 Ba Bb Bc Br Bt hw F0=>?_;go_wp2_with fail;clear F0;refine qK5 (co _) Ba Bb Bc Br Bt hw λw6 Ba Bb Bc Br Bt hw=>?_;have Fa:=Ba.f;have Fb:=Bb.f;have Fc:=Bc.f;have Fr:=Br.f;have Ft:=Bt.f;go_wp2_with fail;refine zG λW7 hW=>?_;replace Ba:=sto Ba hW;replace Bb:=sto Bb hW;replace Bc:=sto Bc hW;replace Br:=sto Br hW;replace Bt:=sto Bt hW;replace hw:=stw hw hW;clear Fa Fb Fc Fr Ft;clear hW;refine qK5 (cv _) Ba Bb Bc Br Bt hw λw8 Ba Bb Bc Br Bt hw=>?_;have Fa:=Ba.f;have Fb:=Bb.f;have Fc:=Bc.f;have Fr:=Br.f;have Ft:=Bt.f;go_wp2_with fail;refine bodyPost_ret (v:=.tuple #[.agg #[b.x,b.y,a.x,a.y,c.x,c.y],.bool true]) (by simp [results,results49,go_sem,Fr]) rfl ⟨rfl,by have hl:=hw.size;go_grown⟩
theorem tmake_p1 (a b c:Pt) (l0:lds ⟨a,b,c⟩=false) (l1:lds ⟨b,c,a⟩=true) (ho:decide (ori b c a < 0)=false) (hv:valT ⟨b,c,a⟩=true) (w:World):Calls prog 49 #[a,b,c] w (Rt w (.tuple #[.agg #[b.x,b.y,c.x,c.y,a.x,a.y],.bool true])):=by
 have k0:=zg ⟨a,b,c⟩;rw [l0] at k0;dsimp only at k0;have r0:=yI ⟨a,b,c⟩;dsimp only at r0;have k1:=zg ⟨b,c,a⟩;rw [l1] at k1;dsimp only at k1;have co:=zF b c a;have cv:=zq ⟨b,c,a⟩;rw [hv] at cv;dsimp only at cv;generalize ori b c a=n at *
 clear hv l0 l1
 go_enter func49,ntmps49
 go_wp2_with fail;refine qD5 λW1 Ba Bb Bc Br Bt hw=>?_;refine wp_loop_rounds 4 ?_;try rw [rounds_succ]
 have F0:=J5 Ba.f Bb.f Bc.f Br.f Bt.f;go_wp2_with fail;clear F0;refine qC5 (k0 _) Ba Bb Bc Br Bt hw λw2 Ba Bb Bc Br Bt hw F0=>?_;go_wp2_with fail;clear F0;refine qK5 (r0 _) Ba Bb Bc Br Bt hw λw3 Ba Bb Bc Br Bt hw=>?_;have Fa:=Ba.f;have Fb:=Bb.f;have Fc:=Bc.f;have Fr:=Br.f;have Ft:=Bt.f;go_wp2_with fail;refine z7 λW4 hW=>?_;replace Ba:=sto Ba hW;replace Bb:=sto Bb hW;replace Bc:=sto Bc hW;replace Br:=sto Br hW;replace Bt:=sto Bt hW;replace hw:=stw hw hW;clear Fa Fb Fc Fr Ft;clear hW;try rw [rounds_succ]
 have F0:=J5 Ba.f Bb.f Bc.f Br.f Bt.f;go_wp2_with fail;clear F0;refine qC5 (k1 _) Ba Bb Bc Br Bt hw λw5 Ba Bb Bc Br Bt hw F0=>?_;go_wp2_with fail;clear F0;refine qC5 (co _) Ba Bb Bc Br Bt hw λw6 Ba Bb Bc Br Bt hw F0=>?_;go_wp2_with fail;clear F0;refine qK5 (cv _) Ba Bb Bc Br Bt hw λw7 Ba Bb Bc Br Bt hw=>?_;have Fa:=Ba.f;have Fb:=Bb.f;have Fc:=Bc.f;have Fr:=Br.f;have Ft:=Bt.f;go_wp2_with fail;refine bodyPost_ret (v:=.tuple #[.agg #[b.x,b.y,c.x,c.y,a.x,a.y],.bool true]) (by simp [results,results49,go_sem,Fr]) rfl ⟨rfl,by have hl:=hw.size;go_grown⟩
theorem tmake_z1 (a b c:Pt) (l0:lds ⟨a,b,c⟩=false) (l1:lds ⟨b,c,a⟩=true) (ho:decide (ori b c a < 0)=false) (hv:valT ⟨b,c,a⟩=false) (w:World):Calls prog 49 #[a,b,c] w (Rt w (.tuple #[.agg #[(),(),(),(),(),()],.bool false])):=by
 have k0:=zg ⟨a,b,c⟩;rw [l0] at k0;dsimp only at k0;have r0:=yI ⟨a,b,c⟩;dsimp only at r0;have k1:=zg ⟨b,c,a⟩;rw [l1] at k1;dsimp only at k1;have co:=zF b c a;have cv:=zq ⟨b,c,a⟩;rw [hv] at cv;dsimp only at cv;generalize ori b c a=n at *
 clear hv l0 l1
 go_enter func49,ntmps49
 go_wp2_with fail;refine qD5 λW1 Ba Bb Bc Br Bt hw=>?_;refine wp_loop_rounds 4 ?_;try rw [rounds_succ]
 have F0:=J5 Ba.f Bb.f Bc.f Br.f Bt.f;go_wp2_with fail;clear F0;refine qC5 (k0 _) Ba Bb Bc Br Bt hw λw2 Ba Bb Bc Br Bt hw F0=>?_;go_wp2_with fail;clear F0;refine qK5 (r0 _) Ba Bb Bc Br Bt hw λw3 Ba Bb Bc Br Bt hw=>?_;have Fa:=Ba.f;have Fb:=Bb.f;have Fc:=Bc.f;have Fr:=Br.f;have Ft:=Bt.f;go_wp2_with fail;refine z7 λW4 hW=>?_;replace Ba:=sto Ba hW;replace Bb:=sto Bb hW;replace Bc:=sto Bc hW;replace Br:=sto Br hW;replace Bt:=sto Bt hW;replace hw:=stw hw hW;clear Fa Fb Fc Fr Ft;clear hW;try rw [rounds_succ]
 have F0:=J5 Ba.f Bb.f Bc.f Br.f Bt.f;go_wp2_with fail;clear F0;refine qC5 (k1 _) Ba Bb Bc Br Bt hw λw5 Ba Bb Bc Br Bt hw F0=>?_;go_wp2_with fail;clear F0;refine qC5 (co _) Ba Bb Bc Br Bt hw λw6 Ba Bb Bc Br Bt hw F0=>?_;go_wp2_with fail;clear F0;refine qK5 (cv _) Ba Bb Bc Br Bt hw λw7 Ba Bb Bc Br Bt hw=>?_;have Fa:=Ba.f;have Fb:=Bb.f;have Fc:=Bc.f;have Fr:=Br.f;have Ft:=Bt.f;go_wp2_with fail;refine bodyPost_ret (v:=.tuple #[.agg #[(),(),(),(),(),()],.bool false]) (by simp [results,results49,go_sem,Fr]) rfl ⟨rfl,by have hl:=hw.size;go_grown⟩
theorem tmake_n2 (a b c:Pt) (l0:lds ⟨a,b,c⟩=false) (l1:lds ⟨b,c,a⟩=false) (l2:lds ⟨c,a,b⟩=true) (ho:decide (ori c a b < 0)=true) (hv:valT ⟨c,b,a⟩=true) (w:World):Calls prog 49 #[a,b,c] w (Rt w (.tuple #[.agg #[c.x,c.y,b.x,b.y,a.x,a.y],.bool true])):=by
 have k0:=zg ⟨a,b,c⟩;rw [l0] at k0;dsimp only at k0;have r0:=yI ⟨a,b,c⟩;dsimp only at r0;have k1:=zg ⟨b,c,a⟩;rw [l1] at k1;dsimp only at k1;have r1:=yI ⟨b,c,a⟩;dsimp only at r1;have k2:=zg ⟨c,a,b⟩;rw [l2] at k2;dsimp only at k2;have co:=zF c a b;have cv:=zq ⟨c,b,a⟩;rw [hv] at cv;dsimp only at cv;generalize ori c a b=n at *
 clear hv l0 l1 l2
 go_enter func49,ntmps49
 go_wp2_with fail;refine qD5 λW1 Ba Bb Bc Br Bt hw=>?_;refine wp_loop_rounds 4 ?_;try rw [rounds_succ]
 have F0:=J5 Ba.f Bb.f Bc.f Br.f Bt.f;go_wp2_with fail;clear F0;refine qC5 (k0 _) Ba Bb Bc Br Bt hw λw2 Ba Bb Bc Br Bt hw F0=>?_;go_wp2_with fail;clear F0;refine qK5 (r0 _) Ba Bb Bc Br Bt hw λw3 Ba Bb Bc Br Bt hw=>?_;have Fa:=Ba.f;have Fb:=Bb.f;have Fc:=Bc.f;have Fr:=Br.f;have Ft:=Bt.f;go_wp2_with fail;refine z7 λW4 hW=>?_;replace Ba:=sto Ba hW;replace Bb:=sto Bb hW;replace Bc:=sto Bc hW;replace Br:=sto Br hW;replace Bt:=sto Bt hW;replace hw:=stw hw hW;clear Fa Fb Fc Fr Ft;clear hW;try rw [rounds_succ]
 have F0:=J5 Ba.f Bb.f Bc.f Br.f Bt.f;go_wp2_with fail;clear F0;refine qC5 (k1 _) Ba Bb Bc Br Bt hw λw5 Ba Bb Bc Br Bt hw F0=>?_;go_wp2_with fail;clear F0;refine qK5 (r1 _) Ba Bb Bc Br Bt hw λw6 Ba Bb Bc Br Bt hw=>?_;have Fa:=Ba.f;have Fb:=Bb.f;have Fc:=Bc.f;have Fr:=Br.f;have Ft:=Bt.f;go_wp2_with fail;refine z7 λW7 hW=>?_;replace Ba:=sto Ba hW;replace Bb:=sto Bb hW;replace Bc:=sto Bc hW;replace Br:=sto Br hW;replace Bt:=sto Bt hW;replace hw:=stw hw hW;clear Fa Fb Fc Fr Ft;clear hW;try rw [rounds_succ]
 have F0:=J5 Ba.f Bb.f Bc.f Br.f Bt.f;go_wp2_with fail;clear F0;refine qC5 (k2 _) Ba Bb Bc Br Bt hw λw8 Ba Bb Bc Br Bt hw F0=>?_;go_wp2_with fail;clear F0;refine qK5 (co _) Ba Bb Bc Br Bt hw λw9 Ba Bb Bc Br Bt hw=>?_;have Fa:=Ba.f;have Fb:=Bb.f;have Fc:=Bc.f;have Fr:=Br.f;have Ft:=Bt.f;go_wp2_with fail;refine zG λW10 hW=>?_;replace Ba:=sto Ba hW;replace Bb:=sto Bb hW;replace Bc:=sto Bc hW;replace Br:=sto Br hW;replace Bt:=sto Bt hW;replace hw:=stw hw hW;clear Fa Fb Fc Fr Ft;clear hW;refine qK5 (cv _) Ba Bb Bc Br Bt hw λw11 Ba Bb Bc Br Bt hw=>?_;have Fa:=Ba.f;have Fb:=Bb.f;have Fc:=Bc.f;have Fr:=Br.f;have Ft:=Bt.f;go_wp2_with fail;refine bodyPost_ret (v:=.tuple #[.agg #[c.x,c.y,b.x,b.y,a.x,a.y],.bool true]) (by simp [results,results49,go_sem,Fr]) rfl ⟨rfl,by have hl:=hw.size;go_grown⟩
theorem tmake_p2 (a b c:Pt) (l0:lds ⟨a,b,c⟩=false) (l1:lds ⟨b,c,a⟩=false) (l2:lds ⟨c,a,b⟩=true) (ho:decide (ori c a b < 0)=false) (hv:valT ⟨c,a,b⟩=true) (w:World):Calls prog 49 #[a,b,c] w (Rt w (.tuple #[.agg #[c.x,c.y,a.x,a.y,b.x,b.y],.bool true])):=by
 have k0:=zg ⟨a,b,c⟩;rw [l0] at k0;dsimp only at k0;have r0:=yI ⟨a,b,c⟩;dsimp only at r0;have k1:=zg ⟨b,c,a⟩;rw [l1] at k1;dsimp only at k1;have r1:=yI ⟨b,c,a⟩;dsimp only at r1;have k2:=zg ⟨c,a,b⟩;rw [l2] at k2;dsimp only at k2;have co:=zF c a b;have cv:=zq ⟨c,a,b⟩;rw [hv] at cv;dsimp only at cv;generalize ori c a b=n at *
 clear hv l0 l1 l2
 go_enter func49,ntmps49
 go_wp2_with fail;refine qD5 λW1 Ba Bb Bc Br Bt hw=>?_;refine wp_loop_rounds 4 ?_;try rw [rounds_succ]
 have F0:=J5 Ba.f Bb.f Bc.f Br.f Bt.f;go_wp2_with fail;clear F0;refine qC5 (k0 _) Ba Bb Bc Br Bt hw λw2 Ba Bb Bc Br Bt hw F0=>?_;go_wp2_with fail;clear F0;refine qK5 (r0 _) Ba Bb Bc Br Bt hw λw3 Ba Bb Bc Br Bt hw=>?_;have Fa:=Ba.f;have Fb:=Bb.f;have Fc:=Bc.f;have Fr:=Br.f;have Ft:=Bt.f;go_wp2_with fail;refine z7 λW4 hW=>?_;replace Ba:=sto Ba hW;replace Bb:=sto Bb hW;replace Bc:=sto Bc hW;replace Br:=sto Br hW;replace Bt:=sto Bt hW;replace hw:=stw hw hW;clear Fa Fb Fc Fr Ft;clear hW;try rw [rounds_succ]
 have F0:=J5 Ba.f Bb.f Bc.f Br.f Bt.f;go_wp2_with fail;clear F0;refine qC5 (k1 _) Ba Bb Bc Br Bt hw λw5 Ba Bb Bc Br Bt hw F0=>?_;go_wp2_with fail;clear F0;refine qK5 (r1 _) Ba Bb Bc Br Bt hw λw6 Ba Bb Bc Br Bt hw=>?_;have Fa:=Ba.f;have Fb:=Bb.f;have Fc:=Bc.f;have Fr:=Br.f;have Ft:=Bt.f;go_wp2_with fail;refine z7 λW7 hW=>?_;replace Ba:=sto Ba hW;replace Bb:=sto Bb hW;replace Bc:=sto Bc hW;replace Br:=sto Br hW;replace Bt:=sto Bt hW;replace hw:=stw hw hW;clear Fa Fb Fc Fr Ft;clear hW;try rw [rounds_succ]
 have F0:=J5 Ba.f Bb.f Bc.f Br.f Bt.f;go_wp2_with fail;clear F0;refine qC5 (k2 _) Ba Bb Bc Br Bt hw λw8 Ba Bb Bc Br Bt hw F0=>?_;go_wp2_with fail;clear F0;refine qC5 (co _) Ba Bb Bc Br Bt hw λw9 Ba Bb Bc Br Bt hw F0=>?_;go_wp2_with fail;clear F0;refine qK5 (cv _) Ba Bb Bc Br Bt hw λw10 Ba Bb Bc Br Bt hw=>?_;have Fa:=Ba.f;have Fb:=Bb.f;have Fc:=Bc.f;have Fr:=Br.f;have Ft:=Bt.f;go_wp2_with fail;refine bodyPost_ret (v:=.tuple #[.agg #[c.x,c.y,a.x,a.y,b.x,b.y],.bool true]) (by simp [results,results49,go_sem,Fr]) rfl ⟨rfl,by have hl:=hw.size;go_grown⟩
theorem tmake_z2 (a b c:Pt) (l0:lds ⟨a,b,c⟩=false) (l1:lds ⟨b,c,a⟩=false) (l2:lds ⟨c,a,b⟩=true) (ho:decide (ori c a b < 0)=false) (hv:valT ⟨c,a,b⟩=false) (w:World):Calls prog 49 #[a,b,c] w (Rt w (.tuple #[.agg #[(),(),(),(),(),()],.bool false])):=by
 have k0:=zg ⟨a,b,c⟩;rw [l0] at k0;dsimp only at k0;have r0:=yI ⟨a,b,c⟩;dsimp only at r0;have k1:=zg ⟨b,c,a⟩;rw [l1] at k1;dsimp only at k1;have r1:=yI ⟨b,c,a⟩;dsimp only at r1;have k2:=zg ⟨c,a,b⟩;rw [l2] at k2;dsimp only at k2;have co:=zF c a b;have cv:=zq ⟨c,a,b⟩;rw [hv] at cv;dsimp only at cv;generalize ori c a b=n at *
 clear hv l0 l1 l2
 go_enter func49,ntmps49
 go_wp2_with fail;refine qD5 λW1 Ba Bb Bc Br Bt hw=>?_;refine wp_loop_rounds 4 ?_;try rw [rounds_succ]
 have F0:=J5 Ba.f Bb.f Bc.f Br.f Bt.f;go_wp2_with fail;clear F0;refine qC5 (k0 _) Ba Bb Bc Br Bt hw λw2 Ba Bb Bc Br Bt hw F0=>?_;go_wp2_with fail;clear F0;refine qK5 (r0 _) Ba Bb Bc Br Bt hw λw3 Ba Bb Bc Br Bt hw=>?_;have Fa:=Ba.f;have Fb:=Bb.f;have Fc:=Bc.f;have Fr:=Br.f;have Ft:=Bt.f;go_wp2_with fail;refine z7 λW4 hW=>?_;replace Ba:=sto Ba hW;replace Bb:=sto Bb hW;replace Bc:=sto Bc hW;replace Br:=sto Br hW;replace Bt:=sto Bt hW;replace hw:=stw hw hW;clear Fa Fb Fc Fr Ft;clear hW;try rw [rounds_succ]
 have F0:=J5 Ba.f Bb.f Bc.f Br.f Bt.f;go_wp2_with fail;clear F0;refine qC5 (k1 _) Ba Bb Bc Br Bt hw λw5 Ba Bb Bc Br Bt hw F0=>?_;go_wp2_with fail;clear F0;refine qK5 (r1 _) Ba Bb Bc Br Bt hw λw6 Ba Bb Bc Br Bt hw=>?_;have Fa:=Ba.f;have Fb:=Bb.f;have Fc:=Bc.f;have Fr:=Br.f;have Ft:=Bt.f;go_wp2_with fail;refine z7 λW7 hW=>?_;replace Ba:=sto Ba hW;replace Bb:=sto Bb hW;replace Bc:=sto Bc hW;replace Br:=sto Br hW;replace Bt:=sto Bt hW;replace hw:=stw hw hW;clear Fa Fb Fc Fr Ft;clear hW;try rw [rounds_succ]
 have F0:=J5 Ba.f Bb.f Bc.f Br.f Bt.f;go_wp2_with fail;clear F0;refine qC5 (k2 _) Ba Bb Bc Br Bt hw λw8 Ba Bb Bc Br Bt hw F0=>?_;go_wp2_with fail;clear F0;refine qC5 (co _) Ba Bb Bc Br Bt hw λw9 Ba Bb Bc Br Bt hw F0=>?_;go_wp2_with fail;clear F0;refine qK5 (cv _) Ba Bb Bc Br Bt hw λw10 Ba Bb Bc Br Bt hw=>?_;have Fa:=Ba.f;have Fb:=Bb.f;have Fc:=Bc.f;have Fr:=Br.f;have Ft:=Bt.f;go_wp2_with fail;refine bodyPost_ret (v:=.tuple #[.agg #[(),(),(),(),(),()],.bool false]) (by simp [results,results49,go_sem,Fr]) rfl ⟨rfl,by have hl:=hw.size;go_grown⟩
end
section
open Go.RowKit Go.Sort
attribute [local go_sem] rOper rAt rUpon cell_set sg_i64 sg_u64 alloc_cell alloc_frozen
attribute [local go_sem 10000] pt_eql pt_neq
attribute [local irreducible] rWalk
theorem YB {p q:Pt}:leq p q=true↔p.x < q.x\/(p.x=q.x/\p.y<=q.y):=by
 unfold leq cmpP cmpN sgn;rw [Yh]
 (repeat' split) <;> omega
theorem YC {T:Tri3}:lds T=true↔(T.A.x < T.B.x\/(T.A.x=T.B.x/\T.A.y<=T.B.y))/\(T.A.x < T.C.x\/(T.A.x=T.C.x/\T.A.y<=T.C.y)):=by
 unfold lds;rw [Yf,YB,YB]
theorem lead_some (a b c:Pt) (h1:lds ⟨a,b,c⟩=false) (h2:lds ⟨b,c,a⟩=false):lds ⟨c,a,b⟩=true:=by
 rw [<-KD,YC] at h1 h2;rw [YC];simp only at h1 h2 ⊢;omega
theorem Y7 {x y z:Pt} (hx:vld x=true) (hy:vld y=true) (hz:vld z=true) (n1:key x≠key y) (n2:key x≠key z) (n3:key y≠key z):mkT y z x=mkT x y z:=by
 rcases qO hx hy hz n1 n2 n3 with ⟨u1,u2,e⟩ | ⟨u1,u2,e⟩ | ⟨u1,u2,e⟩ <;> rcases qO hy hz hx n3 n1.symm n2.symm with ⟨v1,v2,f⟩ | ⟨v1,v2,f⟩ | ⟨v1,v2,f⟩ <;> first | (exfalso;omega) | rw [e,f]
theorem um {a b c:Pt} (h:ori a b c=0):mk a b c=⟨⟨0,0⟩,⟨0,0⟩,⟨0,0⟩⟩:=by unfold mk;rw [Yn h]
theorem Z2 {a b c:Pt} (h0:¬ ori a b c=0):vld a=true/\vld b=true/\vld c=true/\key a≠key b/\key a≠key c/\key b≠key c:=by
 obtain ⟨va,vb,vc⟩:=yQ h0;obtain ⟨d1,d2,d3⟩:=yG h0;exact ⟨va,vb,vc,λh=>d1 (yK va vb h).symm,λh=>d2 (yK va vc h).symm,λh=>d3 (yK vb vc h).symm⟩
theorem Z3 (a b c:Pt):mk b c a=mk a b c:=by
 by_cases h0:ori a b c=0
 ·rw [um h0,um (by rw [yH];exact h0)]
 ·obtain ⟨va,vb,vc,n1,n2,n3⟩:=Z2 h0;unfold mk;rw [yH,Ye h0,Ye h0,Y7 va vb vc n1 n2 n3,Y7 vb va vc n1.symm n3 n2]
theorem mk_swap (a b c:Pt):mk a c b=mk a b c:=by
 have hb:=y8 a b c;unfold mk;rw [qN];by_cases h0:ori a b c=0
 ·simp [h0]
 ·rw [Ye h0,Ye (by omega)];by_cases h1:ori a b c=1
  ·rw [Yn h1,Ye (by omega)]
  ·rw [Ye h1,Yn (by omega)]
theorem val_mk {x y z:Pt} (h:valT ⟨x,y,z⟩=true):mk x y z=⟨x,y,z⟩:=by
 unfold valT at h;simp only [Yf,kD] at h;exact h.2
theorem val_of {x y z:Pt} (ho:0 < ori x y z) (hl:lds ⟨x,y,z⟩=true):valT ⟨x,y,z⟩=true:=by
 rw [tV];unfold valS;simp [ho,hl]
theorem val_none {x y z:Pt} (ho:ori x y z=0):valT ⟨x,y,z⟩=false:=by
 rw [tV];unfold valS;simp [ho]
theorem lds_swap {x y z:Pt} (hl:lds ⟨x,y,z⟩=true):lds ⟨x,z,y⟩=true:=by
 unfold lds at hl ⊢;simp only at hl ⊢;rw [Bool.and_comm];exact hl
theorem ori_swap2' (x y z:Pt):ori x z y = -ori x y z:=qN x y z
theorem jD (a b c:Pt) (w:World):Calls prog 49 #[a,b,c] w (Rt w (.tuple #[.agg #[.int .i64 (mk a b c).A.x,.int .i64 (mk a b c).A.y,.int .i64 (mk a b c).B.x,.int .i64 (mk a b c).B.y,.int .i64 (mk a b c).C.x,.int .i64 (mk a b c).C.y],.bool (!decide (ori a b c=0))])):=by
 have main : ∀ {x y z : Pt}, ori x y z = ori a b c -> mk x y z = mk a b c -> lds ⟨x, y, z⟩ = true ->
     (ori x y z=0/\decide (ori x y z < 0)=false/\valT ⟨x,y,z⟩=false/\mk a b c=⟨⟨0,0⟩,⟨0,0⟩,⟨0,0⟩⟩/\(!decide (ori a b c=0))=false) \/
     (decide (ori x y z < 0)=false/\valT ⟨x,y,z⟩=true/\mk a b c=⟨x,y,z⟩/\(!decide (ori a b c=0))=true) \/
     (decide (ori x y z < 0)=true/\valT ⟨x,z,y⟩=true/\mk a b c=⟨x,z,y⟩/\(!decide (ori a b c=0))=true):=by
  intro x y z e1 e2 hl;by_cases h0:ori x y z=0
  ·left
   exact ⟨h0,by simp [h0],val_none h0,by rw [<-e2];exact um h0,by rw [<-e1];simp [h0]⟩
  ·right
   by_cases h1:ori x y z < 0
   ·right
    have hv:valT ⟨x,z,y⟩=true:=val_of (by rw [ori_swap2'];omega) (lds_swap hl);exact ⟨by simp [h1],hv,by rw [<-e2,<-mk_swap];exact val_mk hv,by rw [<-e1];simp [h0]⟩
   ·left
    have hv:valT ⟨x,y,z⟩=true:=val_of (by omega) hl;exact ⟨by simp;omega,hv,by rw [<-e2];exact val_mk hv,by rw [<-e1];simp [h0]⟩
 cases l0:lds ⟨a,b,c⟩ with
 | true=>
  rcases main (x:=a) (y:=b) (z:=c) rfl rfl l0 with ⟨_,p,q,e,f⟩ | ⟨p,q,e,f⟩ | ⟨p,q,e,f⟩ <;> rw [e,f]
  ·exact tmake_z0 a b c l0 p q w
  ·exact tmake_p0 a b c l0 p q w
  ·exact tmake_n0 a b c l0 p q w
 | false=>cases l1:lds ⟨b,c,a⟩ with
  | true=>
   rcases main (x:=b) (y:=c) (z:=a) (yH a b c) (Z3 a b c) l1 with ⟨_,p,q,e,f⟩ | ⟨p,q,e,f⟩ | ⟨p,q,e,f⟩ <;> rw [e,f]
   ·exact tmake_z1 a b c l0 l1 p q w
   ·exact tmake_p1 a b c l0 l1 p q w
   ·exact tmake_n1 a b c l0 l1 p q w
  | false=>
   have l2:=lead_some a b c l0 l1;rcases main (x:=c) (y:=a) (z:=b) (by rw [yH,yH]) (by rw [Z3,Z3]) l2 with ⟨_,p,q,e,f⟩ | ⟨p,q,e,f⟩ | ⟨p,q,e,f⟩ <;> rw [e,f]
   ·exact tmake_z2 a b c l0 l1 l2 p q w
   ·exact tmake_p2 a b c l0 l1 l2 p q w
   ·exact tmake_n2 a b c l0 l1 l2 p q w
theorem mk_ok {a b c:Pt} (h0:¬ ori a b c=0):valT (mk a b c)=true/\(mk a b c=⟨a,b,c⟩\/mk a b c=⟨b,c,a⟩\/mk a b c=⟨c,a,b⟩\/mk a b c=⟨a,c,b⟩\/mk a b c=⟨c,b,a⟩\/mk a b c=⟨b,a,c⟩):=by
 obtain ⟨va,vb,vc,n1,n2,n3⟩:=Z2 h0;have hb:=y8 a b c;rw [tV];unfold valS lds;by_cases h1:ori a b c=1
 ·have e0:mk a b c=mkT a b c:=by unfold mk;rw [Ye h0,Yn h1]
  rw [e0];rcases qO va vb vc n1 n2 n3 with ⟨x1,x2,e⟩ | ⟨x1,x2,e⟩ | ⟨x1,x2,e⟩ <;> rw [e] <;> simp only
  ·rw [yn va vb,yn va vc];refine ⟨?_,by simp⟩;simp only [Yf,Yh];omega
  ·rw [yH,yn vb vc,yn vb va];refine ⟨?_,by simp⟩;simp only [Yf,Yh];omega
  ·rw [yH,yH,yn vc va,yn vc vb];refine ⟨?_,by simp⟩;simp only [Yf,Yh];omega
 ·have e0:mk a b c=mkT a c b:=by unfold mk;rw [Ye h0,Ye h1]
  have h2:ori a c b=1:=by rw [qN];omega
  rw [e0];rcases qO va vc vb n2 n1 n3.symm with ⟨x1,x2,e⟩ | ⟨x1,x2,e⟩ | ⟨x1,x2,e⟩ <;> rw [e] <;> simp only
  ·rw [yn va vb,yn va vc];refine ⟨?_,by simp⟩;simp only [Yf,Yh];omega
  ·rw [yH,yn vc vb,yn vc va];refine ⟨?_,by simp⟩;simp only [Yf,Yh];omega
  ·rw [yH,yH,yn vb va,yn vb vc];refine ⟨?_,by simp⟩;simp only [Yf,Yh];omega
theorem mk_corners {a b c:Pt} (h0:¬ ori a b c=0) (p:Pt):(p=a\/p=b\/p=c)↔(p=(mk a b c).A\/p=(mk a b c).B\/p=(mk a b c).C):=by
 obtain ⟨_,e | e | e | e | e | e⟩:=mk_ok h0 <;> rw [e] <;> simp only <;> constructor <;> rintro (h | h | h) <;> simp [h]
theorem xA {T:Tri3} (h:valT T=true):vld T.A=true/\vld T.B=true/\vld T.C=true/\0 < det T.A T.B T.C:=by
 obtain ⟨va,vb,vc⟩:=te h;rw [tV] at h;unfold valS at h;simp only [Yf,Yh] at h;have h1:=h.1;rw [ori_v va vb vc] at h1;have:=zJ (det T.A T.B T.C);exact ⟨va,vb,vc,by omega⟩
theorem xi (a b c p:Pt):det a b p+det b c p+det c a p=det a b c:=by unfold det;grind
theorem corner0 {a b c:Pt} (p:Pt) (hD:0 < det a b c):p=a↔det a b p=0/\det c a p=0:=by
 constructor
 ·intro h;subst h;constructor <;> (unfold det;grind)
 ·intro ⟨h1,h2⟩;have e1:det a b c * (p.x - a.x)=det c a p * (b.x - a.x)+det a b p * (c.x - a.x):=by unfold det;grind
  have e2:det a b c * (p.y - a.y)=det c a p * (b.y - a.y)+det a b p * (c.y - a.y):=by unfold det;grind
  rw [h1,h2] at e1 e2;simp only [XU,Ks] at e1 e2;rw [Pt.eq_iff];rcases Yl.1 e1 with h | h
  ·omega
  ·rcases Yl.1 e2 with h' | h'
   ·omega
   ·omega
theorem jf {a b c:Pt} (ha:vld a=true) (hb:vld b=true) (hc:vld c=true) : -562949886312450<=det a b c/\det a b c<=562949886312450:=by
 have:=cr_bd (xx ha hb) (xx ha hc);exact this
theorem YV (T:Tri3):0<=twi T/\twi T<=562949886312450:=by
 unfold twi;split
 ·rename_i h
  obtain ⟨va,vb,vc,hD⟩:=xA h;have:=jf va vb vc;omega
 ·omega
theorem tY {a b p:Pt} (va:vld a=true) (vb:vld b=true) (vp:vld p=true):(0 < ori a b p↔0 < det a b p)/\(0<=ori a b p↔0<=det a b p)/\(ori a b p=0↔det a b p=0):=by
 rw [ori_v va vb vp];have:=zJ (det a b p);omega
theorem zv (p q:Pt):cmpP q p = -cmpP p q:=by
 unfold cmpP cmpN sgn;(repeat' split) <;> omega
theorem zc {p q:Pt}:cmpP p q=0↔p=q:=by
 rw [Pt.eq_iff];unfold cmpP cmpN sgn;(repeat' split) <;> omega
theorem tJ {p q:Pt}:cmpP p q < 0↔p.x < q.x\/(p.x=q.x/\p.y < q.y):=by
 unfold cmpP cmpN sgn;(repeat' split) <;> omega
theorem x8 {p q r:Pt} (h1:cmpP p q < 0) (h2:cmpP q r < 0):cmpP p r < 0:=by
 rw [tJ] at *;omega
theorem ZZ (S T:Tri3):cmpT T S = -cmpT S T:=by
 unfold cmpT;rw [zv S.A T.A,zv S.B T.B,zv S.C T.C];(repeat' split) <;> omega
theorem cmpT_eq0 {S T:Tri3}:cmpT S T=0↔S=T:=by
 rw [Tri3.eq_iff,<-zc,<-zc (p:=S.B),<-zc (p:=S.C)];unfold cmpT;(repeat' split) <;> omega
theorem cmpT_lt {S T:Tri3}:cmpT S T < 0↔cmpP S.A T.A < 0\/(S.A=T.A/\(cmpP S.B T.B < 0\/(S.B=T.B/\cmpP S.C T.C < 0))):=by
 rw [<-zc (p:=S.A),<-zc (p:=S.B)];unfold cmpT;(repeat' split) <;> omega
theorem cmpT_trans {S T U:Tri3} (h1:cmpT S T < 0) (h2:cmpT T U < 0):cmpT S U < 0:=by
 rw [cmpT_lt] at *;rcases h1 with h1 | ⟨e1,h1⟩ <;> rcases h2 with h2 | ⟨e2,h2⟩
 ·exact .inl (x8 h1 h2)
 ·exact .inl (e2▸h1)
 ·exact .inl (e1▸h2)
 ·refine .inr ⟨e1.trans e2,?_⟩;rcases h1 with h1 | ⟨f1,h1⟩ <;> rcases h2 with h2 | ⟨f2,h2⟩
  ·exact .inl (x8 h1 h2)
  ·exact .inl (f2▸h1)
  ·exact .inl (f1▸h2)
  ·exact .inr ⟨f1.trans f2,x8 h1 h2⟩
structure Whole {α:Type} (c:α->α->Int):Prop where
 neg:∀ x y,c y x = -c x y
 eq0:∀ {x y},c x y=0↔x=y
 trans:∀ {x y z},c x y < 0->c y z < 0->c x z < 0
theorem wholeP:Whole cmpP:=⟨zv,zc,x8⟩
theorem wholeT:Whole cmpT:=⟨ZZ,cmpT_eq0,cmpT_trans⟩
section
variable {α:Type} {c:α->α->Int}
theorem Whole.swo (W:Whole c):SWO (ltOf c) where
 irrefl x:=by unfold ltOf;have:=(W.eq0 (x:=x) (y:=x)).2 rfl;simp;omega
 trans x y z h1 h2:=by unfold ltOf at *;simp at *;exact W.trans h1 h2
 ntrans x y z h1 h2:=by
  unfold ltOf at *;simp at *;rcases Ke (c x z) 0 with h | h
  ·exfalso
   have n1:=W.neg x y;have n2:=W.neg y z;rcases XY h1 with g1 | g1
   ·have:=W.trans (x:=y) (y:=x) (z:=z) (by omega) h;omega
   ·have e:=W.eq0.1 g1.symm;subst e;omega
  ·exact h
theorem Whole.one (W:Whole c):∀ x y,ltOf c x y=false->ltOf c y x=false->x=y:=λx y h1 h2=>by
 unfold ltOf at *;simp at h1 h2;rw [W.neg x y] at h2;exact W.eq0.1 (by omega)
def srt (c:α->α->Int) (L:List α):List α:=L.mergeSort λx y => !(ltOf c) y x
def InOrder (c:α->α->Int) (L:List α):Prop:=L.Pairwise λx y=>c x y<=0
theorem zd (L:List α):(srt c L).Perm L:=List.mergeSort_perm _ _
theorem Whole.le_trans (W:Whole c) {x y z:α} (h1:c x y<=0) (h2:c y z<=0):c x z<=0:=by
 rcases XY h1 with g1 | g1
 ·rcases XY h2 with g2 | g2
  ·have:=W.trans g1 g2;omega
  ·have e:=W.eq0.1 g2;subst e;exact h1
 ·have e:=W.eq0.1 g1;subst e;exact h2
theorem Whole.srt_order (W:Whole c) (L:List α):InOrder c (srt c L):=by
 have h:=List.pairwise_mergeSort (le:=λx y => !(ltOf c) y x) (λa b d h1 h2=>by
  unfold ltOf at *;simp at *;have n1:=W.neg a b;have n2:=W.neg b d;have n3:=W.neg a d;have:=W.le_trans (x:=a) (y:=b) (z:=d) (by omega) (by omega);omega) (λa b=>by
  unfold ltOf;have:=W.neg a b;simp;omega) L
 refine h.imp λ{a b} h1=>?_;unfold ltOf at h1;simp at h1;have:=W.neg a b;omega
theorem Whole.unique (W:Whole c):∀ {L M:List α},L.Perm M->InOrder c L->InOrder c M->L=M
 | [],M,hp,_,_=>by rw [List.nil_perm.1 hp]
 | x :: L,M,hp,h1,h2=>by
  cases M with
  | nil=>exact absurd hp.length_eq (by simp)
  | cons y M=>
   unfold InOrder at *;rw [Xt] at h1 h2;have e:x=y:=by
    rcases Yg.1 (hp.mem_iff.1 (Yy)) with e | hx
    ·exact e
    ·rcases Yg.1 (hp.mem_iff.2 (Yy)) with e | hy
     ·exact e.symm
     ·have a1:=h1.1 y hy;have a2:=h2.1 x hx;have:=W.neg x y;exact W.eq0.1 (by omega)
   subst e;rw [Whole.unique W (hp.cons_inv) h1.2 h2.2]
theorem Whole.srt_eq (W:Whole c) {L M:List α} (hp:M.Perm L) (ho:InOrder c M):M=srt c L:=
 W.unique (hp.trans (zd L).symm) ho (W.srt_order L)
theorem Whole.srt_of_perm (W:Whole c) {L M:List α} (hp:M.Perm L):srt c M=srt c L:=W.srt_eq ((zd M).trans hp) (W.srt_order M)
end
section
open Go.Lib Go.Shelf
section
variable {α:Type} {c:α->List Value} {k:Nat}
theorem zP (hc:∀ x,(c x).length=k):∀ L:List α,(L.flatMap c).length=L.length * k
 | []=>by simp
 | x :: L=>by rw [Yj,Yi,hc,zP hc L,XO,Q9];omega
theorem y5 (hc:∀ x,(c x).length=k):∀ (L:List α) (j i:Nat) (x:α),L[j]? = some x->i < k->(L.flatMap c)[j * k+i]? = (c x)[i]?
 | [],j,i,x,h,_=>by simp at h
 | y :: L,0,i,x,h,hi=>by
  simp at h;subst h;rw [Yj,Nat.zero_mul,Xa,Xs (by rw [hc];exact hi)]
 | y :: L,j+1,i,x,h,hi=>by
  rw [Yj,KN (by rw [hc,Q9];omega),hc];rw [show (j+1) * k+i - k=j * k+i by rw [Q9];omega];exact y5 hc L j i x (by simpa using h) hi
theorem yi {w:World} {B:Nat} {T:TypeId} {v:Value} {L:List α} (hc:∀ x,(c x).length=k) (h:w.ownsRow B T k v L.length (L.flatMap c)):∃ a cap,v=.slice a L.length cap/\RowAt c k w a L:=by
 rcases h.2 with ⟨rfl,h0⟩ | ⟨g,cap,cur,rfl,hB,hb,h1,h2,h3,h4⟩
 ·have:L=[]:=Xh h0;subst this;exact ⟨none,0,rfl,RowAt.nil⟩
 ·refine ⟨some ⟨g,0,none⟩,cap,rfl,λj x hj=>⟨_,rfl,(XQ.1 hb).1,λi u hu=>?_⟩⟩;have hi:i < k:=by rw [<-hc x];exact (Yr.1 hu).1
  have e:=y5 hc L j i x hj hi;rw [hu,<-h4,Xo] at e;split at e
  ·rw [Addr.add_lit,Addr.add_lit];simp only [World.cell?,hb,Xa]
   simpa using e
  ·cases e
end
section
variable {α:Type} [Inhabited α] {c:α->List Value} {k:Nat}
theorem qR {w:World} {B g cap n:Nat} {T:TypeId} {L:List α} (hc:∀ x,(c x).length=k) (h:w.ownsRow B T k (.slice (some ⟨g,0,none⟩) n cap) L.length (L.flatMap c)):HoldsK c k w g 0 L.toArray/\g < w.heap.size:=by
 rcases h.2 with ⟨h0,_⟩ | ⟨g',cap',cur,h0,hB,hb,h1,h2,h3,h4⟩
 ·cases h0
 ·simp only [Value.slice.injEq,KG,Addr.mk.injEq,QC] at h0;obtain ⟨e1,e2,e3⟩:=h0;subst e1 e3;refine ⟨λt ht=>⟨?_,by simp [World.frozen?,hb]⟩,(XQ.1 hb).1⟩;have ht':t < L.length * k:=by simpa using ht
  rw [get_flatK _ _ _ _ (by simpa using ht')]
  have k0 : 0 < k := by rcases Jw k with h | h; · subst h; simp at ht'
                        ·exact h
  have hj:t / k < L.length:=by rwa [Jh k0]
  have hi:t % k < k:=Nat.mod_lt _ k0;have e:=y5 hc L (t / k) (t % k) L[t / k] (Yo hj) hi;rw [show t / k * k+t % k=t by rw [JU];exact Nat.div_add_mod t k,<-h4,Xo] at e;split at e
  ·simp only [World.cell?,hb,Xa];simp only [Option.isSome_none,KB,Jf];rw [<-Array.getElem?_toList,e];simp [hj,hc,hi]
  ·rename_i hh;exact absurd ht' hh
theorem rowAt_of_holdsK {w:World} {g:Nat} {L:List α} (hc:∀ x,(c x).length=k) (h:HoldsK c k w g 0 L.toArray) (hg:g < w.heap.size):RowAt c k w (some ⟨g,0,none⟩) L:=λj x hj=>by
 refine ⟨_,rfl,hg,λi u hu=>?_⟩;have hi:i < k:=by rw [<-hc x];exact (Yr.1 hu).1
 have hjl:j < L.length:=(Yr.1 hj).1;have e:=(h.cell (i:=j) (c:=i) (by simpa using hjl) hi).1;rw [Addr.add_lit,Addr.add_lit,e];have e2:L.toArray[j]! = x:=by
  rw [getElem!_pos _ j (by simpa using hjl)]
  simpa using (Yr.1 hj).2
 rw [e2,<-hu,Jj,Yo (by rw [hc];exact hi)];rfl
theorem xZ {w:World} {g n:Nat} {os:Array Obj} (d:Array α):w.grownBy (sortWorldK c k w g 0 n d os) (some g):=by
 refine ⟨rfl,rfl,rfl,by simp [sortWorldK,putRowK],λi hi hne=>?_⟩;unfold sortWorldK putRowK;rw [heap_grow_old _ _ (by simpa using hi)];have:g≠i:=λe=>hne (by rw [e]);simp [putRow,mapBlock,Sort.ahead,KR,this]
theorem holdsK_sortK {w:World} {g n:Nat} {os:Array Obj} {d d':Array α} (h:HoldsK c k w g 0 d) (hg:g < w.heap.size) (hs:d'.size=d.size):HoldsK c k (sortWorldK c k w g 0 n d' os) g 0 d':=by
 unfold sortWorldK;refine holdsK_grow c k _ os g 0 d' (by simp [putRowK,Sort.ahead];exact hg) ?_;exact holdsK_putRowK c k _ g 0 d d' (holdsK_ahead c k w n g 0 d h) hs
end
end
section
open Go.Shelf Go.Proofs
def sortTri_ren:Go.Shelf.Ren:=⟨λ| 6=>50 | 15=>104 | 14=>103 | 28=>151 | 29=>152 | 20=>143 | 21=>144 | 22=>145 | 23=>146 | 24=>147 | 25=>148 | 26=>149 | 27=>150 | 46=>172 | 47=>173 | 48=>174 | 49=>175 | 50=>176 | 57=>185 | n=>n,λ| 22=>40 | 24=>28 | 25=>69 | 3=>3 | 39=>142 | 0=>0 | 53=>178 | 55=>105 | 4=>4 | 46=>172 | 45=>171 | 50=>113 | 5=>5 | 9=>9 | 66=>189 | 70=>193 | 76=>198 | 77=>199 | n=>n,λ| n=>n⟩
theorem sortTri:Go.Proofs.SlLaysF0.n6 prog sortTri_ren:={
 mixed:=by kernel_rfl
 f6:=⟨Tryz.f50.name,by decide,func50.trans (congrArg some (by kernel_rfl))⟩
 f14:=⟨Tryz.f103.name,by decide,func103.trans (congrArg some (by kernel_rfl))⟩
 f15:=func104.trans (congrArg some (by kernel_rfl))
 f20:=⟨Tryz.f143.name,by decide,func143.trans (congrArg some (by kernel_rfl))⟩
 f21:=⟨Tryz.f144.name,by decide,func144.trans (congrArg some (by kernel_rfl))⟩
 f22:=⟨Tryz.f145.name,by decide,func145.trans (congrArg some (by kernel_rfl))⟩
 f23:=⟨Tryz.f146.name,by decide,func146.trans (congrArg some (by kernel_rfl))⟩
 f24:=⟨Tryz.f147.name,by decide,func147.trans (congrArg some (by kernel_rfl))⟩
 f25:=⟨Tryz.f148.name,by decide,func148.trans (congrArg some (by kernel_rfl))⟩
 f26:=⟨Tryz.f149.name,by decide,func149.trans (congrArg some (by kernel_rfl))⟩
 f27:=⟨Tryz.f150.name,by decide,func150.trans (congrArg some (by kernel_rfl))⟩
 f28:=func151.trans (congrArg some (by kernel_rfl))
 f29:=func152.trans (congrArg some (by kernel_rfl))
 f46:=⟨Tryz.f172.name,by decide,func172.trans (congrArg some (by kernel_rfl))⟩
 f47:=func173.trans (congrArg some (by kernel_rfl))
 f48:=func174.trans (congrArg some (by kernel_rfl))
 f49:=⟨Tryz.f175.name,by decide,func175.trans (congrArg some (by kernel_rfl))⟩
 f50:=⟨Tryz.f176.name,by decide,func176.trans (congrArg some (by kernel_rfl))⟩
 f57:=⟨Tryz.f185.name,by decide,func185.trans (congrArg some (by kernel_rfl))⟩
 t0:=underlying0
 a0:=Tryz.isAgg0
 z0:=Tryz.sizeOf0
 v0:=Tryz.zeroValue0
 t3:=underlying3
 a3:=Tryz.isAgg3
 z3:=Tryz.sizeOf3
 v3:=Tryz.zeroValue3
 t4:=underlying4
 a4:=Tryz.isAgg4
 z4:=Tryz.sizeOf4
 v4:=Tryz.zeroValue4
 t5:=underlying5
 a5:=Tryz.isAgg5
 z5:=Tryz.sizeOf5
 v5:=Tryz.zeroValue5
 t9:=underlying9
 a9:=Tryz.isAgg9
 z9:=Tryz.sizeOf9
 v9:=Tryz.zeroValue9
 t22:=underlying40
 a22:=Tryz.isAgg40
 z22:=Tryz.sizeOf40
 v22:=Tryz.zeroValue40
 t25:=underlying69
 a25:=Tryz.isAgg69
 z25:=Tryz.sizeOf69
 v25:=Tryz.zeroValue69
 t39:=underlying142
 a39:=Tryz.isAgg142
 z39:=Tryz.sizeOf142
 v39:=Tryz.zeroValue142
 t45:=underlying171
 a45:=Tryz.isAgg171
 z45:=Tryz.sizeOf171
 v45:=Tryz.zeroValue171
 t46:=underlying172
 a46:=Tryz.isAgg172
 z46:=Tryz.sizeOf172
 v46:=Tryz.zeroValue172
 t50:=underlying113
 a50:=Tryz.isAgg113
 z50:=Tryz.sizeOf113
 v50:=Tryz.zeroValue113
 t53:=underlying178
 a53:=Tryz.isAgg178
 z53:=Tryz.sizeOf178
 v53:=Tryz.zeroValue178
 t55:=underlying105
 a55:=Tryz.isAgg105
 z55:=Tryz.sizeOf105
 v55:=Tryz.zeroValue105
 t66:=underlying189
 a66:=Tryz.isAgg189
 z66:=Tryz.sizeOf189
 v66:=Tryz.zeroValue189
 t70:=underlying193
 a70:=Tryz.isAgg193
 z70:=Tryz.sizeOf193
 v70:=Tryz.zeroValue193
 t76:=underlying198
 a76:=Tryz.isAgg198
 z76:=Tryz.sizeOf198
 v76:=Tryz.zeroValue198
 t77:=underlying199
 a77:=Tryz.isAgg199
 z77:=Tryz.sizeOf199
 v77:=Tryz.zeroValue199 }
def sortWl_ren:Go.Shelf.Ren:=⟨λ| 6=>77 | 15=>104 | 14=>121 | 28=>151 | 29=>152 | 20=>155 | 21=>156 | 22=>157 | 23=>158 | 24=>159 | 25=>160 | 26=>161 | 27=>162 | 46=>178 | 47=>173 | 48=>174 | 49=>179 | 50=>180 | 57=>186 | n=>n,λ| 22=>48 | 24=>57 | 25=>125 | 3=>3 | 39=>142 | 0=>0 | 53=>178 | 55=>105 | 4=>4 | 46=>172 | 45=>171 | 50=>113 | 5=>5 | 9=>9 | 66=>189 | 70=>193 | 76=>198 | 77=>199 | n=>n,λ| n=>n⟩
theorem sortWl:Go.Proofs.SlLaysF0.n6 prog sortWl_ren:={
 mixed:=by kernel_rfl
 f6:=⟨Tryz.f77.name,by decide,func77.trans (congrArg some (by kernel_rfl))⟩
 f14:=⟨Tryz.f121.name,by decide,func121.trans (congrArg some (by kernel_rfl))⟩
 f15:=func104.trans (congrArg some (by kernel_rfl))
 f20:=⟨Tryz.f155.name,by decide,func155.trans (congrArg some (by kernel_rfl))⟩
 f21:=⟨Tryz.f156.name,by decide,func156.trans (congrArg some (by kernel_rfl))⟩
 f22:=⟨Tryz.f157.name,by decide,func157.trans (congrArg some (by kernel_rfl))⟩
 f23:=⟨Tryz.f158.name,by decide,func158.trans (congrArg some (by kernel_rfl))⟩
 f24:=⟨Tryz.f159.name,by decide,func159.trans (congrArg some (by kernel_rfl))⟩
 f25:=⟨Tryz.f160.name,by decide,func160.trans (congrArg some (by kernel_rfl))⟩
 f26:=⟨Tryz.f161.name,by decide,func161.trans (congrArg some (by kernel_rfl))⟩
 f27:=⟨Tryz.f162.name,by decide,func162.trans (congrArg some (by kernel_rfl))⟩
 f28:=func151.trans (congrArg some (by kernel_rfl))
 f29:=func152.trans (congrArg some (by kernel_rfl))
 f46:=⟨Tryz.f178.name,by decide,func178.trans (congrArg some (by kernel_rfl))⟩
 f47:=func173.trans (congrArg some (by kernel_rfl))
 f48:=func174.trans (congrArg some (by kernel_rfl))
 f49:=⟨Tryz.f179.name,by decide,func179.trans (congrArg some (by kernel_rfl))⟩
 f50:=⟨Tryz.f180.name,by decide,func180.trans (congrArg some (by kernel_rfl))⟩
 f57:=⟨Tryz.f186.name,by decide,func186.trans (congrArg some (by kernel_rfl))⟩
 t0:=underlying0
 a0:=Tryz.isAgg0
 z0:=Tryz.sizeOf0
 v0:=Tryz.zeroValue0
 t3:=underlying3
 a3:=Tryz.isAgg3
 z3:=Tryz.sizeOf3
 v3:=Tryz.zeroValue3
 t4:=underlying4
 a4:=Tryz.isAgg4
 z4:=Tryz.sizeOf4
 v4:=Tryz.zeroValue4
 t5:=underlying5
 a5:=Tryz.isAgg5
 z5:=Tryz.sizeOf5
 v5:=Tryz.zeroValue5
 t9:=underlying9
 a9:=Tryz.isAgg9
 z9:=Tryz.sizeOf9
 v9:=Tryz.zeroValue9
 t22:=underlying48
 a22:=Tryz.isAgg48
 z22:=Tryz.sizeOf48
 v22:=Tryz.zeroValue48
 t25:=underlying125
 a25:=Tryz.isAgg125
 z25:=Tryz.sizeOf125
 v25:=Tryz.zeroValue125
 t39:=underlying142
 a39:=Tryz.isAgg142
 z39:=Tryz.sizeOf142
 v39:=Tryz.zeroValue142
 t45:=underlying171
 a45:=Tryz.isAgg171
 z45:=Tryz.sizeOf171
 v45:=Tryz.zeroValue171
 t46:=underlying172
 a46:=Tryz.isAgg172
 z46:=Tryz.sizeOf172
 v46:=Tryz.zeroValue172
 t50:=underlying113
 a50:=Tryz.isAgg113
 z50:=Tryz.sizeOf113
 v50:=Tryz.zeroValue113
 t53:=underlying178
 a53:=Tryz.isAgg178
 z53:=Tryz.sizeOf178
 v53:=Tryz.zeroValue178
 t55:=underlying105
 a55:=Tryz.isAgg105
 z55:=Tryz.sizeOf105
 v55:=Tryz.zeroValue105
 t66:=underlying189
 a66:=Tryz.isAgg189
 z66:=Tryz.sizeOf189
 v66:=Tryz.zeroValue189
 t70:=underlying193
 a70:=Tryz.isAgg193
 z70:=Tryz.sizeOf193
 v70:=Tryz.zeroValue193
 t76:=underlying198
 a76:=Tryz.isAgg198
 z76:=Tryz.sizeOf198
 v76:=Tryz.zeroValue198
 t77:=underlying199
 a77:=Tryz.isAgg199
 z77:=Tryz.sizeOf199
 v77:=Tryz.zeroValue199 }
def idxWl_ren:Go.Shelf.Ren:=⟨λ| 6=>119 | n=>n,λ| 22=>48 | 23=>57 | 25=>123 | 3=>3 | 0=>0 | 4=>4 | n=>n,λ| n=>n⟩
theorem idxWl:Go.Proofs.SlLaysH0.n6 prog idxWl_ren:={
 mixed:=by kernel_rfl
 f6:=⟨Tryz.f119.name,by decide,func119.trans (congrArg some (by kernel_rfl))⟩
 t0:=underlying0
 a0:=Tryz.isAgg0
 z0:=Tryz.sizeOf0
 v0:=Tryz.zeroValue0
 t3:=underlying3
 a3:=Tryz.isAgg3
 z3:=Tryz.sizeOf3
 v3:=Tryz.zeroValue3
 t4:=underlying4
 a4:=Tryz.isAgg4
 z4:=Tryz.sizeOf4
 v4:=Tryz.zeroValue4
 t22:=underlying48
 a22:=Tryz.isAgg48
 z22:=Tryz.sizeOf48
 v22:=Tryz.zeroValue48
 t25:=underlying123
 a25:=Tryz.isAgg123
 z25:=Tryz.sizeOf123
 v25:=Tryz.zeroValue123 }
def conWl_ren:Go.Shelf.Ren:=⟨λ| 8=>75 | 6=>119 | n=>n,λ| 22=>48 | 23=>57 | 25=>123 | 4=>4 | 3=>3 | 0=>0 | n=>n,λ| n=>n⟩
theorem conWl:Go.Proofs.SlLaysH0.n8 prog conWl_ren:={
 mixed:=by kernel_rfl
 f6:=⟨Tryz.f119.name,by decide,func119.trans (congrArg some (by kernel_rfl))⟩
 f8:=⟨Tryz.f75.name,by decide,func75.trans (congrArg some (by kernel_rfl))⟩
 t0:=underlying0
 a0:=Tryz.isAgg0
 z0:=Tryz.sizeOf0
 v0:=Tryz.zeroValue0
 t3:=underlying3
 a3:=Tryz.isAgg3
 z3:=Tryz.sizeOf3
 v3:=Tryz.zeroValue3
 t4:=underlying4
 a4:=Tryz.isAgg4
 z4:=Tryz.sizeOf4
 v4:=Tryz.zeroValue4
 t22:=underlying48
 a22:=Tryz.isAgg48
 z22:=Tryz.sizeOf48
 v22:=Tryz.zeroValue48
 t25:=underlying123
 a25:=Tryz.isAgg123
 z25:=Tryz.sizeOf123
 v25:=Tryz.zeroValue123 }
def cloneWl_ren:Go.Shelf.Ren:=⟨λ| 41=>56 | n=>n,λ| 22=>48 | 23=>57 | 4=>4 | n=>n,λ| n=>n⟩
theorem cloneWl:Go.Proofs.SlLaysE0.n41 prog cloneWl_ren:={
 mixed:=by kernel_rfl
 f41:=⟨Tryz.f56.name,by decide,func56.trans (congrArg some (by kernel_rfl))⟩
 t4:=underlying4
 a4:=Tryz.isAgg4
 z4:=Tryz.sizeOf4
 v4:=Tryz.zeroValue4
 t22:=underlying48
 a22:=Tryz.isAgg48
 z22:=Tryz.sizeOf48
 v22:=Tryz.zeroValue48 }
end
section
open Go.Lib Go.Shelf
theorem kg (x:Tri3):(cT x).length=6:=rfl
theorem Yc (x:Tri3):∀ v∈cT x,v.oneCell'=true:=by intro v hv;simp [cT] at hv;rcases hv with rfl | rfl | rfl | rfl | rfl | rfl <;> rfl
theorem cmpLaysT (blk off size:Nat) (w:World):CmpLays prog 51 #[] cT 6 cmpT blk off size w:=λ_ _ _ _ x y=>
 (dcmpT_any x y _).mono λ_ _ ⟨he,hx⟩=>⟨he,hx.grown⟩
theorem enterT:∀ args w,(callFunc 51 args).run prog w=.ok (.enter 51 args) w:=enters_of func51 (by kernel_rfl) rfl
theorem jE (B:Nat) (v:Value) (L:List Tri3) (hL:L.length<=3000000) (w:World) (h:w.ownsRow B 28 6 v L.length (L.flatMap cT)):Calls prog 50 #[v,.func (.func 51) #[] #[]] w λe w'=>e=.returned (.tuple #[])/\w.grownBy w' v.ownBlock/\∃ a cap,v=.slice a L.length cap/\RowAt cT 6 w' a (srt cmpT L):=by
 have h2:=h.2;rcases h2 with ⟨rfl,h0⟩ | ⟨g,cap,cur,rfl,hB,hb,h1,h2,h3,h4⟩
 ·have:L=[]:=Xh h0;subst this;have hc:=AnyF.slices_SortFunc_none { sortTri with } none 0 (.func (.func 51) #[] #[]) w
  change Calls prog 50 _ _ _ at hc
  exact hc.mono λe w' ⟨he,hw⟩=>⟨he,hw▸qS _ _,none,0,rfl,by rw [show srt cmpT ([]:List Tri3)=[] by simp [srt]];exact RowAt.nil⟩
 ·obtain ⟨hH,hg⟩:=qR kg h;have hc:=AnyQ.slices_SortFunc_total sortTri 6 Tryz.isAgg28 Tryz.sizeOf28 cT kg Yc cmpT wholeT.swo 51 #[] g 0 cap L.toArray w enterT (cmpLaysT g 0 _ w) hH hg (by simp;omega) wholeT.one
  change Calls prog 50 _ _ _ at hc
  rw [show L.toArray.size=L.length by simp] at hc;refine hc.mono λe w' ⟨he,n,os,hw⟩=>⟨he,?_,_,cap,rfl,?_⟩
  ·rw [hw];exact xZ _
  ·rw [hw];exact rowAt_of_holdsK kg (holdsK_sortK hH hg (by simp)) (Xi hg (xZ (c:=cT) (k:=6) _).size)
end
attribute [local go_sem 10000] tri_eql
theorem ZC:(prog.info? 28).map (λi=>(i.zero,i.size,i.bytes))=some (some (.agg #[(),(),(),(),(),()]),6,48):=by kernel_rfl
theorem yR {w:World} {ops:Array Oper} {rest:List Oper} {o:Oper} {a:Act} {Q:Exit->Act->World->Prop} (hgd:o.guard=none) (s x:Operand) (ho:o.op=.call { callee:=.builtin .append,args:=#[s,x],argTypes:=#[40,40] }) (B:Nat) (v:Value) (L:List Tri3) (hs:a.eval s=v) (hown:w.ownsRow B 28 6 v L.length (L.flatMap cT)) (bx:Nat) (T:Tri3) (hx:a.eval x=.slice (some ⟨bx,0,none⟩) 1 1) (hbx:Box w bx (cT T) 28) (hn:L.length<=1000000) (hbase:B<=w.heap.size) (h:∀ w' v',w'.ownsRow B 28 6 v' (L ++ [T]).length ((L ++ [T]).flatMap cT)->w.grownBy w' v.ownBlock->wpList prog ops Q rest (a.put o.dst v') w'):wpList prog ops Q (o :: rest) a w:=by
 obtain ⟨i0,hi,hz0,hz1,hz2⟩:=info_parts ZC;refine wpList_append_own w hgd s x 40 ho B 28 i0 _ 6 48 underlying40 hi hz0 hz1 hz2 rfl (by decide) v L.length _ hs hown ⟨bx,0,none⟩ 1 1 (cT T) hx rfl ?_ (Yc T) ?_ ?_ hbase ?_
 ·intro j u hj;have:=hbx.f.1 j;rw [hj] at this;rw [Addr.add_lit,Xa];exact this
 ·unfold maxLen;omega
 ·omega
 ·intro v' w' hown' hg _;refine h w' v' ?_ hg;rw [Yi,XX,X0]
  simpa using hown'
def heads (p:Tri3->Bool) (E:Es):List Tri3:=(E.filter λe=>decide (e.1.1=e.2.A) && p e.2).map (·.2)
theorem xY {p:Tri3->Bool} {E F:Es} (h:E.Perm F):(heads p E).Perm (heads p F):=(h.filter _).map _
theorem zo (p:Tri3->Bool) (E F:Es):heads p (E ++ F)=heads p E ++ heads p F:=by unfold heads;rw [KA,Xp]
theorem yo (p:Tri3->Bool) (E:Es):(heads p E).length<=E.length:=by unfold heads;rw [JC];exact KP _ _
theorem jQ {p:Tri3->Bool} {e:(Pt×Pt)×Tri3} (h:e.1.1=e.2.A) (hp:p e.2=true):heads p [e]=[e.2]:=by simp [heads,h,hp]
theorem kQ {p:Tri3->Bool} {e:(Pt×Pt)×Tri3} (h:¬ (e.1.1=e.2.A/\p e.2=true)):heads p [e]=[]:=by
 unfold heads;rw [XH]
 ·rfl
 ·simpa using h
theorem kv {w:World} {B k:Nat} {T:TypeId} {v:Value} {n:Nat} {xs:List Value} (h:w.ownsRow B T k v n xs):∀ g,v.ownBlock=some g->∃ cs T',w.heap[g]? = some (.cells cs T' (0,0)):=λg hg=>by
 rcases h.2 with ⟨rfl,_⟩ | ⟨g',cap,cur,rfl,_,hb,_⟩
 ·simp [Value.ownBlock] at hg
 ·simp [Value.ownBlock] at hg;subst hg;exact ⟨_,_,hb⟩
theorem yP {w:World} {B k b:Nat} {T:TypeId} {v:Value} {n:Nat} {xs:List Value} {E:Es} (h:w.ownsRow B T k v n xs) (H:Hs w b E):some b≠v.ownBlock:=λe=>by
 obtain ⟨cs,T',hc⟩:=kv h b e.symm;obtain ⟨es,clock,hb,_⟩:=H;rw [hb] at hc;cases hc
theorem yM {w:World} {B k b r:Nat} {T:TypeId} {v:Value} {n:Nat} {xs:List Value} {E R:Es} (h:w.ownsRow B T k v n xs) (H:Ranging eW eT okW w b r E R):some r≠v.ownBlock:=λe=>by
 obtain ⟨cs,T',hc⟩:=kv h r e.symm;obtain ⟨es,clock,_,_,_,_,_,_,_,_,hr,_⟩:=H;rw [hr] at hc;cases hc
theorem zp {w:World} {b r:Nat} {E R:Es} (H:Ranging eW eT okW w b r E R):w.rangeLeft b r=R.length:=by
 obtain ⟨es,clock,since,seen,c0,hb,_,_,_,_,hr,_,hl,_⟩:=H;simp only [World.rangeLeft,hb,hr];have:=hl.length_eq
 simpa using this
theorem those_any (mb b:Nat) (E:Es) (g:FuncId) (cb:Array Value) (p:Tri3->Bool) (hE:E.length<=1000000) (w:World) (Bm:Box w mb [.map (some b)] 102) (Hm:Hs w b E) (eg:∀ args w,(callFunc g args).run prog w=.ok (.enter g args) w) (hp:∀ (T:Tri3) (W:World),Below w w W->Calls prog g (#[.agg #[T.A.x,T.A.y,T.B.x,T.B.y,T.C.x,T.C.y]] ++ cb) W λe w'=>e=.returned (.bool (p T))/\Below W W w'):Calls prog 54 #[pt0 mb,.func (.func g) #[] cb] w λe w'=>∃ a cap,e=.returned (.slice a (srt cmpT (heads p E)).length cap)/\RowAt cT 6 w' a (srt cmpT (heads p E))/\Below w w w':=by
 obtain ⟨xm,ym,zm,vm⟩:=Bm.f
 go_enter func54,ntmps54
 go_wp2_with (at_range;refine yg _ rfl _ rfl kvM rfl Hm ?_)
 intro w0 HR0 hw0 _;clear xm ym zm vm;go_wp2
 go_loopw [5] (λv wr=>∃ D R:Es,Hi ((D ++ R).Perm E)/\wr.ownsRow w.heap.size 28 6 v (heads p D).length ((heads p D).flatMap cT)/\Ranging eW eT okW wr b w.heap.size E R/\Below w w wr) (λ_ wr=>wr.rangeLeft b w.heap.size)
 case atStart=>exact ⟨[],E,hdd (by simp),World.ownsRow_nil _ _ _ _,HR0,hw0⟩
 case round=>
  clear HR0 hw0;obtain ⟨D,R,hD,hown,HR,hw⟩:=hrel;go_wp2_with (at_next;refine x9 _ rfl _ rfl rfl HR ?_ ?_)
  ·intro hR;subst hR;have hp0:(heads p D).Perm (heads p E):=xY (by simpa using hD.o);have hle:(heads p D).length<=3000000:=by have:=hp0.length_eq;have:=yo p E;omega
   have HS:=hdd (wholeT.srt_of_perm hp0);go_wp2_with fail;refine (jE _ _ _ hle _ hown).mono ?_;rintro e w2 ⟨rfl,hg2,a,cap,rfl,hr⟩;go_wp2
   go_ret
   have hlen:(heads p D).length=(srt cmpT (heads p E)).length:=by rw [<-HS.o];exact (zd _).length_eq.symm
   rw [HS.o] at hr;refine ⟨a,cap,by rw [hlen];rfl,hr,hw.grown hg2 hw.size (λk hk=>?_)⟩;exact (hown.lt k hk).1
  ·intro u x T R' w1 hperm HR1 hg1 hs1 hen;have hD2:=hdd (show ((D ++ [((u,x),T)]) ++ R').Perm E by have:=(hperm.append_left D).symm.trans hD.o;simpa using this);have own1:=hown.kept hg1 (.inr (λe=>yM hown HR e.symm));have hw1:=hw.grown hg1 hw.size (λk hk=>by cases hk;exact Yq _);have HL:=hdd (show w1.rangeLeft b w.heap.size < wr.rangeLeft b w.heap.size by rw [zp HR1,zp HR,hperm.length_eq];simp);have hen2:(Instr.entry (.pointer (some ⟨w,0,none⟩))).run prog w1=.ok (.tuple #[.agg #[u.x,u.y,x.x,x.y],T]) w1:=hen;have hle:(heads p D).length<=1000000:=by have:=hD2.o.length_eq;have:=yo p D;simp at *;omega
   clear hown HR hg1 hs1 hen hperm hw;have hnx:Hi (∀ W:World,Below w1 w1 W->(W.rangeLeft b w.heap.size < wr.rangeLeft b w.heap.size)):=hdd (λW hW=>by
    rw [zp (HR1.ee hW),<-zp HR1];exact HL.o)
   by_cases hA:u=T.A
   ·have hd:peqI u.x u.y T.A.x T.A.y=true:=qs.2 hA;cases hT:p T with
    | false=>
     have HH:=hdd (show heads p (D ++ [((u,x),T)])=heads p D by rw [zo,kQ (by simp [hT])];simp);have cp:=λW hW=>hp T W hW;rw [hT] at cp;clear hA hT;go_wp2_with fail;refine zG λW2 hW=>?_;have hb2:Below w1 w1 W2:=by rw [hW];go_grown
     clear hW;refine (cp _ ((upB hw1 hb2))).mono ?_;rintro e w3 ⟨rfl,hb⟩;have hb3:=(upB hb2 hb);clear hb hb2;go_wp2
     go_roundw
     case rel=>exact ⟨D ++ [((u,x),T)],R',hD2,by rw [HH.o];exact own1.kept (zK hb3 none) (by cases u5.ownBlock <;> simp),HR1.ee hb3,(upB hw1 hb3)⟩
     case measure=>exact hnx.o _ hb3
    | true=>
     have HH:=hdd (show heads p (D ++ [((u,x),T)])=heads p D ++ [T] by rw [zo,jQ hA hT]);have cp:=λW hW=>hp T W hW;rw [hT] at cp;clear hA hT;go_wp2_with fail;refine zG λW2 hW=>?_;have hb2:Below w1 w1 W2:=by rw [hW];go_grown
     have Bt:Box W2 (w1+1) (cT T) 28:=by rw [hW];exact Box.new (by simp)
     clear hW;refine (cp _ ((upB hw1 hb2))).mono ?_;rintro e w3 ⟨rfl,hb⟩;have hb3:=(upB hb2 hb);replace Bt:=Bt.ee hb;have own3:=own1.kept (zK hb3 none) (by cases u5.ownBlock <;> simp);have HB:=hdd (XD hw1.size hb3.size);clear hb hb2;obtain ⟨xt,yt,zt,vt⟩:=Bt.f;unfold cT at xt;go_wp2_with (at_builtin;refine yR rfl _ _ rfl w.heap.size _ (heads p D) rfl (own3.alloc _) w3.heap.size T rfl (Box.new rfl) hle (by have:=HB.o;simp;omega) ?_;intro w4 v4 hown4 hg4)
     have hR3:=(HR1.ee hb3).kept (World.grownBy_alloc w3 (.cells (cT T).toArray 28) none) (by simp) (by simp);have hR4:=hR3.kept hg4 (yP (own3.alloc _) hR3.holds) (yM (own3.alloc _) hR3);have hw4:=((((upB hw1 hb3)).alloc (by have:=HB.o;omega) (.cells (cT T).toArray 28))).grown hg4 (by have:=HB.o;simp;omega) (λk hk=>((own3.alloc (.cells (cT T).toArray 28)).lt k hk).1)
     go_roundw
     case rel=>exact ⟨D ++ [((u,x),T)],R',hD2,by rw [HH.o];exact hown4,hR4,hw4⟩
     case measure=>rw [zp hR4,<-zp HR1];exact HL.o
   ·have hd:peqI u.x u.y T.A.x T.A.y=false:=by rw [<-KD,qs];exact hA
    have HH:=hdd (show heads p (D ++ [((u,x),T)])=heads p D by rw [zo,kQ (by simp [hA])];simp);clear hA;go_wp2
    go_roundw
    case rel=>exact ⟨D ++ [((u,x),T)],R',hD2,by rw [HH.o];exact (own1.alloc _).alloc _,HR1.ext (by go_grown) rfl,by have:=hw1.size;go_grown⟩
    case measure=>exact hnx.o _ (by go_grown)
theorem RowAt.part {α : Type} {c : α -> List Value} {k : Nat} {w : World} {a : Option Addr} {L : List α} (h : RowAt c k w a L) (lo m cap : Nat) (hcap : L.length <= cap) :
    RowAt c k w (if cap=lo then a else a.map λx=>x.add (lo * k)) ((L.drop lo).take m):=λj x hj=>by
 have hj2:L[lo+j]? = some x:=by
  rw [Xo] at hj;split at hj
  ·rwa [KC] at hj
  ·cases hj
 obtain ⟨ad,h1,h2,h3⟩:=h (lo+j) x hj2;have hl:=(Yr.1 hj2).1;refine ⟨ad.add (lo * k),?_,by rw [zy];exact h2,λi u hu=>?_⟩
 ·rw [Ye (by omega),h1];rfl
 ·rw [show (ad.add (lo * k)).add (j * k)=ad.add ((lo+j) * k) by rw [Go.Deep.add_add,<-Q9]];exact h3 i u hu
theorem kF (a:Option Addr) (n cap lo hi:Nat) (h1:lo<=hi) (h2:hi<=cap) (w:World):(Instr.slice 40 (.slice a n cap) (some (.int .i64 lo)) (some (.int .i64 hi)) none).run prog w=.ok (.slice (if cap=lo then a else a.map λx=>x.add (lo * 6)) (hi - lo) (cap - lo)) w:=by
 simp [Instr.slice,Instr.sliceBounds,Instr.sliceBound,asIntOf,run_underlying underlying40,go_sem,h1,h2]
theorem run_from_tri (a:Option Addr) (n cap lo:Nat) (h1:lo<=n) (w:World):(Instr.slice 40 (.slice a n cap) (some (.int .i64 lo)) none none).run prog w=.ok (.slice (if cap=lo then a else a.map λx=>x.add (lo * 6)) (n - lo) (cap - lo)) w:=by
 simp [Instr.slice,Instr.sliceBounds,Instr.sliceBound,asIntOf,run_underlying underlying40,go_sem,h1]
theorem run_upto_tri (a:Option Addr) (n cap hi:Nat) (h1:hi<=cap) (w:World):(Instr.slice 40 (.slice a n cap) none (some (.int .i64 hi)) none).run prog w=.ok (.slice a hi cap) w:=by
 cases a <;> simp [Instr.slice,Instr.sliceBounds,Instr.sliceBound,asIntOf,run_underlying underlying40,go_sem,h1,Addr.add]
section
variable {α:Type} {c:α->α->Int}
def Blocks (c:α->α->Int) (n:Nat) (L:List α):Prop:=∀ i j (hi:i < L.length) (hj:j < L.length),i < j->i / n=j / n->c L[i] L[j]<=0
theorem blocks_one (L:List α):Blocks c 1 L:=λi j _ _ h e=>by rw [Nat.div_one,Nat.div_one] at e;omega
theorem blocks_all {n:Nat} {L:List α} (h:Blocks c n L) (hn:L.length<=n):InOrder c L:=by
 unfold InOrder;rw [Xk];intro i j hi hj hij;exact h i j hi hj hij (by rw [Jm (by omega),Jm (by omega)])
theorem j8 {n m:Nat} {L:List α} (h:Blocks c n L):InOrder c ((L.drop (n * m)).take n):=by
 unfold InOrder;rw [Xk];intro i j hi hj hij;simp only [X4,X7] at hi hj;simp only [Jc,Jd];have h0:0 < n:=by omega
 refine h _ _ (by omega) (by omega) (by omega) ?_;rw [Nat.mul_add_div h0,Nat.mul_add_div h0,Jm (by omega),Jm (by omega)]
theorem blocks_append {n m:Nat} {O M:List α} (h:Blocks c n O) (hl:O.length=n * m) (hM:InOrder c M):Blocks c n (O ++ M):=by
 intro i j hi hj hij e;rw [Yi] at hi hj;by_cases h1:j < O.length
 ·rw [List.getElem_append_left h1,List.getElem_append_left (by omega)];exact h i j (by omega) h1 hij e
 ·by_cases h2:i < O.length
  ·exfalso
   have h0 : 0 < n := by rcases Jw n with h | h; · subst h; rw [Nat.zero_mul] at hl; omega
                         ·exact h
   have e1:i / n < m:=by rw [Jh h0,JU];omega
   have e2:m<=j / n:=by rw [Nat.le_div_iff_mul_le h0,JU];omega
   omega
  ·rw [List.getElem_append_right (by omega),List.getElem_append_right (by omega)];unfold InOrder at hM;rw [Xk] at hM;exact hM (i - O.length) (j - O.length) (by omega) (by omega) (by omega)
structure Mrg (c:α->α->Int) (X M A B:List α):Prop where
 perm:(M ++ (A ++ B)).Perm X
 m:InOrder c M
 a:InOrder c A
 b:InOrder c B
 le:∀ x∈M,∀ y∈A ++ B,c x y<=0
theorem Mrg.start {A B:List α} (ha:InOrder c A) (hb:InOrder c B):Mrg c (A ++ B) [] A B:=⟨by simp,by simp [InOrder],ha,hb,by simp⟩
theorem inOrder_snoc {M:List α} {x:α} (h:InOrder c M) (hx:∀ y∈M,c y x<=0):InOrder c (M ++ [x]):=by
 unfold InOrder at *;rw [KL];exact ⟨h,by simp,λa ha b hb=>by simp at hb;subst hb;exact hx a ha⟩
theorem Mrg.left (W:Whole c) {X M A B:List α} {x:α} (h:Mrg c X M (x :: A) B) (hx:∀ y,B.head? = some y->c x y<=0):Mrg c X (M ++ [x]) A B:=by
 have hA:=h.a;unfold InOrder at hA;rw [Xt] at hA;have hxB:∀ y∈B,c x y<=0:=λy hy=>by
  cases B with
  | nil=>simp at hy
  | cons z B=>
   have hb:=h.b;unfold InOrder at hb;rw [Xt] at hb;rcases Yg.1 hy with rfl | hy
   ·exact hx _ rfl
   ·exact W.le_trans (hx _ rfl) (hb.1 y hy)
 refine ⟨by simpa using h.perm,inOrder_snoc h.m (λy hy=>h.le y hy x (by simp)),hA.2,h.b,λz hz y hy=>?_⟩;rcases Ys.1 hz with hz | hz
 ·exact h.le z hz y (by simp at hy ⊢;exact .inr hy)
 ·simp at hz;subst hz;rcases Ys.1 hy with hy | hy
  ·exact hA.1 y hy
  ·exact hxB y hy
theorem Mrg.right (W:Whole c) {X M A B:List α} {x:α} (h:Mrg c X M A (x :: B)) (hx:∀ y,A.head? = some y->c x y<=0):Mrg c X (M ++ [x]) A B:=by
 have h2:Mrg c X M (x :: B) A:=⟨((XL).append_left M).trans h.perm,h.m,h.b,h.a,λz hz y hy=>h.le z hz y (by simp at hy ⊢;rcases hy with h | h | h <;> simp [h])⟩;have h3:=h2.left W hx;exact ⟨((XL).append_left _).trans h3.perm,h3.m,h3.b,h3.a,λz hz y hy=>h3.le z hz y (by simp at hy ⊢;exact hy.symm)⟩
theorem Mrg.done {X M:List α} (h:Mrg c X M [] []):M.Perm X:=by simpa using h.perm
theorem two_blocks (L:List α) (at_ n:Nat):(L.drop at_).take n ++ (L.drop (at_+n)).take n=(L.drop at_).take (2 * n):=by
 rw [<-Q6,Nat.two_mul,List.take_add]
end
theorem qI {α:Type} {c:α->List Value} {k:Nat} {w:World} {B:Nat} {T:TypeId} {v:Value} {L:List α} (hc:∀ x,(c x).length=k) (h:w.ownsRow B T k v L.length (L.flatMap c)):∃ a cap,v=.slice a L.length cap/\L.length<=cap/\RowAt c k w a L:=by
 have h2:=h.2;obtain ⟨a,cap,rfl,hr⟩:=yi hc h;refine ⟨a,cap,rfl,?_,hr⟩;rcases h2 with ⟨h3,h4⟩ | ⟨g,cap2,cur,h3,_,_,h4,_⟩
 ·omega
 ·simp only [Value.slice.injEq] at h3;omega
theorem Six.cells {w:World} {A:Addr} {T:Tri3} (h:Six w A T):(∀ d os,(grow (redrawn w d) os).cell? A=some (.int .i64 T.A.x))/\(∀ d os,(grow (redrawn w d) os).cell? ⟨A.block,A.off+1,none⟩=some (.int .i64 T.A.y))/\(∀ d os,(grow (redrawn w d) os).cell? ⟨A.block,A.off+2,none⟩=some (.int .i64 T.B.x))/\(∀ d os,(grow (redrawn w d) os).cell? ⟨A.block,A.off+3,none⟩=some (.int .i64 T.B.y))/\(∀ d os,(grow (redrawn w d) os).cell? ⟨A.block,A.off+4,none⟩=some (.int .i64 T.C.x))/\(∀ d os,(grow (redrawn w d) os).cell? ⟨A.block,A.off+5,none⟩=some (.int .i64 T.C.y)):=
 ⟨λd os=>(h.ext (below_regrown w d os) rfl).2.1,λd os=>(h.ext (below_regrown w d os) rfl).2.2.1,λd os=>(h.ext (below_regrown w d os) rfl).2.2.2.1,λd os=>(h.ext (below_regrown w d os) rfl).2.2.2.2.1,λd os=>(h.ext (below_regrown w d os) rfl).2.2.2.2.2.1,λd os=>(h.ext (below_regrown w d os) rfl).2.2.2.2.2.2⟩
theorem RowAt.first {w:World} {a:Option Addr} {x:Tri3} {L:List Tri3} (h:RowAt cT 6 w a (x :: L)):∃ ad,a=some ad/\Six w ad x:=by
 obtain ⟨ad,A,h1,h2,h3⟩:=h.six (j:=0) (by simp);rw [Nat.zero_mul,Addr.add_zero'] at h2;subst h2;exact ⟨ad,h1,h3⟩
theorem RowAt.rest {w:World} {a:Option Addr} {x:Tri3} {L:List Tri3} {c:Nat} (h:RowAt cT 6 w a (x :: L)) (hc:(x :: L).length<=c):∃ a',(∀ w',(Instr.slice 40 (.slice a (L.length+1) c) (some (.int .i64 1)) none none).run prog w'=.ok (.slice a' L.length (c - 1)) w')/\RowAt cT 6 w a' L/\L.length<=c - 1:=by
 have h1:=h.part 1 L.length c hc;have e:((x :: L).drop 1).take L.length=L:=by simp
 rw [e] at h1;refine ⟨_,λw'=>?_,h1,by simp at hc;omega⟩;have:=run_from_tri a (L.length+1) c 1 (by omega) w'
 simpa using this
def lenOf:Value->Nat | .slice _ n _=>n | _=>0
theorem rsortT_cap (a0:Option Addr) (c0 N:Nat) (L:List Tri3) (hL:Hi (L.length=N)) (hN:N<=1000000) (hc0:N<=c0) (w:World) (h0:RowAt cT 6 w a0 L):Calls prog 53 #[.slice a0 N c0] w λe w'=>∃ a cap,e=.returned (.slice a N cap)/\N<=cap/\RowAt cT 6 w' a (srt cmpT L)/\Below w w w':=by
 go_enter func53,ntmps53
 go_wp2
 go_loopw [0,3] (λvl vn wr=>∃ (nn:Nat) (X:List Tri3) (a:Option Addr) (cap:Nat),vl=.slice a N cap/\vn=.int .i64 nn/\1<=nn/\nn<=2000000/\Hi (X.Perm L)/\Hi (X.length=N)/\Hi (Blocks cmpT nn X)/\RowAt cT 6 wr a X/\N<=cap/\Below w w wr) (λ_ vn _=>N - (intOf vn).toNat)
 case atStart=>exact ⟨1,L,a0,c0,rfl,rfl,Yq _,by omega,hdd (Q5 _),hL,hdd (blocks_one L),h0,hc0,Below.refl _ _⟩
 case round=>
  obtain ⟨nn,X,a,cap,rfl,rfl,hn1,hn2,hX,hXl,hB,hr,hcap,hw⟩:=hrel;by_cases hlt:nn < N
  case neg=>
   have HS:=hdd (wholeT.srt_eq hX.o (blocks_all hB.o (by rw [hXl.o];omega)));go_wp2
   go_ret
   exact ⟨a,cap,rfl,hcap,by rw [<-HS.o];exact hr,hw⟩
  case pos=>
   go_wp2;obtain ⟨W0,rfl⟩:∃ W0,W0=wr:=⟨_,rfl⟩
   go_loopw [4,5] (λvo vat wr=>∃ (m at_:Nat) (O:List Tri3),vat=.int .i64 at_/\Hi (at_=2 * nn * m)/\at_<=5000000/\Hi (O.Perm (X.take at_))/\Hi (Blocks cmpT (2 * nn) O)/\wr.ownsRow W0.heap.size 28 6 vo O.length (O.flatMap cT)/\Below W0 W0 wr) (λ_ vat _=>N - (intOf vat).toNat)
   case atStart=>exact ⟨0,0,[],rfl,hdd (by simp),by omega,hdd (by simp),hdd (λi j hi=>by simp at hi),World.ownsRow_nil _ _ _ _,Below.refl _ _⟩
   case round=>
    obtain ⟨m,at_,O,rfl,hat,hat2,hO,hOB,hown,hw1⟩:=hrel;by_cases hlt2:at_ < N
    case neg=>
     obtain ⟨a',cap',rfl,hcap',hr'⟩:=qI kg hown;have hOX:O.Perm X:=by have:=hO.o;rwa [X5 (by rw [hXl.o];omega)] at this
     have HN:=hdd (show O.length=N by rw [hOX.length_eq,hXl.o]);rw [HN.o] at hcap';rw [HN.o];have HX:=hdd (hOX.trans hX.o);have e2:wrap64 (2 * (nn:Int))=((2 * nn:Nat):Int):=by rw [w64];omega
     clear hOX;go_wp2
     go_roundw
     case rel=>exact ⟨2 * nn,O,a',cap',rfl,by go_num,by omega,by omega,HX,HN,hOB,hr',hcap',(upB hw hw1)⟩
     case measure=>simp [intOf];omega
    case pos=>
     obtain ⟨p1,hp1⟩:∃ p1,p1=min (at_+nn) N:=⟨_,rfl⟩;obtain ⟨p2,hp2⟩:∃ p2,p2=min (at_+2 * nn) N:=⟨_,rfl⟩;have i1:IntKind.i64.wrap ((at_:Int)+nn)=(at_:Int)+nn:=by rw [IntKind.wrap_i64];omega
     have i2:IntKind.i64.wrap (2 * (nn:Int))=2 * (nn:Int):=by rw [IntKind.wrap_i64];omega
     have i3:IntKind.i64.wrap ((at_:Int)+2 * (nn:Int))=(at_:Int)+2 * (nn:Int):=by rw [IntKind.wrap_i64];omega
     have m1:min ((at_:Int)+nn) (N:Int)=(p1:Int):=by rw [hp1];omega
     have m2:min ((at_:Int)+2 * (nn:Int)) (N:Int)=(p2:Int):=by rw [hp2];omega
     have s1:=λw=>kF a N cap at_ p1 (by omega) (by omega) w;have s2:=λw=>kF a N cap p1 p2 (by omega) (by omega) w;have r1:=hr.part at_ nn cap (by rw [hXl.o];exact hcap);have r2:=hr.part p1 nn cap (by rw [hXl.o];exact hcap);generalize (if cap=at_ then a else a.map λx=>x.add (at_ * 6))=a1 at s1 r1
     generalize (if cap=p1 then a else a.map λx=>x.add (p1 * 6))=a2 at s2 r2
     obtain ⟨A,hA⟩:∃ A,A=(X.drop at_).take nn:=⟨_,rfl⟩;obtain ⟨B,hBq⟩:∃ B,B=(X.drop (at_+nn)).take nn:=⟨_,rfl⟩;have hB2:B=(X.drop p1).take nn:=by
      rw [hBq,hp1];rcases Nat.le_total (at_+nn) N with h | h
      ·rw [Nat.min_eq_left h]
      ·rw [Nat.min_eq_right h,Kr (by rw [hXl.o];omega),Kr (by rw [hXl.o];omega)]
     have lA:p1 - at_=A.length:=by rw [hA,X4,X7,hXl.o];omega
     have lB:p2 - p1=B.length:=by rw [hB2,X4,X7,hXl.o];omega
     rw [<-hA] at r1;rw [<-hB2] at r2;rw [lA] at s1;rw [lB] at s2;have cA:A.length<=cap - at_:=by omega
     have cB:B.length<=cap - p1:=by omega
     have HM0:=hdd (Mrg.start (c:=cmpT) (A:=A) (B:=B) (by rw [hA,hat.o,show 2 * nn * m=nn * (2 * m) by rw [JU 2 nn,Nat.mul_assoc]];exact j8 hB.o) (by rw [hBq,hat.o,show 2 * nn * m+nn=nn * (2 * m+1) by rw [JU 2 nn,Nat.mul_assoc,Nat.mul_add,Nat.mul_one]];exact j8 hB.o));have HAB:=hdd (show A ++ B=(X.drop at_).take (2 * nn) by rw [hA,hBq];exact two_blocks X at_ nn);have HOl:=hdd (show O.length=at_ by rw [(hO.o).length_eq,X4,hXl.o];omega);have HLB:=hdd (show A.length+B.length<=2000000 by omega);clear hp1 hp2 hA hBq hB2 lA lB;generalize cap - at_=cap1 at *
     generalize cap - p1=cap2 at *
     go_wp2
     go_quiet (fail)
     clear i1 i2 i3 m1 m2 s1 s2;have hb:Below wr wr (wr.drewN nq):=⟨rfl,rfl,rfl,Yq _,λ_ _=>rfl⟩;have own2:=hown.kept (zK hb none) (by cases u4.ownBlock <;> simp);have hw2:=(upB hw1 hb);clear hown hw1 hb;generalize wr.drewN nq=W1 at *
     go_wp2
     go_loopw [4,6,7] (λvo va vb wr=>∃ (M A' B':List Tri3) (a1:Option Addr) (c1:Nat) (a2:Option Addr) (c2:Nat),va=.slice a1 A'.length c1/\vb=.slice a2 B'.length c2/\A'.length<=c1/\B'.length<=c2/\Hi (Mrg cmpT (A ++ B) M A' B')/\RowAt cT 6 W0 a1 A'/\RowAt cT 6 W0 a2 B'/\wr.ownsRow W0.heap.size 28 6 vo (O ++ M).length ((O ++ M).flatMap cT)/\Below W0 W0 wr) (λ_ va vb _=>lenOf va+lenOf vb)
     case atStart=>exact ⟨[],A,B,a1,cap1,a2,cap2,rfl,rfl,cA,cB,HM0,r1,r2,by simpa using own2,hw2⟩
     case round=>
      clear own2 hw2 r1 r2 cA cB;obtain ⟨M,A',B',a1,c1,a2,c2,rfl,rfl,hc1,hc2,HM,ra,rb,own2,hw2⟩:=hrel;have HLe:=hdd (show (O ++ M).length<=1000000 by
       have e1:=HM.o.perm.length_eq;have e2:=congrArg List.length HAB.o;have e3:=HOl.o;have e4:=hXl.o;simp only [Yi,X4,X7] at e1 e2 ⊢;omega)
      rcases A' with _ | ⟨x,A'⟩ <;> rcases B' with _ | ⟨y,B'⟩
      ·have HO := hdd (show (O ++ M).Perm (X.take (at_ + 2 * nn)) by
         rw [List.take_add];refine (hO.o).append ?_;rw [<-HAB.o];exact HM.o.done)
       have HBl:=hdd (blocks_append hOB.o (HOl.o.trans hat.o) HM.o.m);have e2:wrap64 (2 * (nn:Int))=2 * (nn:Int):=by rw [w64];omega
       have e3:wrap64 ((at_:Int)+2 * (nn:Int))=(at_:Int)+2 * (nn:Int):=by rw [w64];omega
       simp only [Kn];go_wp2
       go_roundw
       case rel=>exact ⟨m+1,at_+2 * nn,O ++ M,by go_num,hdd (by rw [hat.o,Nat.mul_add,Nat.mul_one]),by omega,HO,HBl,own2,hw2⟩
       case measure=>simp [intOf];omega
      ·skip
       have HP:=hdd (HM.o.right wholeT (by simp));simp only [Kn,XO];obtain ⟨ad2,e2,SB0⟩:=rb.first;have SB:=SB0.ee hw2;obtain ⟨a2',f2,rb',hc2'⟩:=rb.rest hc2;rw [e2] at f2;clear HM rb hc2 SB0;go_wp2;refine rgn 17 (λw2 hb=>?_);have own3:=own2.kept (zK hb none) (by cases u4.ownBlock <;> simp);have hw3:=(upB hw2 hb);have hle:(O ++ M).length<=1000000:=HLe.o;clear own2 hw2;obtain ⟨zA,q0,q1,q2,q3,q4,q5⟩:=(SB.ee hb).f;have HB:=hdd hw3.size;go_wp2_with (at_builtin;refine yR rfl _ _ rfl W0.heap.size _ (O ++ M) rfl (own3.alloc _) w2.heap.size y rfl (Box.new rfl) hle (by have:=HB.o;simp;omega) ?_;intro w4 v4 hown4 hg4)
       clear zA q0 q1 q2 q3 q4 q5;have hw4:=(hw3.alloc HB.o (.cells (cT y).toArray 28)).grown hg4 (by have:=HB.o;simp;omega) (λk hk=>((own3.alloc (.cells (cT y).toArray 28)).lt k hk).1)
       go_roundw
       case rel=>exact ⟨M ++ [y],[],B',a1,c1,a2',c2 - 1,(by first | rfl | (rw [e1];rfl) | (rw [e2];rfl)),(by first | rfl | (rw [e1];rfl) | (rw [e2];rfl)),hc1,hc2',HP,ra,rb',by rw [<-Yp];exact hown4,hw4⟩
       case measure=>simp [lenOf]
      ·skip
       have HP:=hdd (HM.o.left wholeT (by simp));simp only [Kn,XO];obtain ⟨ad1,e1,SA0⟩:=ra.first;have SA:=SA0.ee hw2;obtain ⟨a1',f1,ra1',hc1'⟩:=ra.rest hc1;rw [e1] at f1;clear HM ra hc1 SA0;go_wp2;refine rgn 17 (λw2 hb=>?_);have own3:=own2.kept (zK hb none) (by cases u4.ownBlock <;> simp);have hw3:=(upB hw2 hb);have hle:(O ++ M).length<=1000000:=HLe.o;clear own2 hw2;obtain ⟨zA,q0,q1,q2,q3,q4,q5⟩:=(SA.ee hb).f;have HB:=hdd hw3.size;go_wp2_with (at_builtin;refine yR rfl _ _ rfl W0.heap.size _ (O ++ M) rfl (own3.alloc _) w2.heap.size x rfl (Box.new rfl) hle (by have:=HB.o;simp;omega) ?_;intro w4 v4 hown4 hg4)
       clear zA q0 q1 q2 q3 q4 q5;have hw4:=(hw3.alloc HB.o (.cells (cT x).toArray 28)).grown hg4 (by have:=HB.o;simp;omega) (λk hk=>((own3.alloc (.cells (cT x).toArray 28)).lt k hk).1)
       go_roundw
       case rel=>exact ⟨M ++ [x],A',[],a1',c1 - 1,a2,c2,(by first | rfl | (rw [e1];rfl) | (rw [e2];rfl)),(by first | rfl | (rw [e1];rfl) | (rw [e2];rfl)),hc1',hc2,HP,ra1',rb,by rw [<-Yp];exact hown4,hw4⟩
       case measure=>simp [lenOf]
      ·skip
       simp only [XO];have cc:=ub x y;by_cases hxy:cmpT x y<=0
       ·have HP:=hdd (HM.o.left wholeT (by simpa using hxy));have hd:decide (cmpT x y<=0)=true:=by simpa using hxy
        generalize cmpT x y=n at *
        clear hxy HM;obtain ⟨ad1,e1,SA0⟩:=ra.first;have SA:=SA0.ee hw2;obtain ⟨a1',f1,ra1',hc1'⟩:=ra.rest hc1;rw [e1] at f1;obtain ⟨ad2,e2,SB0⟩:=rb.first;have SB:=SB0.ee hw2;obtain ⟨t0,t1,t2,t3,t4,t5⟩:=SA.cells;obtain ⟨s0,s1,s2,s3,s4,s5⟩:=SB.cells;clear ra hc1 SA0 SB0;go_wp2;refine rgn 17 (λw2 hb=>?_);have own3:=own2.kept (zK hb none) (by cases u4.ownBlock <;> simp);have hw3:=(upB hw2 hb);have hle:(O ++ M).length<=1000000:=HLe.o;clear own2 hw2;clear t0 t1 t2 t3 t4 t5 s0 s1 s2 s3 s4 s5;obtain ⟨zA,q0,q1,q2,q3,q4,q5⟩:=(SA.ee hb).f;have HB:=hdd hw3.size;go_wp2_with (at_builtin;refine yR rfl _ _ rfl W0.heap.size _ (O ++ M) rfl (own3.alloc _) w2.heap.size x rfl (Box.new rfl) hle (by have:=HB.o;simp;omega) ?_;intro w4 v4 hown4 hg4)
        clear zA q0 q1 q2 q3 q4 q5;have hw4:=(hw3.alloc HB.o (.cells (cT x).toArray 28)).grown hg4 (by have:=HB.o;simp;omega) (λk hk=>((own3.alloc (.cells (cT x).toArray 28)).lt k hk).1)
        go_roundw
        case rel=>exact ⟨M ++ [x],A',y :: B',a1',c1 - 1,a2,c2,(by first | rfl | (rw [e1];rfl) | (rw [e2];rfl)),(by first | rfl | (rw [e1];rfl) | (rw [e2];rfl)),hc1',hc2,HP,ra1',rb,by rw [<-Yp];exact hown4,hw4⟩
        case measure=>simp [lenOf]
       ·have HP:=hdd (HM.o.right wholeT (by have:=ZZ x y;simp;omega));have hd:decide (cmpT x y<=0)=false:=by simpa using hxy
        generalize cmpT x y=n at *
        clear hxy HM;obtain ⟨ad1,e1,SA0⟩:=ra.first;have SA:=SA0.ee hw2;obtain ⟨ad2,e2,SB0⟩:=rb.first;have SB:=SB0.ee hw2;obtain ⟨a2',f2,rb',hc2'⟩:=rb.rest hc2;rw [e2] at f2;obtain ⟨t0,t1,t2,t3,t4,t5⟩:=SA.cells;obtain ⟨s0,s1,s2,s3,s4,s5⟩:=SB.cells;clear rb hc2 SA0 SB0;go_wp2;refine rgn 17 (λw2 hb=>?_);have own3:=own2.kept (zK hb none) (by cases u4.ownBlock <;> simp);have hw3:=(upB hw2 hb);have hle:(O ++ M).length<=1000000:=HLe.o;clear own2 hw2;clear t0 t1 t2 t3 t4 t5 s0 s1 s2 s3 s4 s5;obtain ⟨zA,q0,q1,q2,q3,q4,q5⟩:=(SB.ee hb).f;have HB:=hdd hw3.size;go_wp2_with (at_builtin;refine yR rfl _ _ rfl W0.heap.size _ (O ++ M) rfl (own3.alloc _) w2.heap.size y rfl (Box.new rfl) hle (by have:=HB.o;simp;omega) ?_;intro w4 v4 hown4 hg4)
        clear zA q0 q1 q2 q3 q4 q5;have hw4:=(hw3.alloc HB.o (.cells (cT y).toArray 28)).grown hg4 (by have:=HB.o;simp;omega) (λk hk=>((own3.alloc (.cells (cT y).toArray 28)).lt k hk).1)
        go_roundw
        case rel=>exact ⟨M ++ [y],x :: A',B',a1,c1,a2',c2 - 1,(by first | rfl | (rw [e1];rfl) | (rw [e2];rfl)),(by first | rfl | (rw [e1];rfl) | (rw [e2];rfl)),hc1,hc2',HP,ra,rb',by rw [<-Yp];exact hown4,hw4⟩
        case measure=>simp [lenOf]
def apx (T:Tri3) (a b:Pt):Pt:=if peqI T.A.x T.A.y a.x a.y=false/\peqI T.A.x T.A.y b.x b.y=false then T.A else if peqI T.B.x T.B.y a.x a.y=false/\peqI T.B.x T.B.y b.x b.y=false then T.B else T.C
theorem cor_0 (T:Tri3) (w:World):Calls prog 99 #[T,()] w (Rt w (.agg #[T.A.x,T.A.y])):=qV T 0 w
theorem cor_1 (T:Tri3) (w:World):Calls prog 99 #[T,.int .i64 1] w (Rt w (.agg #[T.B.x,T.B.y])):=qV T 1 w
theorem apex_0 (T:Tri3) (a b:Pt) (ha0:peqI T.A.x T.A.y a.x a.y=false) (hb0:peqI T.A.x T.A.y b.x b.y=false) (w:World):Calls prog 170 #[T,a,b] w (Rt w (.agg #[T.A.x,T.A.y])):=by
 have cc0:=cor_0 T
 go_enter func170,ntmps170
 go_wp2_with fail;refine qD4 λW1 Bt Ba Bb Br hw=>?_;refine wp_loop_rounds 4 ?_;try rw [rounds_succ]
 obtain ⟨xt,yt,zt,vt⟩:=Bt.f;obtain ⟨xa,ya,za,va⟩:=Ba.f;obtain ⟨xb,yb,zb,vb⟩:=Bb.f;obtain ⟨xr,yr,zr,vr⟩:=Br.f;go_wp2_with fail;clear xt yt zt vt xa ya za va xb yb zb vb xr yr zr vr;refine qK4 (cc0 _) Bt Ba Bb Br hw λw2 Bt Ba Bb Br hw=>?_;obtain ⟨xt,yt,zt,vt⟩:=Bt.f;obtain ⟨xa,ya,za,va⟩:=Ba.f;obtain ⟨xb,yb,zb,vb⟩:=Bb.f;obtain ⟨xr,yr,zr,vr⟩:=Br.f;go_wp2_with fail;refine bodyPost_ret (v:=.agg #[T.A.x,T.A.y]) (by simp [results,results170,go_sem,xr,zr]) rfl ⟨rfl,by have hl:=hw.size;go_grown⟩
theorem apex_10 (T:Tri3) (a b:Pt) (ha0:peqI T.A.x T.A.y a.x a.y=true) (ha1:peqI T.B.x T.B.y a.x a.y=false) (hb1:peqI T.B.x T.B.y b.x b.y=false) (w:World):Calls prog 170 #[T,a,b] w (Rt w (.agg #[T.B.x,T.B.y])):=by
 have cc0:=cor_0 T;have cc1:=cor_1 T
 go_enter func170,ntmps170
 go_wp2_with fail;refine qD4 λW1 Bt Ba Bb Br hw=>?_;refine wp_loop_rounds 4 ?_;try rw [rounds_succ]
 obtain ⟨xt,yt,zt,vt⟩:=Bt.f;obtain ⟨xa,ya,za,va⟩:=Ba.f;obtain ⟨xb,yb,zb,vb⟩:=Bb.f;obtain ⟨xr,yr,zr,vr⟩:=Br.f;go_wp2_with fail;clear xt yt zt vt xa ya za va xb yb zb vb xr yr zr vr;refine qK4 (cc0 _) Bt Ba Bb Br hw λw2 Bt Ba Bb Br hw=>?_;obtain ⟨xt,yt,zt,vt⟩:=Bt.f;obtain ⟨xa,ya,za,va⟩:=Ba.f;obtain ⟨xb,yb,zb,vb⟩:=Bb.f;obtain ⟨xr,yr,zr,vr⟩:=Br.f;go_wp2_with fail;clear xt yt zt vt xa ya za va xb yb zb vb xr yr zr vr;refine z7 λW3 hW=>?_;obtain ⟨bkp0,hbp0⟩:∃ b,w2.heap.size=b:=⟨_,rfl⟩;rw [hbp0];obtain ⟨ltp0,lap0,lbp0,lrp0,fp0,Bp0,Bt,Ba,Bb,Br,hw⟩:=qM4 hW hbp0 Bt Ba Bb Br hw;clear hW hbp0;obtain ⟨xt,yt,zt,vt⟩:=Bt.f;obtain ⟨xa,ya,za,va⟩:=Ba.f;obtain ⟨xb,yb,zb,vb⟩:=Bb.f;obtain ⟨xr,yr,zr,vr⟩:=Br.f;obtain ⟨xp0,yp0,zp0,vp0⟩:=Bp0.f;go_wp2_with fail;clear xt yt zt vt xa ya za va xb yb zb vb xr yr zr vr xp0 yp0 zp0 vp0;try rw [rounds_succ]
 obtain ⟨xt,yt,zt,vt⟩:=Bt.f;obtain ⟨xa,ya,za,va⟩:=Ba.f;obtain ⟨xb,yb,zb,vb⟩:=Bb.f;obtain ⟨xr,yr,zr,vr⟩:=Br.f;obtain ⟨xp0,yp0,zp0,vp0⟩:=Bp0.f;go_wp2_with fail;clear xt yt zt vt xa ya za va xb yb zb vb xr yr zr vr xp0 yp0 zp0 vp0;refine qK5 (cc1 _) Bt Ba Bb Br Bp0 hw λw4 Bt Ba Bb Br Bp0 hw=>?_;obtain ⟨xt,yt,zt,vt⟩:=Bt.f;obtain ⟨xa,ya,za,va⟩:=Ba.f;obtain ⟨xb,yb,zb,vb⟩:=Bb.f;obtain ⟨xr,yr,zr,vr⟩:=Br.f;obtain ⟨xp0,yp0,zp0,vp0⟩:=Bp0.f;go_wp2_with fail;refine bodyPost_ret (v:=.agg #[T.B.x,T.B.y]) (by simp [results,results170,go_sem,xr,zr]) rfl ⟨rfl,by have hl:=hw.size;go_grown⟩
theorem apex_11 (T:Tri3) (a b:Pt) (ha0:peqI T.A.x T.A.y a.x a.y=true) (ha1:peqI T.B.x T.B.y a.x a.y=true) (w:World):Calls prog 170 #[T,a,b] w (Rt w (.agg #[T.C.x,T.C.y])):=by
 have cc0:=cor_0 T;have cc1:=cor_1 T
 go_enter func170,ntmps170
 go_wp2_with fail;refine qD4 λW1 Bt Ba Bb Br hw=>?_;refine wp_loop_rounds 4 ?_;try rw [rounds_succ]
 have FZ:=J4 Bt.f Ba.f Bb.f Br.f;go_wp2_with fail;clear FZ;refine qC4 (cc0 _) Bt Ba Bb Br hw λw2 Bt Ba Bb Br hw FZ=>?_;go_wp2_with fail;clear FZ;refine z7 λW3 hW=>?_;obtain ⟨bkp0,hbp0⟩:∃ b,w2.heap.size=b:=⟨_,rfl⟩;rw [hbp0];obtain ⟨ltp0,lap0,lbp0,lrp0,fp0,Bp0,Bt,Ba,Bb,Br,hw⟩:=qM4 hW hbp0 Bt Ba Bb Br hw;clear hW hbp0;have FU:=J5 Bt.f Ba.f Bb.f Br.f Bp0.f;go_wp2_with fail;clear FU;try rw [rounds_succ]
 have FU:=J5 Bt.f Ba.f Bb.f Br.f Bp0.f;go_wp2_with fail;clear FU;refine qC5 (cc1 _) Bt Ba Bb Br Bp0 hw λw4 Bt Ba Bb Br Bp0 hw FU=>?_;go_wp2_with fail;clear FU;refine z7 λW5 hW=>?_;obtain ⟨bkp1,hbp1⟩:∃ b,w4.heap.size=b:=⟨_,rfl⟩;rw [hbp1];obtain ⟨ltp1,lap1,lbp1,lrp1,lp0p1,fp1,Bp1,Bt,Ba,Bb,Br,Bp0,hw⟩:=qM5 hW hbp1 Bt Ba Bb Br Bp0 hw;clear hW hbp1;have G8:=J6 Bt.f Ba.f Bb.f Br.f Bp0.f Bp1.f;go_wp2_with fail;clear G8;try rw [rounds_succ]
 have Ft:=Bt.f;have Fa:=Ba.f;have Fb:=Bb.f;have Fr:=Br.f;have Fp0:=Bp0.f;have Fp1:=Bp1.f;go_wp2_with fail;refine bodyPost_ret (v:=.agg #[T.C.x,T.C.y]) (by simp [results,results170,go_sem,Fr]) rfl ⟨rfl,by have hl:=hw.size;go_grown⟩
theorem apex_12 (T:Tri3) (a b:Pt) (ha0:peqI T.A.x T.A.y a.x a.y=true) (ha1:peqI T.B.x T.B.y a.x a.y=false) (hb1:peqI T.B.x T.B.y b.x b.y=true) (w:World):Calls prog 170 #[T,a,b] w (Rt w (.agg #[T.C.x,T.C.y])):=by
 have cc0:=cor_0 T;have cc1:=cor_1 T
 go_enter func170,ntmps170
 go_wp2_with fail;refine qD4 λW1 Bt Ba Bb Br hw=>?_;refine wp_loop_rounds 4 ?_;try rw [rounds_succ]
 have FZ:=J4 Bt.f Ba.f Bb.f Br.f;go_wp2_with fail;clear FZ;refine qC4 (cc0 _) Bt Ba Bb Br hw λw2 Bt Ba Bb Br hw FZ=>?_;go_wp2_with fail;clear FZ;refine z7 λW3 hW=>?_;obtain ⟨bkp0,hbp0⟩:∃ b,w2.heap.size=b:=⟨_,rfl⟩;rw [hbp0];obtain ⟨ltp0,lap0,lbp0,lrp0,fp0,Bp0,Bt,Ba,Bb,Br,hw⟩:=qM4 hW hbp0 Bt Ba Bb Br hw;clear hW hbp0;have FU:=J5 Bt.f Ba.f Bb.f Br.f Bp0.f;go_wp2_with fail;clear FU;try rw [rounds_succ]
 have FU:=J5 Bt.f Ba.f Bb.f Br.f Bp0.f;go_wp2_with fail;clear FU;refine qC5 (cc1 _) Bt Ba Bb Br Bp0 hw λw4 Bt Ba Bb Br Bp0 hw FU=>?_;go_wp2_with fail;clear FU;refine z7 λW5 hW=>?_;obtain ⟨bkp1,hbp1⟩:∃ b,w4.heap.size=b:=⟨_,rfl⟩;rw [hbp1];obtain ⟨ltp1,lap1,lbp1,lrp1,lp0p1,fp1,Bp1,Bt,Ba,Bb,Br,Bp0,hw⟩:=qM5 hW hbp1 Bt Ba Bb Br Bp0 hw;clear hW hbp1;have G8:=J6 Bt.f Ba.f Bb.f Br.f Bp0.f Bp1.f;go_wp2_with fail;clear G8;try rw [rounds_succ]
 have Ft:=Bt.f;have Fa:=Ba.f;have Fb:=Bb.f;have Fr:=Br.f;have Fp0:=Bp0.f;have Fp1:=Bp1.f;go_wp2_with fail;refine bodyPost_ret (v:=.agg #[T.C.x,T.C.y]) (by simp [results,results170,go_sem,Fr]) rfl ⟨rfl,by have hl:=hw.size;go_grown⟩
theorem apex_20 (T:Tri3) (a b:Pt) (ha0:peqI T.A.x T.A.y a.x a.y=false) (hb0:peqI T.A.x T.A.y b.x b.y=true) (ha1:peqI T.B.x T.B.y a.x a.y=false) (hb1:peqI T.B.x T.B.y b.x b.y=false) (w:World):Calls prog 170 #[T,a,b] w (Rt w (.agg #[T.B.x,T.B.y])):=by
 have cc0:=cor_0 T;have cc1:=cor_1 T
 go_enter func170,ntmps170
 go_wp2_with fail;refine qD4 λW1 Bt Ba Bb Br hw=>?_;refine wp_loop_rounds 4 ?_;try rw [rounds_succ]
 obtain ⟨xt,yt,zt,vt⟩:=Bt.f;obtain ⟨xa,ya,za,va⟩:=Ba.f;obtain ⟨xb,yb,zb,vb⟩:=Bb.f;obtain ⟨xr,yr,zr,vr⟩:=Br.f;go_wp2_with fail;clear xt yt zt vt xa ya za va xb yb zb vb xr yr zr vr;refine qK4 (cc0 _) Bt Ba Bb Br hw λw2 Bt Ba Bb Br hw=>?_;obtain ⟨xt,yt,zt,vt⟩:=Bt.f;obtain ⟨xa,ya,za,va⟩:=Ba.f;obtain ⟨xb,yb,zb,vb⟩:=Bb.f;obtain ⟨xr,yr,zr,vr⟩:=Br.f;go_wp2_with fail;clear xt yt zt vt xa ya za va xb yb zb vb xr yr zr vr;refine z7 λW3 hW=>?_;obtain ⟨bkp0,hbp0⟩:∃ b,w2.heap.size=b:=⟨_,rfl⟩;rw [hbp0];obtain ⟨ltp0,lap0,lbp0,lrp0,fp0,Bp0,Bt,Ba,Bb,Br,hw⟩:=qM4 hW hbp0 Bt Ba Bb Br hw;clear hW hbp0;obtain ⟨xt,yt,zt,vt⟩:=Bt.f;obtain ⟨xa,ya,za,va⟩:=Ba.f;obtain ⟨xb,yb,zb,vb⟩:=Bb.f;obtain ⟨xr,yr,zr,vr⟩:=Br.f;obtain ⟨xp0,yp0,zp0,vp0⟩:=Bp0.f;go_wp2_with fail;clear xt yt zt vt xa ya za va xb yb zb vb xr yr zr vr xp0 yp0 zp0 vp0;try rw [rounds_succ]
 obtain ⟨xt,yt,zt,vt⟩:=Bt.f;obtain ⟨xa,ya,za,va⟩:=Ba.f;obtain ⟨xb,yb,zb,vb⟩:=Bb.f;obtain ⟨xr,yr,zr,vr⟩:=Br.f;obtain ⟨xp0,yp0,zp0,vp0⟩:=Bp0.f;go_wp2_with fail;clear xt yt zt vt xa ya za va xb yb zb vb xr yr zr vr xp0 yp0 zp0 vp0;refine qK5 (cc1 _) Bt Ba Bb Br Bp0 hw λw4 Bt Ba Bb Br Bp0 hw=>?_;obtain ⟨xt,yt,zt,vt⟩:=Bt.f;obtain ⟨xa,ya,za,va⟩:=Ba.f;obtain ⟨xb,yb,zb,vb⟩:=Bb.f;obtain ⟨xr,yr,zr,vr⟩:=Br.f;obtain ⟨xp0,yp0,zp0,vp0⟩:=Bp0.f;go_wp2_with fail;refine bodyPost_ret (v:=.agg #[T.B.x,T.B.y]) (by simp [results,results170,go_sem,xr,zr]) rfl ⟨rfl,by have hl:=hw.size;go_grown⟩
theorem apex_21 (T:Tri3) (a b:Pt) (ha0:peqI T.A.x T.A.y a.x a.y=false) (hb0:peqI T.A.x T.A.y b.x b.y=true) (ha1:peqI T.B.x T.B.y a.x a.y=true) (w:World):Calls prog 170 #[T,a,b] w (Rt w (.agg #[T.C.x,T.C.y])):=by
 have cc0:=cor_0 T;have cc1:=cor_1 T
 go_enter func170,ntmps170
 go_wp2_with fail;refine qD4 λW1 Bt Ba Bb Br hw=>?_;refine wp_loop_rounds 4 ?_;try rw [rounds_succ]
 have FZ:=J4 Bt.f Ba.f Bb.f Br.f;go_wp2_with fail;clear FZ;refine qC4 (cc0 _) Bt Ba Bb Br hw λw2 Bt Ba Bb Br hw FZ=>?_;go_wp2_with fail;clear FZ;refine z7 λW3 hW=>?_;obtain ⟨bkp0,hbp0⟩:∃ b,w2.heap.size=b:=⟨_,rfl⟩;rw [hbp0];obtain ⟨ltp0,lap0,lbp0,lrp0,fp0,Bp0,Bt,Ba,Bb,Br,hw⟩:=qM4 hW hbp0 Bt Ba Bb Br hw;clear hW hbp0;have FU:=J5 Bt.f Ba.f Bb.f Br.f Bp0.f;go_wp2_with fail;clear FU;try rw [rounds_succ]
 have FU:=J5 Bt.f Ba.f Bb.f Br.f Bp0.f;go_wp2_with fail;clear FU;refine qC5 (cc1 _) Bt Ba Bb Br Bp0 hw λw4 Bt Ba Bb Br Bp0 hw FU=>?_;go_wp2_with fail;clear FU;refine z7 λW5 hW=>?_;obtain ⟨bkp1,hbp1⟩:∃ b,w4.heap.size=b:=⟨_,rfl⟩;rw [hbp1];obtain ⟨ltp1,lap1,lbp1,lrp1,lp0p1,fp1,Bp1,Bt,Ba,Bb,Br,Bp0,hw⟩:=qM5 hW hbp1 Bt Ba Bb Br Bp0 hw;clear hW hbp1;have G8:=J6 Bt.f Ba.f Bb.f Br.f Bp0.f Bp1.f;go_wp2_with fail;clear G8;try rw [rounds_succ]
 have Ft:=Bt.f;have Fa:=Ba.f;have Fb:=Bb.f;have Fr:=Br.f;have Fp0:=Bp0.f;have Fp1:=Bp1.f;go_wp2_with fail;refine bodyPost_ret (v:=.agg #[T.C.x,T.C.y]) (by simp [results,results170,go_sem,Fr]) rfl ⟨rfl,by have hl:=hw.size;go_grown⟩
theorem apex_22 (T:Tri3) (a b:Pt) (ha0:peqI T.A.x T.A.y a.x a.y=false) (hb0:peqI T.A.x T.A.y b.x b.y=true) (ha1:peqI T.B.x T.B.y a.x a.y=false) (hb1:peqI T.B.x T.B.y b.x b.y=true) (w:World):Calls prog 170 #[T,a,b] w (Rt w (.agg #[T.C.x,T.C.y])):=by
 have cc0:=cor_0 T;have cc1:=cor_1 T
 go_enter func170,ntmps170
 go_wp2_with fail;refine qD4 λW1 Bt Ba Bb Br hw=>?_;refine wp_loop_rounds 4 ?_;try rw [rounds_succ]
 have FZ:=J4 Bt.f Ba.f Bb.f Br.f;go_wp2_with fail;clear FZ;refine qC4 (cc0 _) Bt Ba Bb Br hw λw2 Bt Ba Bb Br hw FZ=>?_;go_wp2_with fail;clear FZ;refine z7 λW3 hW=>?_;obtain ⟨bkp0,hbp0⟩:∃ b,w2.heap.size=b:=⟨_,rfl⟩;rw [hbp0];obtain ⟨ltp0,lap0,lbp0,lrp0,fp0,Bp0,Bt,Ba,Bb,Br,hw⟩:=qM4 hW hbp0 Bt Ba Bb Br hw;clear hW hbp0;have FU:=J5 Bt.f Ba.f Bb.f Br.f Bp0.f;go_wp2_with fail;clear FU;try rw [rounds_succ]
 have FU:=J5 Bt.f Ba.f Bb.f Br.f Bp0.f;go_wp2_with fail;clear FU;refine qC5 (cc1 _) Bt Ba Bb Br Bp0 hw λw4 Bt Ba Bb Br Bp0 hw FU=>?_;go_wp2_with fail;clear FU;refine z7 λW5 hW=>?_;obtain ⟨bkp1,hbp1⟩:∃ b,w4.heap.size=b:=⟨_,rfl⟩;rw [hbp1];obtain ⟨ltp1,lap1,lbp1,lrp1,lp0p1,fp1,Bp1,Bt,Ba,Bb,Br,Bp0,hw⟩:=qM5 hW hbp1 Bt Ba Bb Br Bp0 hw;clear hW hbp1;have G8:=J6 Bt.f Ba.f Bb.f Br.f Bp0.f Bp1.f;go_wp2_with fail;clear G8;try rw [rounds_succ]
 have Ft:=Bt.f;have Fa:=Ba.f;have Fb:=Bb.f;have Fr:=Br.f;have Fp0:=Bp0.f;have Fp1:=Bp1.f;go_wp2_with fail;refine bodyPost_ret (v:=.agg #[T.C.x,T.C.y]) (by simp [results,results170,go_sem,Fr]) rfl ⟨rfl,by have hl:=hw.size;go_grown⟩
theorem vu (T:Tri3) (w:World):Calls prog 52 #[T,()] w (Rt w (.agg #[T.A.x,T.A.y])):=km T 0 w
theorem tX (T:Tri3) (w:World):Calls prog 52 #[T,.int .i64 1] w (Rt w (.agg #[T.B.x,T.B.y])):=km T 1 w
theorem far_0 (T:Tri3) (a b:Pt) (ha0:peqI T.A.x T.A.y a.x a.y=false) (hb0:peqI T.A.x T.A.y b.x b.y=false) (w:World):Calls prog 139 #[T,a,b] w (Rt w (.agg #[T.A.x,T.A.y])):=by
 have cc0:=vu T
 go_enter func139,ntmps139
 go_wp2_with fail;refine qD4 λW1 Bt Ba Bb Br hw=>?_;refine wp_loop_rounds 4 ?_;try rw [rounds_succ]
 have Ft:=Bt.f;have Fa:=Ba.f;have Fb:=Bb.f;have Fr:=Br.f;go_wp2_with fail;have FV:=J4 Bt.cells Ba.cells Bb.cells Br.cells;refine rgn 11 (λw2 hb=>?_);clear FV;clear Ft Fa Fb Fr;obtain ⟨Bt,Ba,Bb,Br,hw,-⟩:=qX4 Bt Ba Bb Br hw hb;have FZ:=J4 Bt.f Ba.f Bb.f Br.f;go_wp2_with fail;clear FZ;refine qK4 (cc0 _) Bt Ba Bb Br hw λw3 Bt Ba Bb Br hw=>?_;have Ft:=Bt.f;have Fa:=Ba.f;have Fb:=Bb.f;have Fr:=Br.f;go_wp2_with fail;refine bodyPost_ret (v:=.agg #[T.A.x,T.A.y]) (by simp [results,results139,go_sem,Fr]) rfl ⟨rfl,by have hl:=hw.size;go_grown⟩
theorem far_10 (T:Tri3) (a b:Pt) (ha0:peqI T.A.x T.A.y a.x a.y=true) (ha1:peqI T.B.x T.B.y a.x a.y=false) (hb1:peqI T.B.x T.B.y b.x b.y=false) (w:World):Calls prog 139 #[T,a,b] w (Rt w (.agg #[T.B.x,T.B.y])):=by
 have cc0:=vu T;have cc1:=tX T
 go_enter func139,ntmps139
 go_wp2_with fail;refine qD4 λW1 Bt Ba Bb Br hw=>?_;refine wp_loop_rounds 4 ?_;try rw [rounds_succ]
 have Ft:=Bt.f;have Fa:=Ba.f;have Fb:=Bb.f;have Fr:=Br.f;go_wp2_with fail;have FV:=J4 Bt.cells Ba.cells Bb.cells Br.cells;refine rgn 11 (λw2 hb=>?_);clear FV;clear Ft Fa Fb Fr;obtain ⟨Bt,Ba,Bb,Br,hw,FZ⟩:=qX4 Bt Ba Bb Br hw hb;go_wp2_with fail;clear FZ;try rw [rounds_succ]
 have Ft:=Bt.f;have Fa:=Ba.f;have Fb:=Bb.f;have Fr:=Br.f;go_wp2_with fail;have FV:=J4 Bt.cells Ba.cells Bb.cells Br.cells;refine rgn 11 (λw3 hb=>?_);clear FV;clear Ft Fa Fb Fr;obtain ⟨Bt,Ba,Bb,Br,hw,-⟩:=qX4 Bt Ba Bb Br hw hb;have FZ:=J4 Bt.f Ba.f Bb.f Br.f;go_wp2_with fail;clear FZ;refine qK4 (cc1 _) Bt Ba Bb Br hw λw4 Bt Ba Bb Br hw=>?_;have Ft:=Bt.f;have Fa:=Ba.f;have Fb:=Bb.f;have Fr:=Br.f;go_wp2_with fail;refine bodyPost_ret (v:=.agg #[T.B.x,T.B.y]) (by simp [results,results139,go_sem,Fr]) rfl ⟨rfl,by have hl:=hw.size;go_grown⟩
theorem far_11 (T:Tri3) (a b:Pt) (ha0:peqI T.A.x T.A.y a.x a.y=true) (ha1:peqI T.B.x T.B.y a.x a.y=true) (w:World):Calls prog 139 #[T,a,b] w (Rt w (.agg #[T.C.x,T.C.y])):=by
 have cc0:=vu T;have cc1:=tX T
 go_enter func139,ntmps139
 go_wp2_with fail;refine qD4 λW1 Bt Ba Bb Br hw=>?_;refine wp_loop_rounds 4 ?_;try rw [rounds_succ]
 have Ft:=Bt.f;have Fa:=Ba.f;have Fb:=Bb.f;have Fr:=Br.f;go_wp2_with fail;have FV:=J4 Bt.cells Ba.cells Bb.cells Br.cells;refine rgn 11 (λw2 hb=>?_);clear FV;clear Ft Fa Fb Fr;obtain ⟨Bt,Ba,Bb,Br,hw,FZ⟩:=qX4 Bt Ba Bb Br hw hb;go_wp2_with fail;clear FZ;try rw [rounds_succ]
 have Ft:=Bt.f;have Fa:=Ba.f;have Fb:=Bb.f;have Fr:=Br.f;go_wp2_with fail;have FV:=J4 Bt.cells Ba.cells Bb.cells Br.cells;refine rgn 11 (λw3 hb=>?_);clear FV;clear Ft Fa Fb Fr;obtain ⟨Bt,Ba,Bb,Br,hw,FZ⟩:=qX4 Bt Ba Bb Br hw hb;go_wp2_with fail;clear FZ;try rw [rounds_succ]
 have Ft:=Bt.f;have Fa:=Ba.f;have Fb:=Bb.f;have Fr:=Br.f;go_wp2_with fail;refine bodyPost_ret (v:=.agg #[T.C.x,T.C.y]) (by simp [results,results139,go_sem,Fr]) rfl ⟨rfl,by have hl:=hw.size;go_grown⟩
theorem far_12 (T:Tri3) (a b:Pt) (ha0:peqI T.A.x T.A.y a.x a.y=true) (ha1:peqI T.B.x T.B.y a.x a.y=false) (hb1:peqI T.B.x T.B.y b.x b.y=true) (w:World):Calls prog 139 #[T,a,b] w (Rt w (.agg #[T.C.x,T.C.y])):=by
 have cc0:=vu T;have cc1:=tX T
 go_enter func139,ntmps139
 go_wp2_with fail;refine qD4 λW1 Bt Ba Bb Br hw=>?_;refine wp_loop_rounds 4 ?_;try rw [rounds_succ]
 have Ft:=Bt.f;have Fa:=Ba.f;have Fb:=Bb.f;have Fr:=Br.f;go_wp2_with fail;have FV:=J4 Bt.cells Ba.cells Bb.cells Br.cells;refine rgn 11 (λw2 hb=>?_);clear FV;clear Ft Fa Fb Fr;obtain ⟨Bt,Ba,Bb,Br,hw,FZ⟩:=qX4 Bt Ba Bb Br hw hb;go_wp2_with fail;clear FZ;try rw [rounds_succ]
 have Ft:=Bt.f;have Fa:=Ba.f;have Fb:=Bb.f;have Fr:=Br.f;go_wp2_with fail;have FV:=J4 Bt.cells Ba.cells Bb.cells Br.cells;refine rgn 11 (λw3 hb=>?_);clear FV;clear Ft Fa Fb Fr;obtain ⟨Bt,Ba,Bb,Br,hw,FZ⟩:=qX4 Bt Ba Bb Br hw hb;go_wp2_with fail;clear FZ;try rw [rounds_succ]
 have Ft:=Bt.f;have Fa:=Ba.f;have Fb:=Bb.f;have Fr:=Br.f;go_wp2_with fail;refine bodyPost_ret (v:=.agg #[T.C.x,T.C.y]) (by simp [results,results139,go_sem,Fr]) rfl ⟨rfl,by have hl:=hw.size;go_grown⟩
theorem far_20 (T:Tri3) (a b:Pt) (ha0:peqI T.A.x T.A.y a.x a.y=false) (hb0:peqI T.A.x T.A.y b.x b.y=true) (ha1:peqI T.B.x T.B.y a.x a.y=false) (hb1:peqI T.B.x T.B.y b.x b.y=false) (w:World):Calls prog 139 #[T,a,b] w (Rt w (.agg #[T.B.x,T.B.y])):=by
 have cc0:=vu T;have cc1:=tX T
 go_enter func139,ntmps139
 go_wp2_with fail;refine qD4 λW1 Bt Ba Bb Br hw=>?_;refine wp_loop_rounds 4 ?_;try rw [rounds_succ]
 have Ft:=Bt.f;have Fa:=Ba.f;have Fb:=Bb.f;have Fr:=Br.f;go_wp2_with fail;have FV:=J4 Bt.cells Ba.cells Bb.cells Br.cells;refine rgn 11 (λw2 hb=>?_);clear FV;clear Ft Fa Fb Fr;obtain ⟨Bt,Ba,Bb,Br,hw,FZ⟩:=qX4 Bt Ba Bb Br hw hb;go_wp2_with fail;clear FZ;try rw [rounds_succ]
 have Ft:=Bt.f;have Fa:=Ba.f;have Fb:=Bb.f;have Fr:=Br.f;go_wp2_with fail;have FV:=J4 Bt.cells Ba.cells Bb.cells Br.cells;refine rgn 11 (λw3 hb=>?_);clear FV;clear Ft Fa Fb Fr;obtain ⟨Bt,Ba,Bb,Br,hw,-⟩:=qX4 Bt Ba Bb Br hw hb;have FZ:=J4 Bt.f Ba.f Bb.f Br.f;go_wp2_with fail;clear FZ;refine qK4 (cc1 _) Bt Ba Bb Br hw λw4 Bt Ba Bb Br hw=>?_;have Ft:=Bt.f;have Fa:=Ba.f;have Fb:=Bb.f;have Fr:=Br.f;go_wp2_with fail;refine bodyPost_ret (v:=.agg #[T.B.x,T.B.y]) (by simp [results,results139,go_sem,Fr]) rfl ⟨rfl,by have hl:=hw.size;go_grown⟩
theorem far_21 (T:Tri3) (a b:Pt) (ha0:peqI T.A.x T.A.y a.x a.y=false) (hb0:peqI T.A.x T.A.y b.x b.y=true) (ha1:peqI T.B.x T.B.y a.x a.y=true) (w:World):Calls prog 139 #[T,a,b] w (Rt w (.agg #[T.C.x,T.C.y])):=by
 have cc0:=vu T;have cc1:=tX T
 go_enter func139,ntmps139
 go_wp2_with fail;refine qD4 λW1 Bt Ba Bb Br hw=>?_;refine wp_loop_rounds 4 ?_;try rw [rounds_succ]
 have Ft:=Bt.f;have Fa:=Ba.f;have Fb:=Bb.f;have Fr:=Br.f;go_wp2_with fail;have FV:=J4 Bt.cells Ba.cells Bb.cells Br.cells;refine rgn 11 (λw2 hb=>?_);clear FV;clear Ft Fa Fb Fr;obtain ⟨Bt,Ba,Bb,Br,hw,FZ⟩:=qX4 Bt Ba Bb Br hw hb;go_wp2_with fail;clear FZ;try rw [rounds_succ]
 have Ft:=Bt.f;have Fa:=Ba.f;have Fb:=Bb.f;have Fr:=Br.f;go_wp2_with fail;have FV:=J4 Bt.cells Ba.cells Bb.cells Br.cells;refine rgn 11 (λw3 hb=>?_);clear FV;clear Ft Fa Fb Fr;obtain ⟨Bt,Ba,Bb,Br,hw,FZ⟩:=qX4 Bt Ba Bb Br hw hb;go_wp2_with fail;clear FZ;try rw [rounds_succ]
 have Ft:=Bt.f;have Fa:=Ba.f;have Fb:=Bb.f;have Fr:=Br.f;go_wp2_with fail;refine bodyPost_ret (v:=.agg #[T.C.x,T.C.y]) (by simp [results,results139,go_sem,Fr]) rfl ⟨rfl,by have hl:=hw.size;go_grown⟩
theorem far_22 (T:Tri3) (a b:Pt) (ha0:peqI T.A.x T.A.y a.x a.y=false) (hb0:peqI T.A.x T.A.y b.x b.y=true) (ha1:peqI T.B.x T.B.y a.x a.y=false) (hb1:peqI T.B.x T.B.y b.x b.y=true) (w:World):Calls prog 139 #[T,a,b] w (Rt w (.agg #[T.C.x,T.C.y])):=by
 have cc0:=vu T;have cc1:=tX T
 go_enter func139,ntmps139
 go_wp2_with fail;refine qD4 λW1 Bt Ba Bb Br hw=>?_;refine wp_loop_rounds 4 ?_;try rw [rounds_succ]
 have Ft:=Bt.f;have Fa:=Ba.f;have Fb:=Bb.f;have Fr:=Br.f;go_wp2_with fail;have FV:=J4 Bt.cells Ba.cells Bb.cells Br.cells;refine rgn 11 (λw2 hb=>?_);clear FV;clear Ft Fa Fb Fr;obtain ⟨Bt,Ba,Bb,Br,hw,FZ⟩:=qX4 Bt Ba Bb Br hw hb;go_wp2_with fail;clear FZ;try rw [rounds_succ]
 have Ft:=Bt.f;have Fa:=Ba.f;have Fb:=Bb.f;have Fr:=Br.f;go_wp2_with fail;have FV:=J4 Bt.cells Ba.cells Bb.cells Br.cells;refine rgn 11 (λw3 hb=>?_);clear FV;clear Ft Fa Fb Fr;obtain ⟨Bt,Ba,Bb,Br,hw,FZ⟩:=qX4 Bt Ba Bb Br hw hb;go_wp2_with fail;clear FZ;try rw [rounds_succ]
 have Ft:=Bt.f;have Fa:=Ba.f;have Fb:=Bb.f;have Fr:=Br.f;go_wp2_with fail;refine bodyPost_ret (v:=.agg #[T.C.x,T.C.y]) (by simp [results,results139,go_sem,Fr]) rfl ⟨rfl,by have hl:=hw.size;go_grown⟩
theorem j0 (T:Tri3) (a b:Pt) (w:World):Calls prog 139 #[T,a,b] w (Rt w (.agg #[.int .i64 (apx T a b).x,.int .i64 (apx T a b).y])):=by
 unfold apx;cases a0:peqI T.A.x T.A.y a.x a.y with
 | false=>
  cases b0:peqI T.A.x T.A.y b.x b.y with
  | false=>simpa using far_0 T a b a0 b0 w
  | true=>
   cases a1:peqI T.B.x T.B.y a.x a.y with
   | false=>
    cases b1:peqI T.B.x T.B.y b.x b.y with
    | false=>simpa using far_20 T a b a0 b0 a1 b1 w
    | true=>simpa using far_22 T a b a0 b0 a1 b1 w
   | true=>simpa using far_21 T a b a0 b0 a1 w
 | true=>
  cases a1:peqI T.B.x T.B.y a.x a.y with
  | false=>
   cases b1:peqI T.B.x T.B.y b.x b.y with
   | false=>simpa using far_10 T a b a0 a1 b1 w
   | true=>simpa using far_12 T a b a0 a1 b1 w
  | true=>simpa using far_11 T a b a0 a1 w
end
section
open Go.RowKit
attribute [local go_sem 10000] pt_eql pt_neq
structure Wl where
 A:Pt
 B:Pt
 K:Int
theorem Wl.eq_iff {p q:Wl}:p=q↔p.A=q.A/\p.B=q.B/\p.K=q.K:=by
 cases p;cases q;simp
instance:DecidableEq Pt:=λp q=>decidable_of_iff (p.x=q.x/\p.y=q.y) Pt.eq_iff.symm
instance:DecidableEq Wl:=λp q=>decidable_of_iff (p.A=q.A/\p.B=q.B/\p.K=q.K) Wl.eq_iff.symm
instance:Inhabited Wl:=⟨⟨⟨0,0⟩,⟨0,0⟩,0⟩⟩
def cW (t:Wl):List Value:=[t.A.x,t.A.y,t.B.x,t.B.y,t.K]
theorem y6 (x:Wl):(cW x).length=5:=rfl
theorem ka (x:Wl):∀ v∈cW x,v.oneCell'=true:=by intro v hv;simp [cW] at hv;rcases hv with rfl | rfl | rfl | rfl | rfl <;> rfl
def weqI (a b c d k e f g h l:Int):Bool:=decide (a=e) && (decide (b=f) && (decide (c=g) && (decide (d=h) && decide (k=l))))
theorem wal_eql (a b c d k e f g h l:Int) (w:World):(binOp .eql 57 (.agg #[a,b,c,d,k]) (.agg #[e,f,g,h,l])).run prog w=.ok (.bool (weqI a b c d k e f g h l)) w:=by
 unfold weqI;by_cases h1:a=e
 case neg=>simp [go_sem,h1]
 case pos=>
 by_cases h2:b=f
 case neg=>simp [go_sem,h1,h2]
 case pos=>
 by_cases h3:c=g
 case neg=>simp [go_sem,h1,h2,h3]
 case pos=>
 by_cases h4:d=h
 case neg=>simp [go_sem,h1,h2,h3,h4]
 case pos=>by_cases h5:k=l <;> simp [go_sem,h1,h2,h3,h4,h5]
theorem wal_neq (a b c d k e f g h l:Int) (w:World):(binOp .neq 57 (.agg #[a,b,c,d,k]) (.agg #[e,f,g,h,l])).run prog w=.ok (.bool (!weqI a b c d k e f g h l)) w:=by
 unfold weqI;by_cases h1:a=e
 case neg=>simp [go_sem,h1]
 case pos=>
 by_cases h2:b=f
 case neg=>simp [go_sem,h1,h2]
 case pos=>
 by_cases h3:c=g
 case neg=>simp [go_sem,h1,h2,h3]
 case pos=>
 by_cases h4:d=h
 case neg=>simp [go_sem,h1,h2,h3,h4]
 case pos=>by_cases h5:k=l <;> simp [go_sem,h1,h2,h3,h4,h5]
theorem weqI_iff {v w:Wl}:weqI v.A.x v.A.y v.B.x v.B.y v.K w.A.x w.A.y w.B.x w.B.y w.K=true↔v=w:=by
 simp [weqI,Wl.eq_iff,Pt.eq_iff,and_assoc]
theorem weqI_dec (v w:Wl):weqI v.A.x v.A.y v.B.x v.B.y v.K w.A.x w.A.y w.B.x w.B.y w.K=decide (v=w):=by
 rw [Xv,weqI_iff];simp
theorem ze (p q:Pt):peqI p.x p.y q.x q.y=decide (p=q):=by rw [Xv,yZ,<-Pt.eq_iff];simp
theorem RowAt.wal {w:World} {a:Option Addr} {L:List Wl} (h:RowAt cW 5 w a L) {j:Nat} (hj:j < L.length):∃ ad A,a=some ad/\ad.add (j * 5)=A/\(A.block=w.heap.size)=False/\A.block < w.heap.size/\(w.cell? A=some (.int .i64 L[j].A.x)/\w.cell? ⟨A.block,A.off+1,none⟩=some (.int .i64 L[j].A.y)/\w.cell? ⟨A.block,A.off+2,none⟩=some (.int .i64 L[j].B.x)/\w.cell? ⟨A.block,A.off+3,none⟩=some (.int .i64 L[j].B.y)/\w.cell? ⟨A.block,A.off+4,none⟩=some (.int .i64 L[j].K)):=by
 obtain ⟨ad,h1,h2,h3⟩:=h j L[j] (Yo hj);have hb:(ad.add (j * 5)).block=ad.block:=zy _ _;refine ⟨ad,_,h1,rfl,by rw [hb];simp;omega,by rw [hb];exact h2,?_⟩;have e0:=h3 0 _ rfl;have e1:=h3 1 _ rfl;have e2:=h3 2 _ rfl;have e3:=h3 3 _ rfl;have e4:=h3 4 _ rfl;simp only [Addr.add_zero',Addr.add_succ'] at e0 e1 e2 e3 e4;exact ⟨e0,e1,e2,e3,e4⟩
def mkK (k:Int):Bool:=decide (k=1) || decide (k=2)
def mkOk (a b:Pt) (k:Int):Bool:=mkK k && (!decide (a=b) && (vld a && vld b))
def mkW (a b:Pt) (k:Int):Wl:=if mkOk a b k then ⟨lo2 a b,hi2 a b,k⟩ else ⟨⟨0,0⟩,⟨0,0⟩,0⟩
def unm (w:Wl):Bool := !mkOk w.A w.B w.K || !decide (mkW w.A w.B w.K=w)
open Go.Sort
attribute [local go_sem] rOper rAt rUpon cell_set sg_i64 sg_u64 alloc_cell alloc_frozen
attribute [local go_sem 10000] wal_eql wal_neq
attribute [local irreducible] rWalk
section
theorem lsf_0 (a b:Pt) (h:decide (cmpP b a < 0)=false) (w:World):Calls prog 109 #[a,b] w (Rt w (.tuple #[a,b])):=by
 have c1:=zY b a;generalize cmpP b a=n at *
 go_enter func109,ntmps109
 go_wp2_with fail;refine qE4 λW1 Ba Bb Br Bs hw=>?_;refine qK4 (c1 _) Ba Bb Br Bs hw λw2 Ba Bb Br Bs hw=>?_;have Fa:=Ba.f;have Fb:=Bb.f;have Fr:=Br.f;have Fs:=Bs.f;go_wp2_with fail
 go_region
 go_wp2_with fail;refine bodyPost_ret (v:=.tuple #[a,b]) (by simp [results,results109,go_sem,Fr,Fs]) rfl ⟨rfl,by have hl:=hw.size;go_grown⟩
theorem lsf_1 (a b:Pt) (h:decide (cmpP b a < 0)=true) (w:World):Calls prog 109 #[a,b] w (Rt w (.tuple #[b,a])):=by
 have c1:=zY b a;generalize cmpP b a=n at *
 go_enter func109,ntmps109
 go_wp2_with fail;refine qE4 λW1 Ba Bb Br Bs hw=>?_;refine qK4 (c1 _) Ba Bb Br Bs hw λw2 Ba Bb Br Bs hw=>?_;have Fa:=Ba.f;have Fb:=Bb.f;have Fr:=Br.f;have Fs:=Bs.f;go_wp2_with fail
 go_region
 go_wp2_with fail;refine bodyPost_ret (v:=.tuple #[b,a]) (by simp [results,results109,go_sem,Fr,Fs]) rfl ⟨rfl,by have hl:=hw.size;go_grown⟩
theorem Z8 (a b:Pt) (w:World):Calls prog 109 #[a,b] w (Rt w (.tuple #[.agg #[.int .i64 (lo2 a b).x,.int .i64 (lo2 a b).y],.agg #[.int .i64 (hi2 a b).x,.int .i64 (hi2 a b).y]])):=by
 cases h:decide (cmpP b a < 0) with
 | true=>rw [show lo2 a b=b by unfold lo2;rw [Yn (by simpa using h)],show hi2 a b=a by unfold hi2;rw [Yn (by simpa using h)]];exact lsf_1 a b h w
 | false=>rw [show lo2 a b=a by unfold lo2;rw [Ye (by simpa using h)],show hi2 a b=b by unfold hi2;rw [Ye (by simpa using h)]];exact lsf_0 a b h w
theorem make_u (a b:Pt) (k:Int) (e1:(k == 1)=false) (e2:(k == 2)=false) (w:World):Calls prog 120 #[a,b,k] w (Rt w (.tuple #[.agg #[(),(),(),(),()],.bool false])):=by
 go_enter func120,ntmps120
 go_wp2_with fail;refine bodyPost_ret (v:=.tuple #[.agg #[(),(),(),(),()],.bool false]) (by simp [results,results120,go_sem]) rfl ⟨rfl,by go_grown⟩
theorem make_e1 (a b:Pt) (k:Int) (e1:(k == 1)=true) (e:peqI a.x a.y b.x b.y=true) (w:World):Calls prog 120 #[a,b,k] w (Rt w (.tuple #[.agg #[(),(),(),(),()],.bool false])):=by
 go_enter func120,ntmps120
 go_wp2_with fail;refine bodyPost_ret (v:=.tuple #[.agg #[(),(),(),(),()],.bool false]) (by simp [results,results120,go_sem]) rfl ⟨rfl,by go_grown⟩
theorem make_a1 (a b:Pt) (k:Int) (e1:(k == 1)=true) (e:peqI a.x a.y b.x b.y=false) (ha:vld a=false) (w:World):Calls prog 120 #[a,b,k] w (Rt w (.tuple #[.agg #[(),(),(),(),()],.bool false])):=by
 have c1:=z6 a;rw [ha] at c1;clear ha
 go_enter func120,ntmps120
 go_wp2_with fail;refine qE3 λW1 Ba Bb Br hw=>?_;refine qK3 (c1 _) Ba Bb Br hw λw2 Ba Bb Br hw=>?_;have Fa:=Ba.f;have Fb:=Bb.f;have Fr:=Br.f;go_wp2_with fail;refine bodyPost_ret (v:=.tuple #[.agg #[(),(),(),(),()],.bool false]) (by simp [results,results120,go_sem,Fr]) rfl ⟨rfl,by have hl:=hw.size;go_grown⟩
theorem make_b1 (a b:Pt) (k:Int) (e1:(k == 1)=true) (e:peqI a.x a.y b.x b.y=false) (ha:vld a=true) (hb:vld b=false) (w:World):Calls prog 120 #[a,b,k] w (Rt w (.tuple #[.agg #[(),(),(),(),()],.bool false])):=by
 have c1:=z6 a;rw [ha] at c1;have c2:=z6 b;rw [hb] at c2;clear ha hb
 go_enter func120,ntmps120
 go_wp2_with fail;refine qE3 λW1 Ba Bb Br hw=>?_;refine qC3 (c1 _) Ba Bb Br hw λw2 Ba Bb Br hw FW=>?_;go_wp2_with fail;clear FW;refine qK3 (c2 _) Ba Bb Br hw λw3 Ba Bb Br hw=>?_;have Fa:=Ba.f;have Fb:=Bb.f;have Fr:=Br.f;go_wp2_with fail;refine bodyPost_ret (v:=.tuple #[.agg #[(),(),(),(),()],.bool false]) (by simp [results,results120,go_sem,Fr]) rfl ⟨rfl,by have hl:=hw.size;go_grown⟩
theorem make_o1 (a b:Pt) (k:Int) (e1:(k == 1)=true) (e:peqI a.x a.y b.x b.y=false) (ha:vld a=true) (hb:vld b=true) (w:World):Calls prog 120 #[a,b,k] w (Rt w (.tuple #[.agg #[.int .i64 (lo2 a b).x,.int .i64 (lo2 a b).y,.int .i64 (hi2 a b).x,.int .i64 (hi2 a b).y,k],.bool true])):=by
 have c1:=z6 a;rw [ha] at c1;have c2:=z6 b;rw [hb] at c2;have c3:=Z8 a b;clear ha hb;generalize lo2 a b=p at *
 generalize hi2 a b=q at *
 go_enter func120,ntmps120
 go_wp2_with fail;refine qE3 λW1 Ba Bb Br hw=>?_;refine qC3 (c1 _) Ba Bb Br hw λw2 Ba Bb Br hw FW=>?_;go_wp2_with fail;clear FW;refine qC3 (c2 _) Ba Bb Br hw λw3 Ba Bb Br hw FW=>?_;go_wp2_with fail;clear FW;refine qK3 (c3 _) Ba Bb Br hw λw4 Ba Bb Br hw=>?_;have Fa:=Ba.f;have Fb:=Bb.f;have Fr:=Br.f;go_wp2_with fail;refine bodyPost_ret (v:=.tuple #[.agg #[p.x,p.y,q.x,q.y,k],.bool true]) (by simp [results,results120,go_sem,Fr]) rfl ⟨rfl,by have hl:=hw.size;go_grown⟩
theorem make_e2 (a b:Pt) (k:Int) (e1:(k == 1)=false) (e2:(k == 2)=true) (e:peqI a.x a.y b.x b.y=true) (w:World):Calls prog 120 #[a,b,k] w (Rt w (.tuple #[.agg #[(),(),(),(),()],.bool false])):=by
 go_enter func120,ntmps120
 go_wp2_with fail;refine bodyPost_ret (v:=.tuple #[.agg #[(),(),(),(),()],.bool false]) (by simp [results,results120,go_sem]) rfl ⟨rfl,by go_grown⟩
theorem make_a2 (a b:Pt) (k:Int) (e1:(k == 1)=false) (e2:(k == 2)=true) (e:peqI a.x a.y b.x b.y=false) (ha:vld a=false) (w:World):Calls prog 120 #[a,b,k] w (Rt w (.tuple #[.agg #[(),(),(),(),()],.bool false])):=by
 have c1:=z6 a;rw [ha] at c1;clear ha
 go_enter func120,ntmps120
 go_wp2_with fail;refine qE3 λW1 Ba Bb Br hw=>?_;refine qK3 (c1 _) Ba Bb Br hw λw2 Ba Bb Br hw=>?_;have Fa:=Ba.f;have Fb:=Bb.f;have Fr:=Br.f;go_wp2_with fail;refine bodyPost_ret (v:=.tuple #[.agg #[(),(),(),(),()],.bool false]) (by simp [results,results120,go_sem,Fr]) rfl ⟨rfl,by have hl:=hw.size;go_grown⟩
theorem make_b2 (a b:Pt) (k:Int) (e1:(k == 1)=false) (e2:(k == 2)=true) (e:peqI a.x a.y b.x b.y=false) (ha:vld a=true) (hb:vld b=false) (w:World):Calls prog 120 #[a,b,k] w (Rt w (.tuple #[.agg #[(),(),(),(),()],.bool false])):=by
 have c1:=z6 a;rw [ha] at c1;have c2:=z6 b;rw [hb] at c2;clear ha hb
 go_enter func120,ntmps120
 go_wp2_with fail;refine qE3 λW1 Ba Bb Br hw=>?_;refine qC3 (c1 _) Ba Bb Br hw λw2 Ba Bb Br hw FW=>?_;go_wp2_with fail;clear FW;refine qK3 (c2 _) Ba Bb Br hw λw3 Ba Bb Br hw=>?_;have Fa:=Ba.f;have Fb:=Bb.f;have Fr:=Br.f;go_wp2_with fail;refine bodyPost_ret (v:=.tuple #[.agg #[(),(),(),(),()],.bool false]) (by simp [results,results120,go_sem,Fr]) rfl ⟨rfl,by have hl:=hw.size;go_grown⟩
theorem make_o2 (a b:Pt) (k:Int) (e1:(k == 1)=false) (e2:(k == 2)=true) (e:peqI a.x a.y b.x b.y=false) (ha:vld a=true) (hb:vld b=true) (w:World):Calls prog 120 #[a,b,k] w (Rt w (.tuple #[.agg #[.int .i64 (lo2 a b).x,.int .i64 (lo2 a b).y,.int .i64 (hi2 a b).x,.int .i64 (hi2 a b).y,k],.bool true])):=by
 have c1:=z6 a;rw [ha] at c1;have c2:=z6 b;rw [hb] at c2;have c3:=Z8 a b;clear ha hb;generalize lo2 a b=p at *
 generalize hi2 a b=q at *
 go_enter func120,ntmps120
 go_wp2_with fail;refine qE3 λW1 Ba Bb Br hw=>?_;refine qC3 (c1 _) Ba Bb Br hw λw2 Ba Bb Br hw FW=>?_;go_wp2_with fail;clear FW;refine qC3 (c2 _) Ba Bb Br hw λw3 Ba Bb Br hw FW=>?_;go_wp2_with fail;clear FW;refine qK3 (c3 _) Ba Bb Br hw λw4 Ba Bb Br hw=>?_;have Fa:=Ba.f;have Fb:=Bb.f;have Fr:=Br.f;go_wp2_with fail;refine bodyPost_ret (v:=.tuple #[.agg #[p.x,p.y,q.x,q.y,k],.bool true]) (by simp [results,results120,go_sem,Fr]) rfl ⟨rfl,by have hl:=hw.size;go_grown⟩
theorem q8 (a b:Pt) (k:Int) (w:World):Calls prog 120 #[a,b,k] w (Rt w (.tuple #[.agg #[.int .i64 (mkW a b k).A.x,.int .i64 (mkW a b k).A.y,.int .i64 (mkW a b k).B.x,.int .i64 (mkW a b k).B.y,.int .i64 (mkW a b k).K],.bool (mkOk a b k)])):=by
 have hz:∀ e,mkOk a b k=e->e=false->mkW a b k=⟨⟨0,0⟩,⟨0,0⟩,0⟩:=λe h1 h2=>by unfold mkW;rw [h1,h2];rfl
 cases e1:(k == 1) with
 | true=>
  have hk:mkK k=true:=by simp at e1;simp [mkK,e1]
  cases e:peqI a.x a.y b.x b.y with
  | true=>
   have h:mkOk a b k=false:=by rw [ze] at e;unfold mkOk;rw [e];simp
   rw [hz _ h rfl,h];exact make_e1 a b k e1 e w
  | false=>
   have h0:mkOk a b k=(vld a && vld b):=by rw [ze] at e;unfold mkOk;rw [e,hk];simp
   cases ha:vld a with
   | false => have h : mkOk a b k = false := by rw [h0, ha]; rfl
              rw [hz _ h rfl,h];exact make_a1 a b k e1 e ha w
   | true=>
    cases hb:vld b with
    | false => have h : mkOk a b k = false := by rw [h0, ha, hb]; rfl
               rw [hz _ h rfl,h];exact make_b1 a b k e1 e ha hb w
    | true => have h : mkOk a b k = true := by rw [h0, ha, hb]; rfl
              rw [show mkW a b k=⟨lo2 a b,hi2 a b,k⟩ by unfold mkW;rw [h];rfl,h];exact make_o1 a b k e1 e ha hb w
 | false=>
  cases e2:(k == 2) with
  | false=>
   have h:mkOk a b k=false:=by simp at e1 e2;unfold mkOk mkK;simp [e1,e2]
   rw [hz _ h rfl,h];exact make_u a b k e1 e2 w
  | true=>
   have hk:mkK k=true:=by simp at e2;simp [mkK,e2]
   cases e:peqI a.x a.y b.x b.y with
   | true=>
    have h:mkOk a b k=false:=by rw [ze] at e;unfold mkOk;rw [e];simp
    rw [hz _ h rfl,h];exact make_e2 a b k e1 e2 e w
   | false=>
    have h0:mkOk a b k=(vld a && vld b):=by rw [ze] at e;unfold mkOk;rw [e,hk];simp
    cases ha:vld a with
    | false => have h : mkOk a b k = false := by rw [h0, ha]; rfl
               rw [hz _ h rfl,h];exact make_a2 a b k e1 e2 e ha w
    | true=>
     cases hb:vld b with
     | false => have h : mkOk a b k = false := by rw [h0, ha, hb]; rfl
                rw [hz _ h rfl,h];exact make_b2 a b k e1 e2 e ha hb w
     | true => have h : mkOk a b k = true := by rw [h0, ha, hb]; rfl
               rw [show mkW a b k=⟨lo2 a b,hi2 a b,k⟩ by unfold mkW;rw [h];rfl,h];exact make_o2 a b k e1 e2 e ha hb w
theorem unm_0 (W:Wl) (h:mkOk W.A W.B W.K=false) (w:World):Calls prog 76 #[.agg #[W.A.x,W.A.y,W.B.x,W.B.y,W.K]] w (Rt w (.bool (unm W))):=by
 have c1:=q8 W.A W.B W.K;have HE:Hi (unm W=true):=hdd (by unfold unm;rw [h];rfl);rw [h] at c1;clear h;generalize mkW W.A W.B W.K=m at *
 go_enter func76,ntmps76
 go_wp2_with fail;refine qE1 λW1 Bw hw=>?_;refine qC1 (c1 _) Bw hw λw2 Bw hw Fw=>?_;go_wp2
 go_ret
 exact ⟨yS (by rw [HE.o]),by have hl:=hw.size;go_grown⟩
theorem unm_1 (W:Wl) (h:mkOk W.A W.B W.K=true) (w:World):Calls prog 76 #[.agg #[W.A.x,W.A.y,W.B.x,W.B.y,W.K]] w (Rt w (.bool (unm W))):=by
 have c1:=q8 W.A W.B W.K;have HE:Hi (unm W = !weqI (mkW W.A W.B W.K).A.x (mkW W.A W.B W.K).A.y (mkW W.A W.B W.K).B.x (mkW W.A W.B W.K).B.y (mkW W.A W.B W.K).K W.A.x W.A.y W.B.x W.B.y W.K):=hdd (by unfold unm;rw [h];rw [weqI_dec];rfl);rw [h] at c1;clear h;generalize mkW W.A W.B W.K=m at *
 go_enter func76,ntmps76
 go_wp2_with fail;refine qE1 λW1 Bw hw=>?_;refine qC1 (c1 _) Bw hw λw2 Bw hw Fw=>?_;go_wp2
 go_ret
 exact ⟨yS (by rw [HE.o]),by have hl:=hw.size;go_grown⟩
theorem uP (W:Wl) (w:World):Calls prog 76 #[.agg #[W.A.x,W.A.y,W.B.x,W.B.y,W.K]] w (Rt w (.bool (unm W))):=by
 cases h:mkOk W.A W.B W.K with
 | false=>exact unm_0 W h w
 | true=>exact unm_1 W h w
def mnI (x y:Int):Int:=if y < x then y else x
def mxI (x y:Int):Int:=if y > x then y else x
theorem run_mnI {P:Program} (w:World) (ts:Array TypeId) (t:TypeId) (k k':IntKind) (x y:Int):(Builtin.min_ ts t #[.int k x,.int k' y]).run P w=.ok (.int k (mnI x y)) w:=run_min_int2 w ts t k k' x y
theorem run_mxI {P:Program} (w:World) (ts:Array TypeId) (t:TypeId) (k k':IntKind) (x y:Int):(Builtin.max_ ts t #[.int k x,.int k' y]).run P w=.ok (.int k (mxI x y)) w:=run_max_int2 w ts t k k' x y
attribute [local go_sem ↓ 10000] run_mnI run_mxI
def bsd (W:Wl) (a b:Pt):Bool:=decide (W.B.x < a.x) || (decide (b.x < W.A.x) || (decide (mxI W.A.y W.B.y < mnI a.y b.y) || decide (mxI a.y b.y < mnI W.A.y W.B.y)))
theorem bsd_0 (W:Wl) (a b:Pt)  (h0:decide (W.B.x < a.x)=true) (w:World):Calls prog 127 #[.agg #[W.A.x,W.A.y,W.B.x,W.B.y,W.K],a,b] w (Rt w (.bool (bsd W a b))):=by
 have HE:Hi (bsd W a b=true):=hdd (by unfold bsd;rw [h0];rfl)
 go_enter func127,ntmps127
 go_wp2
 go_ret
 exact ⟨yS (by rw [HE.o]),by go_grown⟩
theorem bsd_1 (W:Wl) (a b:Pt) (h0:decide (W.B.x < a.x)=false) (h1:decide (b.x < W.A.x)=true) (w:World):Calls prog 127 #[.agg #[W.A.x,W.A.y,W.B.x,W.B.y,W.K],a,b] w (Rt w (.bool (bsd W a b))):=by
 have HE:Hi (bsd W a b=true):=hdd (by unfold bsd;rw [h0,h1];rfl)
 go_enter func127,ntmps127
 go_wp2
 go_ret
 exact ⟨yS (by rw [HE.o]),by go_grown⟩
theorem bsd_2 (W:Wl) (a b:Pt) (h0:decide (W.B.x < a.x)=false) (h1:decide (b.x < W.A.x)=false) (h2:decide (mxI W.A.y W.B.y < mnI a.y b.y)=true) (w:World):Calls prog 127 #[.agg #[W.A.x,W.A.y,W.B.x,W.B.y,W.K],a,b] w (Rt w (.bool (bsd W a b))):=by
 have HE:Hi (bsd W a b=true):=hdd (by unfold bsd;rw [h0,h1,h2];rfl)
 go_enter func127,ntmps127
 go_wp2
 go_ret
 exact ⟨yS (by rw [HE.o]),by go_grown⟩
theorem bsd_3 (W:Wl) (a b:Pt) (h0:decide (W.B.x < a.x)=false) (h1:decide (b.x < W.A.x)=false) (h2:decide (mxI W.A.y W.B.y < mnI a.y b.y)=false) (w:World):Calls prog 127 #[.agg #[W.A.x,W.A.y,W.B.x,W.B.y,W.K],a,b] w (Rt w (.bool (bsd W a b))):=by
 have HE:Hi (bsd W a b=decide (mxI a.y b.y < mnI W.A.y W.B.y)):=hdd (by unfold bsd;rw [h0,h1,h2];rfl)
 go_enter func127,ntmps127
 go_wp2
 go_ret
 exact ⟨yS (by rw [HE.o]),by go_grown⟩
theorem Zc (W:Wl) (a b:Pt) (w:World):Calls prog 127 #[.agg #[W.A.x,W.A.y,W.B.x,W.B.y,W.K],a,b] w (Rt w (.bool (bsd W a b))):=by
 cases h0:decide (W.B.x < a.x) with
 | true=>exact bsd_0 W a b h0 w
 | false=>cases h1:decide (b.x < W.A.x) with
  | true=>exact bsd_1 W a b h0 h1 w
  | false=>cases h2:decide (mxI W.A.y W.B.y < mnI a.y b.y) with
   | true=>exact bsd_2 W a b h0 h1 h2 w
   | false=>exact bsd_3 W a b h0 h1 h2 w
end
attribute [local go_sem] Dr.rOper Dr.rAt Dr.rUpon
def cmpW (S T:Wl):Int:=if cmpP S.A T.A≠0 then cmpP S.A T.A else if cmpP S.B T.B≠0 then cmpP S.B T.B else cmpN S.K T.K
theorem dcmp_int (a b:Int) (w:World):Calls prog 122 #[a,b] w λe w'=>e=.returned (.int .i64 (cmpN a b))/\Dr.Ext w w':=
 (j7 a b w).mono λ_ _ ⟨h1,h2⟩=>⟨h1,by rw [h2];exact ⟨Below.refl _ _,Yq _⟩⟩
theorem tF (S T:Wl) (w:World):Calls prog 78 #[.agg #[S.A.x,S.A.y,S.B.x,S.B.y,S.K],.agg #[T.A.x,T.A.y,T.B.x,T.B.y,T.K]] w λe w'=>e=.returned (.int .i64 (cmpW S T))/\Dr.Ext w w':=by
 have d1:=vT S.A T.A;have d2:=vT S.B T.B;have d3:=dcmp_int S.K T.K;rw [show cmpW S T=or3 (cmpP S.A T.A) (cmpP S.B T.B) (cmpN S.K T.K) by rfl];generalize cmpP S.A T.A=m at *
 generalize cmpP S.B T.B=n at *
 generalize cmpN S.K T.K=o at *
 go_enter func78,ntmps78
 go_wp2_with fail;refine z7 λW1 hW=>?_;have Bs:Box W1 w [S.A.x,S.A.y,S.B.x,S.B.y,S.K] 57:=by rw [hW];exact (Box.new rfl).old _
 have Bt:Box W1 (w+1) [T.A.x,T.A.y,T.B.x,T.B.y,T.K] 57:=by rw [hW];exact Box.new (by simp)
 have hw:Below w w W1:=by rw [hW];go_grown
 have hdr:w.drawn<=W1.drawn:=by rw [hW];exact Yq _
 clear hW;have Kk:=J2 Bs.cells Bt.cells;refine Dr.wp_region_tail 15 (by kernel_rfl) (by kernel_rfl) (C:=λw'=>∃ p:Regrown,w'=grow (redrawn W1 p.d) p.os) rgB ?_;simp only [tK1,tK0,dP1,dP0];repeat (first | (refine Dr_skip (Eq.refl false) ?_;simp only [Act.put,sT2,sT1,sT0]) | (refine Dr.rWalk_step (λK hK=>?_);go_simp;first | (refine hK _ ?_;clear hK K) | (apply Exists.intro;refine ⟨λ_=>?_,hK _ ?_⟩;(first | with_reducible exact Dr.toExt d1 _ | with_reducible exact Dr.toExt d2 _ | with_reducible exact Dr.toExt d3 _);clear hK K)))
 refine Dr.rWalk_nil ?_;intro w2 hb0;have hb:=hb0.1;replace hdr:=XD hdr hb0.2;clear hb0;clear Kk;obtain ⟨Bs,Bt,hw,-⟩:=qX2 Bs Bt hw hb;have Fs:=Bs.f;have Ft:=Bt.f;go_wp2_with fail;refine zG λW3 hW=>?_;obtain ⟨bkv,hbv⟩:∃ b,w2.heap.size=b:=⟨_,rfl⟩;rw [hbv];have lsv:=Bs.lt;rw [hbv] at lsv;have ltv:=Bt.lt;rw [hbv] at ltv;have fv:=hw.size;rw [hbv] at fv;have Bv:Box W3 bkv [.int .i64 m,.int .i64 n,.int .i64 o] 3:=by rw [hW];exact Box.new hbv.symm
 replace Bs:Box W3 w [S.A.x,S.A.y,S.B.x,S.B.y,S.K] 57:=by rw [hW];exact Bs.old _
 replace Bt:Box W3 (w+1) [T.A.x,T.A.y,T.B.x,T.B.y,T.K] 57:=by rw [hW];exact Bt.old _
 replace hw:Below w w W3:=by have hl:=hw.size;rw [hW];go_grown
 replace hdr:w.drawn<=W3.drawn:=by rw [hW];exact hdr
 clear hW hbv;refine (YM m n o _ bkv Bv).mono ?_;rintro e w4 ⟨rfl,hb0⟩;have hb:=hb0.1;replace hdr:=XD hdr hb0.2;clear hb0;clear Fs Ft;obtain ⟨Bs,Bt,Bv,hw,-⟩:=qX3 Bs Bt Bv hw hb;clear hb;have Fs:=Bs.f;have Ft:=Bt.f;have Fv:=Bv.f;go_wp2
 go_ret
 exact ⟨rfl,by have hl:=hw.size;go_grown,hdr⟩
theorem ZY (S T:Wl) (w:World):Calls prog 78 #[.agg #[S.A.x,S.A.y,S.B.x,S.B.y,S.K],.agg #[T.A.x,T.A.y,T.B.x,T.B.y,T.K]] w (Rt w (.int .i64 (cmpW S T))):=
 (tF S T w).mono λ_ _ ⟨h1,h2⟩=>⟨h1,h2.1⟩
theorem cmpN_neg (a b:Int):cmpN b a = -cmpN a b:=by unfold cmpN sgn;(repeat' split) <;> omega
theorem cmpN_eq0 {a b:Int}:cmpN a b=0↔a=b:=by unfold cmpN sgn;(repeat' split) <;> omega
theorem cmpN_lt {a b:Int}:cmpN a b < 0↔a < b:=by unfold cmpN sgn;(repeat' split) <;> omega
theorem cmpW_neg (S T:Wl):cmpW T S = -cmpW S T:=by
 unfold cmpW;rw [zv S.A T.A,zv S.B T.B,cmpN_neg S.K T.K];(repeat' split) <;> omega
theorem uJ {S T:Wl}:cmpW S T=0↔S=T:=by
 rw [Wl.eq_iff,<-zc (p:=S.A),<-zc (p:=S.B),<-cmpN_eq0 (a:=S.K)];unfold cmpW;(repeat' split) <;> omega
theorem kZ {S T:Wl}:cmpW S T < 0↔cmpP S.A T.A < 0\/(S.A=T.A/\(cmpP S.B T.B < 0\/(S.B=T.B/\S.K < T.K))):=by
 rw [<-zc (p:=S.A),<-zc (p:=S.B),<-cmpN_lt (a:=S.K)];unfold cmpW;(repeat' split) <;> omega
theorem vW {S T U:Wl} (h1:cmpW S T < 0) (h2:cmpW T U < 0):cmpW S U < 0:=by
 rw [kZ] at *;rcases h1 with h1 | ⟨e1,h1⟩
 ·rcases h2 with h2 | ⟨e2,h2⟩
  ·exact .inl (x8 h1 h2)
  ·exact .inl (e2▸h1)
 ·rcases h2 with h2 | ⟨e2,h2⟩
  ·exact .inl (by rw [e1];exact h2)
  ·refine .inr ⟨e1.trans e2,?_⟩;rcases h1 with h1 | ⟨e3,h1⟩
   ·rcases h2 with h2 | ⟨e4,h2⟩
    ·exact .inl (x8 h1 h2)
    ·exact .inl (e4▸h1)
   ·rcases h2 with h2 | ⟨e4,h2⟩
    ·exact .inl (by rw [e3];exact h2)
    ·exact .inr ⟨e3.trans e4,by omega⟩
theorem wholeW:Whole cmpW:=⟨cmpW_neg,uJ,vW⟩
section
open Go.Lib Go.Shelf
def WRow (w:World) (B:Nat) (v:Value) (L:List Wl):Prop:=w.ownsRow B 57 5 v L.length (L.flatMap cW)
def Flat (a:Option Addr):Prop:=∀ ad,a=some ad->ad.spot=none
theorem WRow.row {w:World} {B:Nat} {v:Value} {L:List Wl} (h:WRow w B v L):∃ a cap,v=.slice a L.length cap/\RowAt cW 5 w a L/\Flat a:=by
 obtain ⟨a,cap,h1,h2⟩:=yi y6 h;refine ⟨a,cap,h1,h2,λad ha=>?_⟩;rcases h.2 with ⟨h0,_⟩ | ⟨g,cap',cur,h0,_⟩
 ·rw [h1] at h0;simp at h0;rw [h0.1] at ha;cases ha
 ·rw [h1] at h0;simp at h0;rw [h0.1] at ha;cases ha;rfl
theorem WRow.nil0 (w:World) (B:Nat):WRow w B (.slice none 0 0) []:=World.ownsRow_nil _ _ _ _
theorem WRow.kept {w w':World} {B:Nat} {v:Value} {L:List Wl} {row:Option Nat} (h:WRow w B v L) (hg:w.grownBy w' row) (hne:v.ownBlock=none\/v.ownBlock≠row):WRow w' B v L:=World.ownsRow.kept h hg hne
theorem WRow.lt {w:World} {B:Nat} {v:Value} {L:List Wl} (h:WRow w B v L):∀ k,v.ownBlock=some k->B<=k/\k < w.heap.size:=World.ownsRow.lt h
theorem WRow.base {w:World} {B B':Nat} {v:Value} {L:List Wl} (h:WRow w B v L) (hb:B'<=B):WRow w B' v L:=by
 refine ⟨h.1,?_⟩;rcases h.2 with h | ⟨g,cap,cur,h0,h1,h2⟩
 ·exact .inl h
 ·exact .inr ⟨g,cap,cur,h0,XD hb h1,h2⟩
theorem WRow.ext {w w':World} {B n:Nat} {v:Value} {L:List Wl} (h:WRow w B v L) (hb:Below n w w') (hn:n=w.heap.size):WRow w' B v L:=by
 refine ⟨h.1,?_⟩;rcases h.2 with h | ⟨g,cap,cur,h0,h1,h2,h3⟩
 ·exact .inl h
 ·refine .inr ⟨g,cap,cur,h0,h1,?_,h3⟩;have hl:g < w.heap.size:=(XQ.1 h2).1;rw [hb.block g (by omega)];exact h2
theorem WRow.ee {w w':World} {B:Nat} {v:Value} {L:List Wl} (h:WRow w B v L) (hb:Below w w w'):WRow w' B v L:=h.ext hb rfl
theorem WRow.box {w:World} {B:Nat} {v:Value} {L:List Wl} (h:WRow w B v L):(v=.slice none 0 0/\L=[])\/∃ g cap tl,v=.slice (some ⟨g,0,none⟩) L.length cap/\B<=g/\Box w g (L.flatMap cW ++ tl) 57/\L.length<=cap/\cap<=maxLen/\tl.length=(cap - L.length) * 5:=by
 rcases h.2 with ⟨h0,h1⟩ | ⟨g,cap,cur,h0,h1,h2,h3,h4,h5,h6⟩
 ·exact .inl ⟨h0,Xh h1⟩
 ·refine .inr ⟨g,cap,cur.toList.drop (L.length * 5),h0,h1,?_,h3,h4,?_⟩
  ·rw [<-h6,X9];exact h2
  ·rw [X7,JS,h5];omega
theorem WRow.of_box {w:World} {B g cap:Nat} {L:List Wl} {tl:List Value} (hB:B<=g) (h:Box w g (L.flatMap cW ++ tl) 57) (h1:L.length<=cap) (h2:cap<=maxLen) (h3:tl.length=(cap - L.length) * 5):WRow w B (.slice (some ⟨g,0,none⟩) L.length cap) L:=by
 have hl:=zP y6 L;refine ⟨hl,.inr ⟨g,cap,(L.flatMap cW ++ tl).toArray,rfl,hB,h,h1,h2,?_,?_⟩⟩
 ·simp only [List.size_toArray,Yi,hl,h3];omega
 ·simp only [<-hl];exact JJ
theorem flatK_list {α:Type} [Inhabited α] {c:α->List Value} {k:Nat} (hc:∀ x,(c x).length=k) (L:List α) (hk:0 < k):(flatK c k L.toArray).toList=L.flatMap c:=by
 apply Kh;intro t;by_cases ht:t < L.length * k
 ·have hj:t / k < L.length:=by rwa [Jh hk]
  have e:=y5 hc L (t / k) (t % k) L[t / k] (Yo hj) (Nat.mod_lt _ hk);rw [show t / k * k+t % k=t by rw [JU];exact Nat.div_add_mod t k] at e;rw [e];have hs:t < (flatK c k L.toArray).toList.length:=by simpa using ht
  rw [Yo hs];have g:=get_flatK c k L.toArray t (by simpa using ht);rw [getElem!_pos _ t (by simpa using ht)] at g;rw [Array.getElem_toList,g];have hm:t % k < (c L[t / k]).length:=by rw [hc];exact Nat.mod_lt _ hk
  rw [getElem!_pos L.toArray (t / k) (by simpa using hj),List.getElem_toArray,Jj,Yo hm];rfl
 ·rw [Xw (by simpa using ht),Xw (by rw [zP hc];omega)]
theorem block_sortK {α:Type} [Inhabited α] {c:α->List Value} {k:Nat} {w:World} {g n:Nat} {os:Array Obj} {d:Array α} {cur:Array Value} {T:TypeId} {fr:Nat×Nat} (hb:w.heap[g]? = some (.cells cur T fr)):(sortWorldK c k w g 0 n d os).heap[g]? = some (.cells (putCells id 0 (flatK c k d) cur) T fr):=by
 have hl:g < w.heap.size:=(XQ.1 hb).1;unfold sortWorldK putRowK;rw [heap_grow_old _ _ (by simpa [putRow,mapBlock,Sort.ahead] using hl)];simp [putRow,mapBlock,Sort.ahead,KR,hb,onCells]
theorem cmpLaysW (blk off size:Nat) (w:World):CmpLays prog 78 #[] cW 5 cmpW blk off size w:=λ_ _ _ _ x y=>
 (tF x y _).mono λ_ _ ⟨he,hx⟩=>⟨he,hx.grown⟩
theorem enterW:∀ args w,(callFunc 78 args).run prog w=.ok (.enter 78 args) w:=enters_of func78 (by kernel_rfl) rfl
theorem uU (B:Nat) (v:Value) (L:List Wl) (hL:L.length<=3000000) (w:World) (h:WRow w B v L):Calls prog 77 #[v,.func (.func 78) #[] #[]] w λe w'=>e=.returned (.tuple #[])/\w.grownBy w' v.ownBlock/\WRow w' B v (srt cmpW L):=by
 have h2:=h.2;have hlen:(srt cmpW L).length=L.length:=(zd (c:=cmpW) L).length_eq;rcases h2 with ⟨rfl,h0⟩ | ⟨g,cap,cur,rfl,hB,hb,h1,h2,h3,h4⟩
 ·have:L=[]:=Xh h0;subst this;have hc:=AnyF.slices_SortFunc_none { sortWl with } none 0 (.func (.func 78) #[] #[]) w
  change Calls prog 77 _ _ _ at hc
  exact hc.mono λe w' ⟨he,hw⟩=>⟨he,hw▸⟨rfl,rfl,rfl,Yq _,λ_ _ _=>rfl⟩,by rw [hw,show srt cmpW ([]:List Wl)=[] by simp [srt]];exact WRow.nil0 _ _⟩
 ·obtain ⟨hH,hg⟩:=qR y6 h;have hc:=AnyQ.slices_SortFunc_total sortWl 5 Tryz.isAgg57 Tryz.sizeOf57 cW y6 ka cmpW wholeW.swo 78 #[] g 0 cap L.toArray w enterW (cmpLaysW g 0 _ w) hH hg (by simp;omega) wholeW.one
  change Calls prog 77 _ _ _ at hc
  rw [show L.toArray.size=L.length by simp] at hc;refine hc.mono λe w' ⟨he,n,os,hw⟩=>⟨he,?_,?_⟩
  ·rw [hw];exact xZ _
  ·replace hw:w'=sortWorldK cW 5 w g 0 n (srt cmpW L).toArray os:=hw;rw [hw];refine ⟨zP y6 _,.inr ⟨g,cap,_,by rw [hlen],hB,block_sortK hb,by rw [hlen];exact h1,h2,by simp [putCells,h3],?_⟩⟩;rw [<-flatK_list y6 (srt cmpW L) (by omega)];have hF:(flatK cW 5 (srt cmpW L).toArray).size=L.length * 5:=by simp [hlen]
   have hcs:L.length * 5<=cur.size:=by rw [h3];omega
   rw [hlen];apply List.ext_getElem
   ·simp [putCells,hlen];omega
   ·intro t h5 h6;have h7:t < L.length * 5:=by simpa [hlen] using h6
    have h8:t < (flatK cW 5 (srt cmpW L).toArray).size:=by rw [hF];exact h7
    have h9:t < cur.size:=by omega
    simp only [Jc,Array.getElem_toList,putCells,Array.getElem_mapIdx,Xa,Nat.sub_zero,XZ,true_and,id];rw [Yn h8,getElem!_pos _ t h8]
theorem xG:(prog.info? 57).map (λi=>(i.zero,i.size,i.bytes))=some (some (.agg #[(),(),(),(),()]),5,40):=by kernel_rfl
theorem RowAt.flat {w:World} {b off:Nat} {L:List Wl} (h:RowAt cW 5 w (some ⟨b,off,none⟩) L):∀ t u,(L.flatMap cW)[t]? = some u->b < w.heap.size/\w.cell? ⟨b,off+t,none⟩=some u:=λt u hu=>by
 have ht:t < L.length * 5:=by have:=(Yr.1 hu).1;rwa [zP y6] at this
 have hj:t / 5 < L.length:=by omega
 have e:=y5 y6 L (t / 5) (t % 5) L[t / 5] (Yo hj) (by omega);rw [show t / 5 * 5+t % 5=t by omega,hu] at e;obtain ⟨ad,h1,h2,h3⟩:=h (t / 5) L[t / 5] (Yo hj);cases h1
 have h4:=h3 (t % 5) u e.symm;simp only [Addr.add_lit] at h4;rw [show off+t / 5 * 5+t % 5=off+t by omega] at h4;exact ⟨h2,h4⟩
theorem jc {a:Option Addr} (hf:Flat a):a=none\/∃ b off,a=some ⟨b,off,none⟩:=by
 cases a with
 | none=>exact .inl rfl
 | some ad=>obtain ⟨b,off,sp⟩:=ad;have:=hf _ rfl;simp at this;subst this;exact .inr ⟨b,off,rfl⟩
theorem cloneW_any (a:Option Addr) (c:Nat) (L:List Wl) (hL:L.length<=1000000) (w:World) (h:RowAt cW 5 w a L) (hf:Flat a) (hz:a=none->L=[]):Calls prog 56 #[.slice a L.length c] w λe w'=>∃ v',e=.returned v'/\WRow w' w.heap.size v' L/\Below w w w':=by
 rcases jc hf with rfl | ⟨b,off,rfl⟩
 ·have:=hz rfl;subst this;exact (AnyE.slices_Clone_nil cloneWl 0 c w).mono λe w' ⟨he,hw⟩=>⟨_,he,by rw [hw];exact WRow.nil0 _ _,by rw [hw];exact Below.refl _ _⟩
 ·obtain ⟨i0,hi,hz0,hz1,hz2⟩:=info_parts xG;refine (AnyE.slices_Clone cloneWl i0 _ 5 40 hi hz0 hz1 hz2 rfl (by decide) Tryz.sizeOf57 b off L.length c (L.flatMap cW) w (zP y6 L) (by unfold maxLen;omega) (by omega) (λj u hu=>(h.flat j u hu).2) ?_).mono ?_
  ·intro u hu;obtain ⟨x,_,hx⟩:=Yw.1 hu;exact ka x u hx
  ·rintro e w' ⟨v',he,ho,_,hb⟩;exact ⟨v',he,ho,hb⟩
theorem ZT (a:Option Addr) (c:Nat) (f:Value) (w:World):Calls prog 119 #[.slice a 0 c,f] w (Rt w (.int .i64 (-1))):=by
 go_enter func119,ntmps119
 go_wp2;refine wp_loop_rounds 1 ?_;try rw [rounds_succ]
 go_wp2
 go_ret
 exact ⟨rfl,by go_grown⟩
theorem conW_empty (a:Option Addr) (c:Nat) (f:Value) (w:World):Calls prog 75 #[.slice a 0 c,f] w (Rt w (.bool false)):=by
 have c1:=ZT a c f
 go_enter func75,ntmps75
 go_wp2_with fail;refine (c1 _).mono ?_;rintro e w1 ⟨rfl,hb⟩;go_wp2
 go_ret
 exact ⟨rfl,hb⟩
theorem ZU (p:Wl->Bool) (g:Nat) (lb:Array Value) (eg:∀ args w,(callFunc g args).run prog w=.ok (.enter g args) w) (a:Option Addr) (c:Nat) (L:List Wl) (hL:L.length<=1000000) (w:World) (h:RowAt cW 5 w a L) (hf:Flat a) (hp:PredBelow prog g lb (λx=>.agg (cW x).toArray) p w):Calls prog 75 #[.slice a L.length c,.func (.func g) #[] lb] w (Rt w (.bool (L.any p))):=by
 by_cases hn:L=[]
 ·subst hn;exact conW_empty a c _ w
 ·have h0:0 < L.length:=JR.2 hn;rcases jc hf with rfl | ⟨b,off,rfl⟩
  ·obtain ⟨ad,h1,_⟩:=h 0 L[0] (Yo h0);cases h1
  ·have hb:b < w.heap.size:=by obtain ⟨ad,h1,h2,_⟩:=h 0 L[0] (Yo h0);cases h1;exact h2
   have hc:=AnyQ.slices_ContainsFunc conWl 5 Tryz.isAgg57 Tryz.sizeOf57 cW y6 p g lb eg b off L.length c L w hp (Yq _) (by omega) hb (λj hj i v hv=>by
    rw [getElem!_pos L j hj] at hv;obtain ⟨ad,h1,_,h3⟩:=h j L[j] (Yo hj);cases h1
    have:=h3 i v hv
    simpa only [Addr.add_lit] using this)
   change Calls prog 75 _ _ _ at hc
   rwa [X5 (Yq _)] at hc
end
def bsb (f:Wl->Int) (L:List Wl) (m:Nat):Bool:=match L[m]? with | some x=>f x == 0 | none=>false
theorem toExt2 {P:Program} {f:FuncId} {args:Array Value} {v:Value} {W:World} (c:∀ d os,Calls P f args (grow (redrawn W d) os) λe w'=>e=.returned v/\Below (grow (redrawn W d) os).heap.size (grow (redrawn W d) os) w'):∀ d os,Calls P f args (grow (redrawn W d) os) λe w'=>e=.returned v/\Ext (grow (redrawn W d) os) w':=c
def Five (w:World) (A:Addr) (p:Wl):Prop:=A.block < w.heap.size/\w.cell? A=some (.int .i64 p.A.x)/\w.cell? ⟨A.block,A.off+1,none⟩=some (.int .i64 p.A.y)/\w.cell? ⟨A.block,A.off+2,none⟩=some (.int .i64 p.B.x)/\w.cell? ⟨A.block,A.off+3,none⟩=some (.int .i64 p.B.y)/\w.cell? ⟨A.block,A.off+4,none⟩=some (.int .i64 p.K)
theorem RowAt.five {w:World} {a:Option Addr} {L:List Wl} (h:RowAt cW 5 w a L) {j:Nat} (hj:j < L.length):∃ ad A,a=some ad/\ad.add (j * 5)=A/\Five w A L[j]:=by
 obtain ⟨ad,A,h1,h2,_,h4,h5⟩:=h.wal hj;exact ⟨ad,A,h1,h2,h4,h5⟩
theorem Five.ext {w w':World} {A:Addr} {p:Wl} {n:Nat} (h:Five w A p) (hb:Below n w w') (hn:n=w.heap.size):Five w' A p:=by
 obtain ⟨h0,h1,h2,h3,h4,h5⟩:=h;have e:∀ q:Addr,q.block=A.block->w'.cell? q=w.cell? q:=λq hq=>hb.cell (by rw [hq,hn];exact h0);exact ⟨Xi h0 hb.size,(e A rfl).trans h1,(e ⟨A.block,A.off+1,none⟩ rfl).trans h2,(e ⟨A.block,A.off+2,none⟩ rfl).trans h3,(e ⟨A.block,A.off+3,none⟩ rfl).trans h4,(e ⟨A.block,A.off+4,none⟩ rfl).trans h5⟩
theorem Five.ee {w w':World} {A:Addr} {p:Wl} (h:Five w A p) (hb:Below w w w'):Five w' A p:=h.ext hb rfl
theorem Five.f {w:World} {A:Addr} {p:Wl} (h:Five w A p):(A.block=w.heap.size)=False/\w.cell? A=some (.int .i64 p.A.x)/\w.cell? ⟨A.block,A.off+1,none⟩=some (.int .i64 p.A.y)/\w.cell? ⟨A.block,A.off+2,none⟩=some (.int .i64 p.B.x)/\w.cell? ⟨A.block,A.off+3,none⟩=some (.int .i64 p.B.y)/\w.cell? ⟨A.block,A.off+4,none⟩=some (.int .i64 p.K):=⟨by simp;have:=h.1;omega,h.2⟩
theorem Five.cells {w:World} {A:Addr} {p:Wl} (h:Five w A p):(∀ d os,(grow (redrawn w d) os).cell? A=some (.int .i64 p.A.x))/\(∀ d os,(grow (redrawn w d) os).cell? ⟨A.block,A.off+1,none⟩=some (.int .i64 p.A.y))/\(∀ d os,(grow (redrawn w d) os).cell? ⟨A.block,A.off+2,none⟩=some (.int .i64 p.B.x))/\(∀ d os,(grow (redrawn w d) os).cell? ⟨A.block,A.off+3,none⟩=some (.int .i64 p.B.y))/\(∀ d os,(grow (redrawn w d) os).cell? ⟨A.block,A.off+4,none⟩=some (.int .i64 p.K)):=by
 have e:=λd os=>(h.ext (below_regrown w d os) rfl).2;exact ⟨λd os=>(e d os).1,λd os=>(e d os).2.1,λd os=>(e d os).2.2.1,λd os=>(e d os).2.2.2.1,λd os=>(e d os).2.2.2.2⟩
theorem bsW_any (a:Option Addr) (c:Nat) (L:List Wl) (hL:L.length<=1000000) (T:Wl) (m:Nat) (hm:∀ (k:Nat) (hk:k < L.length),cmpW L[k] T < 0↔k < m) (hmn:m<=L.length) (w:World) (h:RowAt cW 5 w a L):Calls prog 110 #[.slice a L.length c,.agg #[T.A.x,T.A.y,T.B.x,T.B.y,T.K],.func (.func 78) #[] #[]] w (Rt w (.tuple #[m,.bool (bsb (λx=>cmpW x T) L m)])):=by
 obtain ⟨n,hn1⟩:∃ n,L.length=n:=⟨_,rfl⟩;have hn:n<=1000000:=hn1▸hL;have hmn':m<=n:=hn1▸hmn;have H1:=hdd hn1;have HM:=hdd hm;rw [hn1];clear hL hmn hm hn1;have hnl:n<=n:=Yq n
 go_enter func110,ntmps110
 go_wp2_with fail;refine z7 λW1 hW=>?_;have BT:Box W1 w [T.A.x,T.A.y,T.B.x,T.B.y,T.K] 57:=by rw [hW];exact Box.new rfl
 have hw:Below w w W1:=by rw [hW];go_grown
 clear hW
 go_loopw [9,10,11] (λvi vj vh wr=>∃ i j:Nat,vi=.int .i64 i/\vj=.int .i64 j/\i<=m/\m<=j/\j<=n/\Below w w wr/\Box wr w [T.A.x,T.A.y,T.B.x,T.B.y,T.K] 57) (λvi vj _ _=>(intOf vj).toNat - (intOf vi).toNat)
 case atStart=>exact ⟨0,n,rfl,rfl,XZ _,hmn',hnl,hw,BT⟩
 case round=>
  clear BT hw;obtain ⟨i,j,rfl,rfl,h1,h2,h3,hwr,BT⟩:=hrel;by_cases hij:i < j
  ·have hh:i < (i+j) / 2+1/\(i+j) / 2 < j:=by omega
   obtain ⟨q,hq⟩:∃ q,(i+j) / 2=q:=⟨_,rfl⟩;rw [hq] at hh;obtain ⟨hh1,hh2⟩:=hh;have hqn:q < n:=by omega
   have hqi:((i:Int)+(j:Int)) / 2=(q:Int):=by omega
   have hmq:=HM.o q (by rw [H1.o];exact hqn);obtain ⟨ad,A,ea,eA,hA⟩:=(h.ee hwr).five (j:=q) (by rw [H1.o];exact hqn);have cc:=ZY (L[q]'(by rw [H1.o];exact hqn)) T;have gT:=BT.cells;obtain ⟨s0,s1,s2,s3,s4⟩:=hA.cells;generalize L[q]'(by rw [H1.o];exact hqn)=X at *
   generalize cmpW X T=z at *
   have HQ:=hdd hmq;have H12:=hdd (And.intro (And.intro h1 h2) (And.intro hh1 hh2));clear hmq h1 h2 hq hh1 hh2;subst ea;by_cases hz:z < 0
   ·have hd:decide (z < 0)=true:=by simpa using hz
    have HZ:=hdd (HQ.o.1 hz);clear hz;go_wp2_with fail;refine (wp_region_tail 7 (by kernel_rfl) (by kernel_rfl) (C:=λw'=>∃ p:Regrown,w'=grow (redrawn wr p.d) p.os) rgB ?_);simp only [tK1,tK0,dP1,dP0];refine wkx ?_;intro w2 hb;have hw2:=(upB hwr hb);have BT2:=BT.ee hb;clear gT s0 s1 s2 s3 s4 hA;go_wp2
    go_roundw
    case rel=>exact ⟨q+1,j,by go_num,rfl,HZ.o,H12.o.1.2,h3,hw2,BT2⟩
    case measure=>simp [intOf];have:=H12.o.2.1;have:=H12.o.2.2;omega
   ·have hd:decide (z < 0)=false:=by simpa using hz
    have HZ:=hdd (show m<=q from Nat.le_of_not_lt λe=>hz (HQ.o.2 e));clear hz;go_wp2_with fail;refine (wp_region_tail 7 (by kernel_rfl) (by kernel_rfl) (C:=λw'=>∃ p:Regrown,w'=grow (redrawn wr p.d) p.os) rgB ?_);simp only [tK1,tK0,dP1,dP0];refine wkx ?_;intro w2 hb;have hw2:=(upB hwr hb);have BT2:=BT.ee hb;clear gT s0 s1 s2 s3 s4 hA;go_wp2
    go_roundw
    case rel=>exact ⟨i,q,rfl,rfl,H12.o.1.1,HZ.o,by omega,hw2,BT2⟩
    case measure=>simp [intOf];have:=H12.o.2.1;have:=H12.o.2.2;omega
  ·obtain rfl:i=m:=by omega
   obtain rfl:j=i:=by omega
   have gT:=BT.cells;by_cases hlt:j < n
   ·obtain ⟨ad,A,ea,eA,hA⟩:=(h.ee hwr).five (j:=j) (by rw [H1.o];exact hlt);have cc:=ZY (L[j]'(by rw [H1.o];exact hlt)) T;have HB:Hi (bsb (λx=>cmpW x T) L j=(cmpW (L[j]'(by rw [H1.o];exact hlt)) T == 0)):=hdd (by unfold bsb;rw [Yo (by rw [H1.o];exact hlt)]);generalize L[j]'(by rw [H1.o];exact hlt)=X at *
    generalize cmpW X T=z at *
    obtain ⟨s0,s1,s2,s3,s4⟩:=hA.cells;subst ea;go_wp2_with fail;refine (wp_region_tail 15 (by kernel_rfl) (by kernel_rfl) (C:=λw'=>∃ p:Regrown,w'=grow (redrawn wr p.d) p.os) rgB ?_);simp only [tK1,tK0,dP1,dP0];refine wkx ?_;intro w2 hb;have hw2:=(upB hwr hb);clear gT s0 s1 s2 s3 s4 hA;go_wp2_with fail;refine bodyPost_ret (v:=.tuple #[.int .i64 j,.bool (z == 0)]) (by simp [results,results110,go_sem]) rfl ⟨by rw [HB.o],hw2⟩
   ·have HB:Hi (bsb (λx=>cmpW x T) L j=false):=hdd (by unfold bsb;rw [Xw (by rw [H1.o];omega)]);go_wp2_with fail;refine (wp_region_tail 15 (by kernel_rfl) (by kernel_rfl) (C:=λw'=>∃ p:Regrown,w'=grow (redrawn wr p.d) p.os) rgB ?_);simp only [tK1,tK0,dP1,dP0];repeat (first | (refine zI (Eq.refl false) ?_;simp only [Act.put,sT2,sT1,sT0]) | (refine rWalk_step (λK hK=>?_);go_simp;refine hK _ ?_;clear hK K))
    refine rWalk_nil ?_;intro w2 hb;have hw2:=(upB hwr hb);clear gT;go_wp2_with fail;refine bodyPost_ret (v:=.tuple #[.int .i64 j,.bool false]) (by simp [results,results110,go_sem]) rfl ⟨by rw [HB.o],hw2⟩
def bgn (X:Wl) (p:Pt):Int:=if decide (0 < cmpP X.A p) then 1 else -1
theorem bgn_0 (X:Wl) (p:Pt) (h:decide (0 < cmpP X.A p)=false) (w:World):Calls prog 167 #[.agg #[X.A.x,X.A.y,X.B.x,X.B.y,X.K],p] w (Rt w (.int .i64 (bgn X p))):=by
 have c1:=zY X.A p;rw [show bgn X p = -1 by unfold bgn;rw [h];rfl];generalize cmpP X.A p=z at *
 go_enter func167,ntmps167
 go_wp2_with fail;refine qE2 λW1 Bx Bp hw=>?_;refine qC2 (c1 _) Bx Bp hw λw2 Bx Bp hw K9=>?_;go_wp2
 go_ret
 exact ⟨rfl,by have hl:=hw.size;go_grown⟩
theorem bgn_1 (X:Wl) (p:Pt) (h:decide (0 < cmpP X.A p)=true) (w:World):Calls prog 167 #[.agg #[X.A.x,X.A.y,X.B.x,X.B.y,X.K],p] w (Rt w (.int .i64 (bgn X p))):=by
 have c1:=zY X.A p;rw [show bgn X p=1 by unfold bgn;rw [h];rfl];generalize cmpP X.A p=z at *
 go_enter func167,ntmps167
 go_wp2_with fail;refine qE2 λW1 Bx Bp hw=>?_;refine qC2 (c1 _) Bx Bp hw λw2 Bx Bp hw K9=>?_;go_wp2
 go_ret
 exact ⟨rfl,by have hl:=hw.size;go_grown⟩
theorem YP (X:Wl) (p:Pt) (w:World):Calls prog 167 #[.agg #[X.A.x,X.A.y,X.B.x,X.B.y,X.K],p] w (Rt w (.int .i64 (bgn X p))):=by
 cases h:decide (0 < cmpP X.A p) with
 | false=>exact bgn_0 X p h w
 | true=>exact bgn_1 X p h w
theorem bsP_any (a:Option Addr) (c:Nat) (L:List Wl) (hL:L.length<=1000000) (p:Pt) (m:Nat) (hm:∀ (k:Nat) (hk:k < L.length),bgn L[k] p < 0↔k < m) (hmn:m<=L.length) (w:World) (h:RowAt cW 5 w a L):Calls prog 166 #[.slice a L.length c,p,.func (.func 167) #[] #[]] w (Rt w (.tuple #[m,.bool (bsb (λx=>bgn x p) L m)])):=by
 obtain ⟨n,hn1⟩:∃ n,L.length=n:=⟨_,rfl⟩;have hn:n<=1000000:=hn1▸hL;have hmn':m<=n:=hn1▸hmn;have H1:=hdd hn1;have HM:=hdd hm;rw [hn1];clear hL hmn hm hn1;have hnl:n<=n:=Yq n
 go_enter func166,ntmps166
 go_wp2_with fail;refine z7 λW1 hW=>?_;have BT:Box W1 w [p.x,p.y] 26:=by rw [hW];exact Box.new rfl
 have hw:Below w w W1:=by rw [hW];go_grown
 clear hW
 go_loopw [9,10,11] (λvi vj vh wr=>∃ i j:Nat,vi=.int .i64 i/\vj=.int .i64 j/\i<=m/\m<=j/\j<=n/\Below w w wr/\Box wr w [p.x,p.y] 26) (λvi vj _ _=>(intOf vj).toNat - (intOf vi).toNat)
 case atStart=>exact ⟨0,n,rfl,rfl,XZ _,hmn',hnl,hw,BT⟩
 case round=>
  clear BT hw;obtain ⟨i,j,rfl,rfl,h1,h2,h3,hwr,BT⟩:=hrel;by_cases hij:i < j
  ·have hh:i < (i+j) / 2+1/\(i+j) / 2 < j:=by omega
   obtain ⟨q,hq⟩:∃ q,(i+j) / 2=q:=⟨_,rfl⟩;rw [hq] at hh;obtain ⟨hh1,hh2⟩:=hh;have hqn:q < n:=by omega
   have hqi:((i:Int)+(j:Int)) / 2=(q:Int):=by omega
   have hmq:=HM.o q (by rw [H1.o];exact hqn);obtain ⟨ad,A,ea,eA,hA⟩:=(h.ee hwr).five (j:=q) (by rw [H1.o];exact hqn);have cc:=YP (L[q]'(by rw [H1.o];exact hqn)) p;have gT:=BT.cells;obtain ⟨s0,s1,s2,s3,s4⟩:=hA.cells;generalize L[q]'(by rw [H1.o];exact hqn)=X at *
   generalize bgn X p=z at *
   have HQ:=hdd hmq;have H12:=hdd (And.intro (And.intro h1 h2) (And.intro hh1 hh2));clear hmq h1 h2 hq hh1 hh2;subst ea;by_cases hz:z < 0
   ·have hd:decide (z < 0)=true:=by simpa using hz
    have HZ:=hdd (HQ.o.1 hz);clear hz;go_wp2_with fail;refine (wp_region_tail 7 (by kernel_rfl) (by kernel_rfl) (C:=λw'=>∃ p:Regrown,w'=grow (redrawn wr p.d) p.os) rgB ?_);simp only [tK1,tK0,dP1,dP0];refine wkx ?_;intro w2 hb;have hw2:=(upB hwr hb);have BT2:=BT.ee hb;clear gT s0 s1 s2 s3 s4 hA;go_wp2
    go_roundw
    case rel=>exact ⟨q+1,j,by go_num,rfl,HZ.o,H12.o.1.2,h3,hw2,BT2⟩
    case measure=>simp [intOf];have:=H12.o.2.1;have:=H12.o.2.2;omega
   ·have hd:decide (z < 0)=false:=by simpa using hz
    have HZ:=hdd (show m<=q from Nat.le_of_not_lt λe=>hz (HQ.o.2 e));clear hz;go_wp2_with fail;refine (wp_region_tail 7 (by kernel_rfl) (by kernel_rfl) (C:=λw'=>∃ p:Regrown,w'=grow (redrawn wr p.d) p.os) rgB ?_);simp only [tK1,tK0,dP1,dP0];refine wkx ?_;intro w2 hb;have hw2:=(upB hwr hb);have BT2:=BT.ee hb;clear gT s0 s1 s2 s3 s4 hA;go_wp2
    go_roundw
    case rel=>exact ⟨i,q,rfl,rfl,H12.o.1.1,HZ.o,by omega,hw2,BT2⟩
    case measure=>simp [intOf];have:=H12.o.2.1;have:=H12.o.2.2;omega
  ·obtain rfl:i=m:=by omega
   obtain rfl:j=i:=by omega
   have gT:=BT.cells;by_cases hlt:j < n
   ·obtain ⟨ad,A,ea,eA,hA⟩:=(h.ee hwr).five (j:=j) (by rw [H1.o];exact hlt);have cc:=YP (L[j]'(by rw [H1.o];exact hlt)) p;have HB:Hi (bsb (λx=>bgn x p) L j=(bgn (L[j]'(by rw [H1.o];exact hlt)) p == 0)):=hdd (by unfold bsb;rw [Yo (by rw [H1.o];exact hlt)]);generalize L[j]'(by rw [H1.o];exact hlt)=X at *
    generalize bgn X p=z at *
    obtain ⟨s0,s1,s2,s3,s4⟩:=hA.cells;subst ea;go_wp2_with fail;refine (wp_region_tail 15 (by kernel_rfl) (by kernel_rfl) (C:=λw'=>∃ p:Regrown,w'=grow (redrawn wr p.d) p.os) rgB ?_);simp only [tK1,tK0,dP1,dP0];refine wkx ?_;intro w2 hb;have hw2:=(upB hwr hb);clear gT s0 s1 s2 s3 s4 hA;go_wp2_with fail;refine bodyPost_ret (v:=.tuple #[.int .i64 j,.bool (z == 0)]) (by simp [results,results166,go_sem]) rfl ⟨by rw [HB.o],hw2⟩
   ·have HB:Hi (bsb (λx=>bgn x p) L j=false):=hdd (by unfold bsb;rw [Xw (by rw [H1.o];omega)]);go_wp2_with fail;refine (wp_region_tail 15 (by kernel_rfl) (by kernel_rfl) (C:=λw'=>∃ p:Regrown,w'=grow (redrawn wr p.d) p.os) rgB ?_);simp only [tK1,tK0,dP1,dP0];repeat (first | (refine zI (Eq.refl false) ?_;simp only [Act.put,sT2,sT1,sT0]) | (refine rWalk_step (λK hK=>?_);go_simp;refine hK _ ?_;clear hK K))
    refine rWalk_nil ?_;intro w2 hb;have hw2:=(upB hwr hb);clear gT;go_wp2_with fail;refine bodyPost_ret (v:=.tuple #[.int .i64 j,.bool false]) (by simp [results,results166,go_sem]) rfl ⟨by rw [HB.o],hw2⟩
end
end Go.Proofs.YtmpfadapbbjbkaaGreat
