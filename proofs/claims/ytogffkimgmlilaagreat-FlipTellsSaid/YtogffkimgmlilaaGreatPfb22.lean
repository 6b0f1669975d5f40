/- Put together: FlowT. -/
import Derived.Test.YtogffkimgmlilaaGreatPfb2
set_option maxRecDepth 100000
set_option maxHeartbeats 8000000
set_option linter.all false
namespace Go.Proofs.YtogffkimgmlilaaGreat.FT
open Go.RowKit Go.Sort
section
variable {P:Program} {ops:Array Oper} {md:Region.Mode} {Q:Exit→Act→World→Prop} {n:Nat}
inductive Plan where
 | run (i:Nat) (rest:Plan)
 | alt (h:Nat) (after other:Plan)
 | stop
 | tail
def flow (P:Program) (ops:Array Oper) (n:Nat) (Q:Exit→Act→World→Prop):Plan→(World→Prop)→Act→World→Prop
 | .run i rest,C,a,w=>∃ o,ops[i]? = some o∧if Region.wanted o (yielded ops a.tmps) then rOper P o a C (fun a'=>flow P ops n Q rest C a' w) else flow P ops n Q rest C (a.put o.dst undef) w
 | .alt h after other, C, a, w => (∃ o, ops[h]? = some o ∧ ∀ w', Ext w w' → if Region.wanted o (yielded ops a.tmps) then
       o.wp P a w' (fun a' w2=>∃ C':World→Prop,(∀ x,C' x→C x)∧(∀ x y,Ext x y→C' x→C' y)∧C' w2∧flow P ops n Q after C' a' w2) Q
     else ∃ C':World→Prop,(∀ x,C' x→C x)∧(∀ x y,Ext x y→C' x→C' y)∧C' w'∧flow P ops n Q after C' (a.put o.dst undef) w')∧flow P ops n Q other C a w
 | .stop,_,_,_=>True
 | .tail,_,a,w=>∀ w',Ext w w'→wpList P ops Q (ops.toList.drop n) a w'
theorem flow_run {i:Nat} {rest:Plan} {C:World→Prop} {a:Act} {w:World} {o:Oper} (ho:ops[i]? = some o) (h:∀ K:Act→Prop,(∀ a,flow P ops n Q rest C a w→K a)→if Region.wanted o (yielded ops a.tmps) then rOper P o a C K else K (a.put o.dst undef)):flow P ops n Q (.run i rest) C a w:=
 ⟨o,ho,h _ (fun _ h=>h)⟩
def Plan.runs:Plan→List Nat
 | .run i r=>i :: r.runs
 | _=>[]
def Plan.drop (i:Nat):Plan→Plan
 | .run j r=>if j=i then r else .run j (r.drop i)
 | p=>p
def Plan.goto (h:Nat):Plan→Plan
 | .run j r=>.run j (r.goto h)
 | .alt k a o=>if k=h then a else o.goto h
 | p=>p
def planB (md:Region.Mode) (n:Nat) (ops:Array Oper):List Nat→Plan→Array Bool→Bool
 | seen,.run i r,l=>decide (i < n) && seen.isEmpty && (Region.ready md ops l).contains i && Region.free md ops l i && planB md n ops [] r (l.setIfInBounds i true)
 | seen,.alt h a o,l=>decide (h < n) && (Region.ready md ops l).contains h && planB md n ops [] a (l.setIfInBounds h true) && planB md n ops (h :: seen) o l
 | seen,.stop,l => !seen.isEmpty && (Region.ready md ops l).all seen.contains
 | seen,.tail,l=>seen.isEmpty && Region.seqB md ops (ops.size - n) n l
theorem zL0 {l:Array Bool} {i j:Nat} (h:Region.free md ops l j=true):Region.free md ops (l.setIfInBounds i true) j=true:=by
 unfold Region.free at *;cases ho:ops[j]? with
 | none=>rw [ho] at h;cases h
 | some oj=>
  rw [ho] at h;simp only [jCf,jBh,jD6,beq_iff_eq] at h ⊢;intro k hk;rcases h k hk with (h1 | h1) | h1
  ·exact .inl (.inl h1)
  ·by_cases hik:i=k
   ·subst hik;refine .inl (.inr ?_);rcases jCm i l.size with h' | h'
    ·simp [h']
    ·simp [h']
   ·exact .inl (.inr (by rw [getD_set_ne true hik];exact h1))
  ·exact .inr h1
theorem zNf {l:Array Bool} {i j:Nat} {oi oj:Oper} (hj:ops[j]? = some oj) (hf:Region.free md ops l j=true) (hji:j≠i) (hun:l.getD j true=false) (hi:ops[i]? = some oi) (hr:i∈Region.ready md ops l):oj.apart ops oi=true:=by
 obtain ⟨h0,o,ho,hall⟩:=mem_ready.1 hr;have:o=oi:=jAl (ho.symm.trans hi);subst this;refine Region.free_spec hj hf i o hi (Ne.symm hji) h0 fun e he hb heq=>?_;have h1:=hall e he hb;rw [heq,getD_both hun] at h1;cases h1
theorem wpOp_putR {C:World→Prop} {j:Nat} {oi oj:Oper} {v:Value} (hj:ops[j]? = some oj) (hap:oi.apart ops oj=true) (hsi:∀ cs b,oi.op≠.select cs b) (hsj:∀ cs b,oj.op≠.select cs b) (hQ:∀ c x v a w,Q (.panic c) (Act.put a x v) w→Q (.panic c) a w) {K:Act→World→Prop} {a:Act} {w:World} (hy:rYields P ops C oi v a) (h:wpOp P ops Q j K (a.put oi.dst v) w):wpOp P ops Q j (fun a' w'=>rYields P ops C oi v a'∧K (a'.put oi.dst v) w') a w:=by
 obtain ⟨g1,g2,g3⟩:=Oper.apart_spec hap;have e1:=execOp_put (ops:=ops) oj hsj a oi.dst v g1;have e2:=wanted_put oj a oi.dst v g1;have kp:∀ b u,rYields P ops C oi v b→rYields P ops C oi v (b.put oj.dst u):=fun b u hb=>hb.same (execOp_put (ops:=ops) oi hsi b oj.dst u g3) (wanted_put oi b oj.dst u g3);have kd:∀ d,rYields P ops C oi v { a with defers:=d :: a.defers }:=fun d=>hy.same rfl rfl;have cm:∀ (b:Act) u,(b.put oi.dst v).put oj.dst u=(b.put oj.dst u).put oi.dst v:=fun b u=>Act.put_comm b v u g2;unfold wpOp at h ⊢;simp only [hj,e2] at h ⊢;cases hw:Region.wanted oj (yielded ops a.tmps) with
 | false=>
  simp only [hw,jBb,jDf] at h ⊢;exact ⟨kp a _ hy,by rw [←cm];exact h⟩
 | true=>
  simp only [hw,jDs] at h ⊢;rcases h with h | ⟨h,hl⟩
  ·left
   unfold Oper.wp at h ⊢;rw [e1] at h;generalize (execOp a.eval oj).run P w=r at h ⊢
   cases r with
   | halt x w'=>cases x <;> first | exact hQ _ _ _ _ _ h | exact h
   | ok n w'=>
    cases n <;> simp only [Oper.upon] at h ⊢
    case value u=>exact ⟨kp a u hy,by rw [←cm];exact h⟩
    case skip=>exact ⟨kp a _ hy,by rw [←cm];exact h⟩
    case defer d=>exact ⟨kp _ _ (kd d),by rw [←cm,←Act.put_defers];exact h⟩
    case enter f args=>
     refine Calls.mono h fun e w2 he=>?_;cases e with
     | returned u=>exact ⟨kp a u hy,by rw [←cm];exact he⟩
     | panicked c=>exact hQ _ _ _ _ _ he
     | outgrown=>exact he
    case row row args=>exact Rows.mono h fun u w2 he=>⟨kp a u hy,by rw [←cm];exact he⟩
  ·right
   exact ⟨by unfold Oper.asks at h ⊢;rw [e1] at h;exact h,hl⟩
theorem rYields.sub {C C':World→Prop} {o:Oper} {v:Value} {a:Act} (h:rYields P ops C o v a) (hs:∀ x,C' x→C x):rYields P ops C' o v a:=
 h.imp (fun ⟨h1,h2⟩=>⟨h1,fun w hw=>h2 w (hs w hw)⟩) id
theorem zEn {i:Nat} {o:Oper} {rest:Plan} {C:World→Prop} {v:Value} {a:Act} {w:World} (ho:ops[i]? = some o) (hy:rYields P ops C o v a) (h:flow P ops n Q rest C (a.put o.dst v) w):flow P ops n Q (.run i rest) C a w:=by
 refine ⟨o,ho,?_⟩;rcases hy with ⟨h1,h2⟩ | ⟨h1,rfl⟩
 ·rw [jAc h1];exact ⟨v,h2,h⟩
 ·rw [jA0 (by rw [h1];simp)];exact h
theorem zE6 {i:Nat} {rest:Plan} {C:World→Prop} {a:Act} {w:World} (h:flow P ops n Q (.run i rest) C a w):∃ o v,ops[i]? = some o∧rYields P ops C o v a∧flow P ops n Q rest C (a.put o.dst v) w:=by
 obtain ⟨o,ho,h⟩:=h;cases hw:Region.wanted o (yielded ops a.tmps) with
 | true=>
  rw [jAc hw] at h;obtain ⟨v,h1,h2⟩:=h;exact ⟨o,v,ho,.inl ⟨hw,h1⟩,h2⟩
 | false=>
  rw [jA0 (by rw [hw];simp)] at h;exact ⟨o,undef,ho,.inr ⟨hw,rfl⟩,h⟩
theorem zL1 (hsel : Region.noSelect ops = true) {C : World → Prop} {i : Nat} {w : World} : ∀ (pl : Plan) (l : Array Bool) (a : Act), planB md n ops [] pl l = true → i ∈ Region.ready md ops l → i ∈ pl.runs → flow P ops n Q pl C a w →
    ∃ o v,ops[i]? = some o∧rYields P ops C o v a∧flow P ops n Q (pl.drop i) C (a.put o.dst v) w∧planB md n ops [] (pl.drop i) (l.setIfInBounds i true)=true
 | .run j r,l,a,hB,hr,hm,hf=>by
  simp only [planB,jA3,jEr,jE8] at hB;obtain ⟨⟨⟨hjn,hjr⟩,hfr⟩,hB⟩:=hB;have hjr':j∈Region.ready md ops l:=by simpa using hjr
  obtain ⟨oj,u,hoj,hyj,hf⟩:=zE6 hf;by_cases hji:j=i
  ·subst hji;simp only [Plan.drop,jDs];exact ⟨oj,u,hoj,hyj,hf,hB⟩
  ·have hm' : i ∈ r.runs := by
     simp only [Plan.runs,jA1] at hm;rcases hm with hm | hm
     ·exact absurd hm.symm hji
     ·exact hm
   obtain ⟨oi,v,hoi,hyi,hfi,hBi⟩:=zL1 hsel r _ _ hB (ready_mono hr (Ne.symm hji)) hm' hf;obtain ⟨g1,g2,g3⟩:=Oper.apart_spec (zNf hoj hfr hji (mem_ready.1 hjr').1 hoi hr);have s:=fun k o (ho:ops[k]? = some o) cs b=>Region.noSelect_spec hsel k o cs b ho;have hyi':rYields P ops C oi v a:=hyi.same (execOp_put (ops:=ops) oi (s i oi hoi) a oj.dst u g1).symm (wanted_put oi a oj.dst u g1).symm;have hyj':rYields P ops C oj u (a.put oi.dst v):=hyj.same (execOp_put (ops:=ops) oj (s j oj hoj) a oi.dst v g3) (wanted_put oj a oi.dst v g3);refine ⟨oi,v,hoi,hyi',?_,?_⟩
   ·simp only [Plan.drop,jA0 hji];refine zEn hoj hyj' ?_;rw [←Act.put_comm a u v g2];exact hfi
   ·simp only [Plan.drop,jA0 hji,planB,jA3,jEr,jE8];refine ⟨⟨⟨hjn,by simpa using ready_mono hjr' hji⟩,zL0 hfr⟩,?_⟩;rw [jBz _ _ (Ne.symm hji)];exact hBi
 | .alt _ _ _,_,_,_,_,hm,_=>by cases hm
 | .stop,_,_,_,_,hm,_=>by cases hm
 | .tail,_,_,_,_,hm,_=>by cases hm
theorem zFu (hsel : Region.noSelect ops = true) (hQ : ∀ c x v a w, Q (.panic c) (Act.put a x v) w → Q (.panic c) a w) {C : World → Prop} {i : Nat} {w0 w : World} (hw : Ext w0 w) : ∀ (pl : Plan) (seen : List Nat) (l : Array Bool) (a : Act), planB md n ops seen pl l = true → i ∈ Region.ready md ops l →
    i ∉ pl.runs→i ∉ seen→i < n→flow P ops n Q pl C a w0 →
    wpOp P ops Q i (fun a' w'=>∃ C':World→Prop,(∀ x,C' x→C x)∧(∀ x y,Ext x y→C' x→C' y)∧C' w'∧flow P ops n Q (pl.goto i) C' a' w') a w∧planB md n ops [] (pl.goto i) (l.setIfInBounds i true)=true
 | .run j r,seen,l,a,hB,hr,hm,_,hin,hf=>by
  simp only [planB,jA3] at hB;obtain ⟨⟨⟨⟨hjn,_⟩,hjr⟩,hfr⟩,hB⟩:=hB;have hjr':j∈Region.ready md ops l:=by simpa using hjr
  have hji:j≠i:=fun e=>hm (by rw [e];exact jAo);obtain ⟨oj,u,hoj,hyj,hf⟩:=zE6 hf;obtain ⟨h1,h2⟩:=zFu hsel hQ hw r [] _ _ hB (ready_mono hr (Ne.symm hji)) (fun h=>hm (jAi _ h)) (by simp) hin hf;obtain ⟨_,oi,hoi,_⟩:=mem_ready.1 hr;have s:=fun k o (ho:ops[k]? = some o) cs b=>Region.noSelect_spec hsel k o cs b ho;have hap:=zNf hoj hfr hji (mem_ready.1 hjr').1 hoi hr;refine ⟨wpOp_mono (fun a' w' h=>?_) (wpOp_putR hoi hap (s j oj hoj) (s i oi hoi) hQ hyj h1),?_⟩
  ·obtain ⟨hy,C',hs,hc,hC,hf⟩:=h;exact ⟨C',hs,hc,hC,zEn hoj (rYields.sub hy hs) hf⟩
  ·simp only [Plan.goto,planB,jA3,jEr,jE8];refine ⟨⟨⟨hjn,by simpa using ready_mono hjr' hji⟩,zL0 hfr⟩,?_⟩;rw [jBz _ _ (Ne.symm hji)];exact h2
 | .alt k a2 o,seen,l,a,hB,hr,hm,hs,hin,hf=>by
  simp only [planB,jA3] at hB;obtain ⟨⟨⟨_,_⟩,hB1⟩,hB2⟩:=hB;obtain ⟨⟨ok,hok,h1⟩,h2⟩:=hf;by_cases hki:k=i
  ·subst hki;simp only [Plan.goto,jDs];refine ⟨?_,hB1⟩;have:=h1 w hw;unfold wpOp;simp only [hok];split
   ·rename_i hwt;rw [jAc hwt] at this;exact .inl this
   ·rename_i hwt;rw [jA0 hwt] at this;exact this
  ·simp only [Plan.goto,jA0 hki];have hs':i ∉ k :: seen:=fun h=>by
    rcases jA1.1 h with h | h
    ·exact hki h.symm
    ·exact hs h
   cases o with
   | run j r=>simp [planB] at hB2
   | alt k2 a3 o2=>exact zFu hsel hQ hw (.alt k2 a3 o2) _ _ _ hB2 hr (by simp [Plan.runs]) hs' hin h2
   | stop=>exact zFu hsel hQ hw .stop _ _ _ hB2 hr (by simp [Plan.runs]) hs' hin h2
   | tail=>simp [planB] at hB2
 | .stop,seen,l,a,hB,hr,_,hs,_,_=>by
  simp only [planB,jA3] at hB;have:=jCf.1 hB.2 i hr;exact absurd (by simpa using this) hs
 | .tail,seen,l,a,hB,hr,_,hs,hin,_=>by
  simp only [planB,jA3] at hB;have:=seqB_ready hB.2 i hr;omega
def undone (n:Nat) (l:Array Bool):Nat:=((List.range n).filter fun i => !l.getD i true).length
theorem zHb {p q:Nat→Bool} {x:Nat}:∀ {l:List Nat},(∀ y,q y=true→p y=true)→x∈l→p x=true→q x=false→(l.filter q).length < (l.filter p).length
 | [],_,hx,_,_=>by cases hx
 | y :: l,h,hx,hp,hq=>by
  have le:∀ l:List Nat,(l.filter q).length≤(l.filter p).length:=fun l=>by
   induction l with
   | nil=>simp
   | cons z l ih=>
    cases hz:q z with
    | true=>rw [jB2 hz,jB2 (h z hz)];simpa using ih
    | false=>
     rw [jB7 (by rw [hz];simp)];cases hz2:p z with
     | true=>rw [jB2 hz2,jAm];omega
     | false=>rw [jB7 (by rw [hz2];simp)];exact ih
  rcases jA1.1 hx with rfl | hx
  ·rw [jB2 hp,jB7 (by rw [hq];simp),jAm];have:=le l;omega
  ·have ih:=zHb h hx hp hq;cases hz:q y with
   | true=>rw [jB2 hz,jB2 (h y hz)];simpa using ih
   | false=>
    rw [jB7 (by rw [hz];simp)];cases hz2:p y with
    | true=>rw [jB2 hz2,jAm];omega
    | false=>rw [jB7 (by rw [hz2];simp)];exact ih
theorem undone_set {l:Array Bool} {i:Nat} (hi:i < n) (hs:l.size=ops.size) (hi2:i < ops.size) (hu:l.getD i true=false):undone n (l.setIfInBounds i true) < undone n l:=by
 refine zHb (x:=i) (fun y hy=>?_) (jBh.2 hi) (by rw [hu];rfl) (by simp [hs,hi2]);by_cases hiy:i=y
 ·subst hiy;rw [hu];rfl
 ·rw [getD_set_ne true hiy] at hy;exact hy
theorem zIg:∀ (f:Nat) (l:Array Bool) (a:Act) (w:World),wpAny P md ops Q f l a w→wpAny P md ops Q (f+1) l a w
 | 0,l,a,w,h=>⟨fun _=>h.2,fun i hi=>by rw [h.1] at hi;cases hi⟩
 | f+1,l,a,w,h=>⟨h.1,fun i hi=>wpOp_mono (fun a' w' h'=>zIg f _ a' w' h') (h.2 i hi)⟩
theorem wpAny_le {f g:Nat} (hfg:f≤g) {l:Array Bool} {a:Act} {w:World} (h:wpAny P md ops Q f l a w):wpAny P md ops Q g l a w:=by
 induction hfg with
 | refl=>exact h
 | step _ ih=>exact zIg _ _ _ _ ih
theorem zIz (hsel:Region.noSelect ops=true) (hn:n < ops.size) (hsk:Region.sinkB md ops n=true) (hch:Region.chainB md ops n=true) (hQ:∀ c x v a w,Q (.panic c) (Act.put a x v) w→Q (.panic c) a w):∀ (f:Nat) (pl:Plan) (C:World→Prop) (l:Array Bool) (a:Act) (w0 w:World),planB md n ops [] pl l=true→HeadInv md ops n l→undone n l+(ops.size - n)≤f→(∀ x y,Ext x y→C x→C y)→C w→Ext w0 w→flow P ops n Q pl C a w0→wpAny P md ops Q f l a w:=by
 intro f;induction f with
 | zero=>intro pl C l a w0 w hB hs hu _ _ hw hf;omega
 | succ f ih=>
  intro pl C l a w0 w hB inv hu hc hC hw hf;by_cases hnt:pl=.tail
  ·subst hnt;simp only [planB,jA3,jEr,true_and] at hB;have hl:(ops.toList.drop n).length=ops.size - n:=by simp
   refine wpAny_le (f:=ops.size - n) (by omega) ?_;rw [←hl];exact wpAny_of_seq _ n l a w (fun j=>by simp [jCr]) (by rw [hl];exact hB) (hf w hw)
  have hne:Region.ready md ops l≠[]:=fun hr=>by
   cases pl with
   | run i r=>simp [planB,hr] at hB
   | alt h a2 o=>simp [planB,hr] at hB
   | stop=>simp [planB] at hB
   | tail=>exact hnt rfl
  refine ⟨fun hr=>absurd hr hne,fun i hi=>?_⟩;obtain ⟨h0,o,ho,_⟩:=mem_ready.1 hi;have hisz:=(jBg.1 ho).1;rcases jCm i n with hin | hin
  ·have hlt:=undone_set (ops:=ops) hin inv.size hisz h0;by_cases hm:i∈pl.runs
   ·obtain ⟨oi,v,hoi,hy,hf2,hB2⟩:=zL1 hsel pl l a hB hi hm hf;exact zB0 hoi hC hy fun w' hw'=>ih _ C _ _ w0 w' hB2 (inv.set hi hin) (by omega) hc (hc _ _ hw' hC) (Ext.trans hw hw') hf2
   ·obtain ⟨h1,hB2⟩:=zFu hsel hQ hw pl [] l a hB hi hm (by simp) hin hf;refine wpOp_mono (fun a' w' h=>?_) h1;obtain ⟨C',_,hc',hC',hf2⟩:=h;exact ih _ C' _ _ w' w' hB2 (inv.set hi hin) (by omega) hc' hC' (Below.refl _ _) hf2
  ·exfalso
   have hdone:∀ j,j < n→l.getD j true=true:=fun j hj=>by
    cases h:l.getD j true with
    | true=>rfl
    | false=>exact absurd hi (tail_waits hsk hch hn inv _ j rfl hj h i hin)
   cases pl with
   | run j r=>
    simp only [planB,jA3,jA4] at hB;have h1:j∈Region.ready md ops l:=by simpa using hB.1.1.2
    have:=(mem_ready.1 h1).1;rw [hdone j hB.1.1.1.1] at this;cases this
   | alt h a2 o=>
    simp only [planB,jA3,jA4] at hB;have h1:h∈Region.ready md ops l:=by simpa using hB.1.1.2
    have:=(mem_ready.1 h1).1;rw [hdone h hB.1.1.1] at this;cases this
   | stop=>simp [planB] at hB
   | tail=>exact hnt rfl
theorem wp_region_flow {id:Nat} {a:Act} {w:World} {l:List Oper} (n:Nat) (pl:Plan) (hm:P.follows .mixedOrders=true) (hB:(Region.noSelect l.toArray && decide (n < l.toArray.size) && Region.sinkB .any l.toArray n && Region.chainB .any l.toArray n && planB .any n l.toArray [] pl (Array.replicate l.toArray.size false))=true) (hQ:∀ c x v a w,Q (.panic c) (Act.put a x v) w→Q (.panic c) a w) {C:World→Prop} (hC:∀ w',Below w w w'→C w') (hc:∀ w',C w'→Below w w w') (h:flow P l.toArray n Q pl C a w):(Code.region id l.toArray true).wp P Q a w:=by
 simp only [jA3,jA4] at hB;obtain ⟨⟨⟨⟨h1,h2⟩,h3⟩,h4⟩,h5⟩:=hB;refine wp_region_any hm ?_;have hx:Ext w { w with drawn:=w.drawn+1 }:=⟨rfl,rfl,rfl,jA9 _,fun _ _=>rfl⟩;exact zIz h1 h2 h3 h4 hQ _ pl C _ a w _ h5 headInv0 (by
  have:=jCk (fun i => !(Array.replicate l.toArray.size false).getD i true) (List.range n);rw [jDv] at this;unfold undone;omega) (fun x y hxy hx=>hC _ (Ext.trans (a:=w) (hc _ hx) hxy)) (hC _ hx) hx h
theorem flow_at {k:Nat} {after other:Plan} {C:World→Prop} {a:Act} {w:World} {o:Oper} (hC:∀ x y,Ext x y→C x→C y) (ho:ops[k]? = some o) (h2:flow P ops n Q other C a w) (h:∀ w',Ext w w'→∀ K:Act→World→Prop,(∀ a' w2,C w2→flow P ops n Q after C a' w2→K a' w2)→if Region.wanted o (yielded ops a.tmps) then o.wp P a w' K Q else K (a.put o.dst undef) w'):flow P ops n Q (.alt k after other) C a w:=
 ⟨⟨o,ho,fun w' hw'=>h w' hw' _ fun _ _ h1 h2=>⟨C,fun _ h=>h,hC,h1,h2⟩⟩,h2⟩
end
end Go.Proofs.YtogffkimgmlilaaGreat.FT
