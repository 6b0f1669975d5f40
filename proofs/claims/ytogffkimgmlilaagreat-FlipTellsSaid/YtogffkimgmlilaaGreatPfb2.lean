/- Put together: Region. -/
import Derived.StillTail
import Derived.Below
import Derived.Lib.QuietBelow
import Derived.Handy
import Derived.Lib.Hide
import Derived.Test.YtogffkimgmlilaaGreatPfbAl
set_option maxRecDepth 100000
set_option maxHeartbeats 8000000
set_option linter.all false
namespace Go.Proofs.YtogffkimgmlilaaGreat
open Go.RowKit Go.Sort
section
instance:Coe Int Value:=⟨Value.int .i64⟩
instance:Coe Nat Value:=⟨fun n=>.int .i64 (n:Int)⟩
instance:Coe Unit Value:=⟨fun _=>.int .i64 0⟩
instance:CoeOut World Nat:=⟨fun w=>w.heap.size⟩
structure Pt0 where
 b:Nat
abbrev pt0 (b:Nat):Pt0:=⟨b⟩
instance (b:Nat):CoeDep Pt0 ⟨b⟩ Value:=⟨.pointer (some ⟨b,0,none⟩)⟩
theorem hdd {p:Prop} (h:p):RowKit.Hid p:=Lib.hid h
open Go.RowKit Go.Sort in
theorem rgB {w:World}:∀ w',Below w w w'→∃ p:Regrown,w'=grow (redrawn w p.d) p.os:=fun _ h=>regrown_of_below h
theorem zAp {k:IntKind} {a b:Int} (h:a=b):Ending.returned (.int k a)=.returned (.int k b):=by rw [h]
theorem zB9 {a b:Bool} (h:a=b):Ending.returned (.bool a)=.returned (.bool b):=by rw [h]
theorem zA1 {P:Program} {c:Code} {Q:Exit→Act→World→Prop} {a:Act} {W0:World} (h:∀ W,W=W0→c.wp P Q a W):c.wp P Q a W0:=h W0 rfl
theorem bcell {n:Nat} {W w1:World} (hb:Below n W w1) (hn:n=W.heap.size):(∀ b o,b < n→w1.cell? ⟨b,o,none⟩=W.cell? ⟨b,o,none⟩)∧(∀ b o,b < n→w1.frozen? ⟨b,o,none⟩=W.frozen? ⟨b,o,none⟩)∧(∀ b,b < n→b < w1.heap.size)∧(∀ b,b < n→(b=w1.heap.size)=False)∧(∀ b,b < n→(w1.heap.size=b)=False):=
 ⟨fun b o h=>hb.cell (p:=⟨b,o,none⟩) h,fun b o h=>hb.frozen (p:=⟨b,o,none⟩) h,fun b h=>by have:=hn▸hb.size;omega,
  fun b h=>by have:=hn▸hb.size;simp;omega,fun b h=>by have:=hn▸hb.size;simp;omega⟩
theorem cell?_none_set (w:World) (a:Addr) (v:Value) (h:w.cell? a=none):(w.setCell a v).cell? a=none:=by
 unfold World.cell? at h ⊢;simp only [World.setCell,jCn,↓reduceIte];cases hh:w.heap[a.block]? with
 | none=>rfl
 | some x=>
  rw [hh] at h;cases x with
  | cells c e f=>
   simp only [jDz];simp only at h;cases hs:a.spot.isSome with
   | true=>simp
   | false=>
    rw [hs] at h;simp only [jBb,jDf] at h ⊢;have:c.size≤a.off:=Array.getElem?_eq_none_iff.1 h;rw [Array.getElem?_eq_none_iff]
    simpa using this
  | _=>rfl
theorem cell_set (w:World) (a b:Addr) (v:Value):(w.setCell a v).cell? b=if a=b then (if (w.cell? a).isSome=true then some v else none) else w.cell? b:=by
 by_cases h:a=b
 ·subst h;rw [jAc rfl];cases hc:w.cell? a with
  | none=>simp [cell?_none_set w a v hc]
  | some u=>rw [World.cell?_setCell_same (h:=hc)];simp
 ·rw [jA0 h,World.cell?_setCell_other (h:=h)]
section
variable {P:Program} {ops:Array Oper} {md:Region.Mode} {C:World→Prop}
def Ext (w w':World):Prop:=Below w w w'
def rUpon (P:Program) (w:World) (v:Value):Result Next→Prop
 | .ok (.value u) w'=>w'=w∧u=v
 | .ok .skip w'=>w'=w∧v=undef
 | .ok (.enter f args) w'=>w'=w∧Calls P f args w (fun e w''=>e=.returned v∧Ext w w'')
 | _=>False
def rAt (P:Program) (o:Oper) (a:Act) (w:World) (v:Value):Prop:=rUpon P w v ((execOp a.eval o).run P w)
def rOper (P:Program) (o:Oper) (a:Act) (C:World→Prop) (next:Act→Prop):Prop:=∃ v,(∀ w,C w→rAt P o a w v)∧next (a.put o.dst v)
def rWalk (P:Program) (ops:Array Oper) (C:World→Prop) (Q:Act→Prop):List Oper→Act→Prop
 | [],a=>Q a
 | o :: rest,a=>if Region.wanted o (yielded ops a.tmps) then rOper P o a C (rWalk P ops C Q rest) else rWalk P ops C Q rest (a.put o.dst undef)
theorem rWalk_nil {Q:Act→Prop} {a:Act} (h:Q a):rWalk P ops C Q [] a:=h
theorem rWalk_step {Q:Act→Prop} {a:Act} {o:Oper} {rest:List Oper} (h:∀ K:Act→Prop,(∀ a,rWalk P ops C Q rest a→K a)→if Region.wanted o (yielded ops a.tmps) then rOper P o a C K else K (a.put o.dst undef)):rWalk P ops C Q (o :: rest) a:=
 h _ (fun _ h=>h)
def rYields (P:Program) (ops:Array Oper) (C:World→Prop) (o:Oper) (v:Value) (a:Act):Prop:=
 (Region.wanted o (yielded ops a.tmps)=true∧∀ w,C w→rAt P o a w v)∨(Region.wanted o (yielded ops a.tmps)=false∧v=undef)
theorem rYields.same {o:Oper} {v:Value} {a a':Act} (hy:rYields P ops C o v a) (he:execOp a'.eval o=execOp a.eval o) (hw:Region.wanted o (yielded ops a'.tmps)=Region.wanted o (yielded ops a.tmps)):rYields P ops C o v a':=by
 unfold rYields rAt at *;rw [he,hw];exact hy
theorem rYields.of_walk {o:Oper} {rest:List Oper} {Q:Act→Prop} {a:Act} (h:rWalk P ops C Q (o :: rest) a):∃ v,rYields P ops C o v a∧rWalk P ops C Q rest (a.put o.dst v):=by
 simp only [rWalk] at h;cases hw:Region.wanted o (yielded ops a.tmps) with
 | true=>
  rw [hw,jAc rfl] at h;obtain ⟨v,h1,h2⟩:=h;exact ⟨v,.inl ⟨hw,h1⟩,h2⟩
 | false=>
  rw [hw,jA0 (by simp)] at h;exact ⟨undef,.inr ⟨hw,rfl⟩,h⟩
def rAny (P:Program) (md:Region.Mode) (ops:Array Oper) (C:World→Prop) (n:Nat) (L:Array Bool→Act→Prop):Nat→Array Bool→Act→Prop
 | 0,listed,a=>L listed a
 | f+1,listed,a=>Region.ready md ops listed≠[] ∧
  ∀ i∈Region.ready md ops listed,i < n∧∃ o v,ops[i]? = some o∧rYields P ops C o v a∧rAny P md ops C n L f (listed.setIfInBounds i true) (a.put o.dst v)
def TailWaits (md:Region.Mode) (ops:Array Oper) (n:Nat) (listed:Array Bool):Prop:=
 ∀ i,i < n→listed.getD i true=false→∀ t,n≤t→t ∉ Region.ready md ops listed
theorem zEb {n i : Nat} {oi : Oper} {v : Value} {L : Array Bool → Act → Prop} (hi : ops[i]? = some oi) (hsel : ∀ (j : Nat) (o : Oper) cs b, ops[j]? = some o → o.op ≠ .select cs b)
    (hin:i < n) (Inv:Array Bool→Prop) (hinv:∀ listed j,Inv listed→j∈Region.ready md ops listed→j < n→Inv (listed.setIfInBounds j true))
    (htail:∀ listed,Inv listed→TailWaits md ops n listed)
    (hdone:∀ listed a,L listed a→∀ j∈Region.ready md ops listed,n≤j) :
    ∀ (f:Nat) (listed:Array Bool) (a:Act),Inv listed →
     (∀ j oj,ops[j]? = some oj→j≠i→listed.getD j true=false→(∀ e∈oj.after,Region.binds md e=true→e.on≠i)→oi.apart ops oj=true) →
     i∈Region.ready md ops listed→rYields P ops C oi v a →
     rAny P md ops C n L f (listed.setIfInBounds i true) (a.put oi.dst v)→rAny P md ops C n L (f+1) listed a:=by
 intro f;induction f with
 | zero=>
  intro listed a inv _ hr hy H;have hun:=(mem_ready.1 hr).1;refine ⟨fun h=>(by rw [h] at hr;cases hr),fun j hj=>?_⟩;have hjn:j < n:=by
   rcases jCm j n with h | h
   ·exact h
   ·exact absurd hj (htail _ inv i hin hun j h)
  by_cases hji:j=i
  ·subst hji;exact ⟨hjn,oi,v,hi,hy,H⟩
  ·have:=hdone _ _ H j (ready_mono hj hji);omega
 | succ f ih=>
  intro listed a inv hfree hr hy H;have hun:=(mem_ready.1 hr).1;refine ⟨fun h=>(by rw [h] at hr;cases hr),fun j hj=>?_⟩;have hjn:j < n:=by
   rcases jCm j n with h | h
   ·exact h
   ·exact absurd hj (htail _ inv i hin hun j h)
  by_cases hji:j=i
  ·subst hji;exact ⟨hjn,oi,v,hi,hy,H⟩
  ·obtain ⟨_,oj,u,hoj,hyj,hK⟩:=H.2 j (ready_mono hj hji);obtain ⟨hjun,oj',hoj',hall⟩:=mem_ready.1 hj;have hoo:oj'=oj:=jAl (hoj'.symm.trans hoj);subst hoo;have hnot:∀ e∈oj'.after,Region.binds md e=true→e.on≠i:=fun e he hb heq=>by
    have h1:=hall e he hb;rw [heq,getD_both hun] at h1;cases h1
   obtain ⟨h1,h2,h3⟩:=Oper.apart_spec (hfree j oj' hoj hji hjun hnot);have hyj':rYields P ops C oj' u a:=hyj.same (execOp_put oj' (fun cs b=>hsel j oj' cs b hoj) a oi.dst v h1).symm (wanted_put oj' a oi.dst v h1).symm;have hyi':rYields P ops C oi v (a.put oj'.dst u):=hy.same (execOp_put oi (fun cs b=>hsel i oi cs b hi) a oj'.dst u h3) (wanted_put oi a oj'.dst u h3);refine ⟨hjn,oj',u,hoj,hyj',?_⟩;refine ih (listed.setIfInBounds j true) _ (hinv _ _ inv hj hjn) (fun k ok hk hki hun' hno=>?_) (ready_mono hr (Ne.symm hji)) hyi' ?_
   ·refine hfree k ok hk hki ?_ hno;by_cases hjk:j=k
    ·subst hjk;exact hjun
    ·rw [getD_set_ne true hjk] at hun';exact hun'
   ·rw [jBz _ _ hji,←Act.put_comm a v u h2];exact hK
def orderB (md:Region.Mode) (ops:Array Oper) (n g:Nat):List Nat→Array Bool→Bool
 | [],listed=>Region.seqB md ops g n listed
 | k :: is,listed=>decide (k < n) && (Region.ready md ops listed).contains k && Region.free md ops listed k && orderB md ops n g is (listed.setIfInBounds k true)
theorem zBx {n g : Nat} {Lq : Act → Prop} (hsel : Region.noSelect ops = true) (Inv : Array Bool → Prop)
    (hinv:∀ listed j,Inv listed→j∈Region.ready md ops listed→j < n→Inv (listed.setIfInBounds j true)) (htail:∀ listed,Inv listed→TailWaits md ops n listed) :
    ∀ (is:List Nat) (l:List Oper) (listed:Array Bool) (a:Act),is.map (fun i=>ops[i]?)=l.map some→Inv listed→orderB md ops n g is listed=true→rWalk P ops C Lq l a →
     rAny P md ops C n (fun listed' a'=>Region.seqB md ops g n listed'=true∧Lq a') is.length listed a
 | [],[],listed,a,_,_,hB,h=>⟨hB,h⟩
 | [],_ :: _,_,_,hl,_,_,_=>by cases hl
 | _ :: _,[],_,_,hl,_,_,_=>by cases hl
 | k :: is,o :: l,listed,a,hl,inv,hB,h=>by
  simp only [jAv,jDy] at hl;obtain ⟨h0,hl⟩:=hl;simp only [orderB,jA3,jA4] at hB;obtain ⟨⟨⟨hkn,hr⟩,hf⟩,hB'⟩:=hB;have hr':k∈Region.ready md ops listed:=by simpa using hr
  obtain ⟨v,hy,hK⟩:=rYields.of_walk h;exact zEb h0 (Region.noSelect_spec hsel) hkn Inv hinv htail (fun listed' a' hL=>seqB_ready hL.1) is.length listed a inv (Region.free_spec h0 hf) hr' hy
   (zBx hsel Inv hinv htail is l _ _ hl (hinv _ _ inv hr' hkn) hB' hK)
theorem heap_new (w:World) (o:Obj):(w.alloc o).heap[w.heap.size]? = some o:=by
 show (w.heap.push o)[w.heap.size]? = some o;simp
theorem alloc_cell (w:World) (o:Obj) (b i:Nat) (h:(b=w.heap.size)=False):(w.alloc o).cell? ⟨b,i,none⟩=w.cell? ⟨b,i,none⟩:=
 World.cell?_alloc_old w o ⟨b,i,none⟩ (by simpa using h)
theorem alloc_frozen (w:World) (o:Obj) (b i:Nat) (h:(b=w.heap.size)=False):(w.alloc o).frozen? ⟨b,i,none⟩=w.frozen? ⟨b,i,none⟩:=by
 have h':b≠w.heap.size:=by simpa using h
 simp only [World.frozen?,World.alloc,jEx,jA0 h']
def Box (w:World) (b:Nat) (cs:List Value) (T:TypeId):Prop:=w.heap[b]? = some (.cells cs.toArray T (0,0))
theorem Box.f {w:World} {b:Nat} {cs:List Value} {T:TypeId} (h:Box w b cs T):(∀ i,w.cell? ⟨b,i,none⟩=cs[i]?)∧(∀ i,w.frozen? ⟨b,i,none⟩=false)∧((b=w.heap.size)=False)∧((w.heap.size=b)=False):=by
 have hb:b < w.heap.size:=by
  rcases jCm b w.heap.size with h' | h'
  ·exact h'
  ·unfold Box at h;rw [jE2 h'] at h;cases h
 refine ⟨fun i=>?_,fun i=>?_,by simp;omega,by simp;omega⟩
 ·unfold Box at h;simp [World.cell?,h]
 ·unfold Box at h;simp [World.frozen?,h]
theorem Box.lt {w:World} {b:Nat} {cs:List Value} {T:TypeId} (h:Box w b cs T):b < w.heap.size:=by
 rcases jCm b w.heap.size with h' | h'
 ·exact h'
 ·unfold Box at h;rw [jE2 h'] at h;cases h
theorem Box.ext {w w':World} {b n:Nat} {cs:List Value} {T:TypeId} (h:Box w b cs T) (hb:Below n w w') (hn:n=w.heap.size):Box w' b cs T:=by
 unfold Box at *;rw [hb.block b (hn▸Box.lt h)];exact h
theorem Box.ee {w w':World} {b:Nat} {cs:List Value} {T:TypeId} (h:Box w b cs T) (hb:Below w w w'):Box w' b cs T:=h.ext hb rfl
theorem Box.grown {w:World} {b:Nat} {cs:List Value} {T:TypeId} (h:Box w b cs T):∀ d os,Box (grow (redrawn w d) os) b cs T:=fun d os=>
 h.ext (below_regrown w d os) rfl
theorem Box.cells {w:World} {b:Nat} {cs:List Value} {T:TypeId} (h:Box w b cs T):∀ d os i,(grow (redrawn w d) os).cell? ⟨b,i,none⟩=cs[i]? := fun d os=>(h.grown d os).f.1
theorem heap_alloc (w:World) (o:Obj) (b:Nat):(w.alloc o).heap[b]? = if b=w.heap.size then some o else w.heap[b]? := by
 show (w.heap.push o)[b]? = _;rw [jEx]
theorem Box.new {w:World} {b:Nat} {cs:List Value} {T:TypeId} (hb:b=w.heap.size):Box (w.alloc (.cells cs.toArray T)) b cs T:=by
 unfold Box;rw [heap_alloc,jAc hb]
theorem Box.old {w:World} {b:Nat} {cs:List Value} {T:TypeId} (h:Box w b cs T) (o:Obj):Box (w.alloc o) b cs T:=by
 have:=Box.lt h;unfold Box at *;rw [heap_alloc,jA0 (by omega),h]
theorem Box.set {w:World} {b:Nat} {cs:List Value} {T:TypeId} (h:Box w b cs T) (i:Nat) (v:Value):Box (w.setCell ⟨b,i,none⟩ v) b (cs.set i v) T:=by
 unfold Box at *;simp only [World.setCell,jCn,↓reduceIte,h,jDz];simp
theorem Box.set_ne {w:World} {b:Nat} {cs:List Value} {T:TypeId} (h:Box w b cs T) (a:Addr) (v:Value) (hne:a.block≠b):Box (w.setCell a v) b cs T:=by
 unfold Box at *;simp only [World.setCell,jCn];rw [jA0 hne,h]
theorem Box.sn {w:World} {b:Nat} {cs:List Value} {T:TypeId} (h:Box w b cs T) (k i:Nat) (v:Value) (hk:k≠b:=by first | assumption | omega):Box (w.setCell ⟨k,i,none⟩ v) b cs T:=h.set_ne ⟨k,i,none⟩ v hk
theorem zA4 {P:Program} {f:FuncId} {args:Array Value} {R:Ending→World→Prop} {W0:World} (h:∀ W,W=W0→Calls P f args W R):Calls P f args W0 R:=h W0 rfl
theorem Ext.trans {a b c:World} (h:Ext a b) (k:Ext b c):Ext a c:=Below.trans h (Below.mono k h.size)
theorem zB0 {i:Nat} {o:Oper} {v:Value} {a:Act} {K:Act→World→Prop} {Q:Exit→Act→World→Prop} {w:World} (hi:ops[i]? = some o) (hC:C w) (hy:rYields P ops C o v a) (h:∀ w',Ext w w'→K (a.put o.dst v) w'):wpOp P ops Q i K a w:=by
 have hrefl:Ext w w:=Below.refl _ _;unfold wpOp;simp only [hi];rcases hy with ⟨hw,hv⟩ | ⟨hw,rfl⟩
 ·rw [jAc hw];refine .inl ?_;have h3:=hv w hC;unfold rAt at h3;unfold Oper.wp;generalize (execOp a.eval o).run P w=r at *
  cases r with
  | ok n w'=>
   cases n <;> simp only [rUpon] at h3 <;> simp only [Oper.upon]
   case value u=>obtain ⟨e1,e2⟩:=h3;rw [e1,e2];exact h _ hrefl
   case skip=>obtain ⟨e1,e2⟩:=h3;rw [e1,←e2];exact h _ hrefl
   case enter f args=>
    obtain ⟨e1,hc⟩:=h3;rw [e1];exact hc.mono fun e w'' ⟨he,hw''⟩=>by subst he;exact h _ hw''
  | halt x w'=>simp only [rUpon] at h3
 ·rw [hw,jA0 (by simp)];exact h _ hrefl
theorem zBh {n g : Nat} {Q : Exit → Act → World → Prop} {Lq : Act → Prop} {l : List Oper} {dst : Option Tmp} {u : Value} {D : World → Prop} (hsel : Region.noSelect ops = true)
    (hg:l.length=g) (hl:∀ j,l[j]? = ops[n+j]?) (hD:∀ w,D w→C w) (hDe:∀ w w',D w→Ext w w'→D w')
    (J:Nat→Prop) (hap:∀ i o,i < n→¬ J i→ops[i]? = some o→(∀ d,dst=some d→d ∉ o.looksAt ops)∧(∀ d,dst=some d→o.dst≠some d))
    (hQ:∀ a w,D w→Lq a→wpList P ops Q l (a.put dst u) w) :
    ∀ (f:Nat) (listed:Array Bool) (a:Act) (w:World),D w→(∀ i,J i→listed.getD i true=true) →
     rAny P md ops C n (fun listed' a'=>Region.seqB md ops g n listed'=true∧Lq a') f listed a→wpAny P md ops Q (f+g) listed (a.put dst u) w
 | 0,listed,a,w,hw,_,h=>by
  rw [jCa];subst hg;exact wpAny_of_seq l n listed _ w hl h.1 (hQ a w hw h.2)
 | f+1,listed,a,w,hw,hJ,h=>by
  rw [show f+1+g=(f+g)+1 by omega];refine ⟨fun h0=>absurd h0 h.1,fun i hi=>?_⟩;obtain ⟨hin,o,v,ho,hy,hK⟩:=h.2 i hi;have hiun:=(mem_ready.1 hi).1;have hnJ:¬ J i:=fun hj=>by rw [hJ i hj] at hiun;cases hiun
  obtain ⟨h1,h2⟩:=hap i o hin hnJ ho;have hy':rYields P ops C o v (a.put dst u):=hy.same (execOp_put o (fun cs b=>Region.noSelect_spec hsel i o cs b ho) a dst u h1) (wanted_put o a dst u h1);refine zB0 ho (hD w hw) hy' fun w' hw'=>?_;rw [Act.put_comm a u v h2];refine zBh hsel hg hl hD hDe J hap hQ f _ _ w' (hDe _ _ hw hw') (fun k hk=>?_) hK;by_cases hik:i=k
  ·subst hik;exact absurd hk hnJ
  ·rw [getD_set_ne true hik];exact hJ k hk
def plainB (md:Region.Mode) (ops:Array Oper) (n:Nat):Bool:=
 Region.noSelect ops && decide (n < ops.size) && Region.sinkB md ops n && Region.chainB md ops n && orderB md ops n (ops.size - n) (List.range n) (Array.replicate ops.size false)
theorem headInv0 {n:Nat}:HeadInv md ops n (Array.replicate ops.size false):=
 ⟨by simp,fun j oj _ hl=>(by rw [getD_replicate_false] at hl;cases hl),fun t _ ht=>getD_in (by simpa using ht) (getD_replicate_false _ _)⟩
theorem wp_region_tail {id:Nat} {Q:Exit→Act→World→Prop} {a:Act} {w:World} {l:List Oper} (n:Nat) (hm:P.follows .mixedOrders=true) (hB:plainB .any l.toArray n=true) (hC:∀ w',Below w w w'→C w') (h:rWalk P l.toArray C (fun a'=>∀ w',Below w w w'→wpList P l.toArray Q (l.drop n) a' w') (l.take n) a):(Code.region id l.toArray true).wp P Q a w:=by
 simp only [plainB,jA3,jA4] at hB;obtain ⟨⟨⟨⟨hsel,hn⟩,hs⟩,hc⟩,ho⟩:=hB;have hn':n < l.length:=by simpa using hn
 have hmap:(List.range n).map (fun i=>l.toArray[i]?)=(l.take n).map some:=by
  apply jD4;intro j;simp only [jDj,jBw];by_cases hj:j < n
  ·simp [hj,show j < l.length by omega]
  ·simp [hj]
 have H:=zBx (md:=.any) (g:=l.toArray.size - n) hsel (HeadInv .any l.toArray n) (fun listed j inv hj hjn=>inv.set hj hjn) (fun listed inv i hi hun=>tail_waits hs hc hn inv _ i rfl hi hun)
  (List.range n) (l.take n) _ a hmap headInv0 ho h
 refine wp_region_any hm ?_;have:=zBh (md:=.any) (Q:=Q) (l:=l.drop n) (dst:=none) (u:=undef) (D:=fun w'=>Below w w w') hsel (by simp) (fun j=>by simp [jCr])
  hC (fun a b ha hb=>Ext.trans (a:=w) ha hb) (fun _=>False) (fun i o _ _ _=>⟨fun d hd=>(by cases hd),fun d hd=>(by cases hd)⟩)
  (fun a' w' hw' hl=>hl w' hw') _ _ _ { w with drawn:=w.drawn+1 } ⟨rfl,rfl,rfl,jA9 _,fun _ _=>rfl⟩ (fun i hi=>hi.elim) H
 rw [jDv,show n+(l.toArray.size - n)=l.toArray.size by omega] at this;exact this
end
abbrev Rt (w:World) (v:Value):Ending→World→Prop:=fun e w'=>e=.returned v∧Below w w w'
theorem wrt {P : Program} {id : Nat} {Q : Exit → Act → World → Prop} {a : Act} {w : World} {l : List Oper} (n : Nat) (hm : P.follows .mixedOrders = true) (hB : plainB .any l.toArray n = true)
  (h:rWalk P l.toArray (fun w'=>∃ p:Regrown,w'=grow (redrawn w p.d) p.os) (fun a'=>∀ w',Below w w w'→wpList P l.toArray Q (l.drop n) a' w') (l.take n) a):(Code.region id l.toArray true).wp P Q a w:=wp_region_tail n hm hB (fun _ h=>regrown_of_below h) h
theorem qX2 {w0 w w':World} {b0 b1:Nat} {c0 c1:List Value} {T0 T1:TypeId} (h0:Box w b0 c0 T0) (h1:Box w b1 c1 T1) (hw:Below w0 w0 w) (hb:Below w w w'):Box w' b0 c0 T0∧Box w' b1 c1 T1∧Below w0 w0 w'∧(((∀ i,w'.cell? ⟨b0,i,none⟩=c0[i]?)∧(∀ i,w'.frozen? ⟨b0,i,none⟩=false)∧((b0=w'.heap.size)=False)∧((w'.heap.size=b0)=False))∧((∀ i,w'.cell? ⟨b1,i,none⟩=c1[i]?)∧(∀ i,w'.frozen? ⟨b1,i,none⟩=false)∧((b1=w'.heap.size)=False)∧((w'.heap.size=b1)=False))):=
 ⟨h0.ext hb rfl,h1.ext hb rfl,hw.trans (hb.mono hw.size),⟨(h0.ext hb rfl).f,(h1.ext hb rfl).f⟩⟩
theorem qX3 {w0 w w':World} {b0 b1 b2:Nat} {c0 c1 c2:List Value} {T0 T1 T2:TypeId} (h0:Box w b0 c0 T0) (h1:Box w b1 c1 T1) (h2:Box w b2 c2 T2) (hw:Below w0 w0 w) (hb:Below w w w'):Box w' b0 c0 T0∧Box w' b1 c1 T1∧Box w' b2 c2 T2∧Below w0 w0 w'∧(((∀ i,w'.cell? ⟨b0,i,none⟩=c0[i]?)∧(∀ i,w'.frozen? ⟨b0,i,none⟩=false)∧((b0=w'.heap.size)=False)∧((w'.heap.size=b0)=False))∧((∀ i,w'.cell? ⟨b1,i,none⟩=c1[i]?)∧(∀ i,w'.frozen? ⟨b1,i,none⟩=false)∧((b1=w'.heap.size)=False)∧((w'.heap.size=b1)=False))∧((∀ i,w'.cell? ⟨b2,i,none⟩=c2[i]?)∧(∀ i,w'.frozen? ⟨b2,i,none⟩=false)∧((b2=w'.heap.size)=False)∧((w'.heap.size=b2)=False))):=
 ⟨h0.ext hb rfl,h1.ext hb rfl,h2.ext hb rfl,hw.trans (hb.mono hw.size),⟨(h0.ext hb rfl).f,(h1.ext hb rfl).f,(h2.ext hb rfl).f⟩⟩
theorem qX4 {w0 w w':World} {b0 b1 b2 b3:Nat} {c0 c1 c2 c3:List Value} {T0 T1 T2 T3:TypeId} (h0:Box w b0 c0 T0) (h1:Box w b1 c1 T1) (h2:Box w b2 c2 T2) (h3:Box w b3 c3 T3) (hw:Below w0 w0 w) (hb:Below w w w'):Box w' b0 c0 T0∧Box w' b1 c1 T1∧Box w' b2 c2 T2∧Box w' b3 c3 T3∧Below w0 w0 w'∧(((∀ i,w'.cell? ⟨b0,i,none⟩=c0[i]?)∧(∀ i,w'.frozen? ⟨b0,i,none⟩=false)∧((b0=w'.heap.size)=False)∧((w'.heap.size=b0)=False))∧((∀ i,w'.cell? ⟨b1,i,none⟩=c1[i]?)∧(∀ i,w'.frozen? ⟨b1,i,none⟩=false)∧((b1=w'.heap.size)=False)∧((w'.heap.size=b1)=False))∧((∀ i,w'.cell? ⟨b2,i,none⟩=c2[i]?)∧(∀ i,w'.frozen? ⟨b2,i,none⟩=false)∧((b2=w'.heap.size)=False)∧((w'.heap.size=b2)=False))∧((∀ i,w'.cell? ⟨b3,i,none⟩=c3[i]?)∧(∀ i,w'.frozen? ⟨b3,i,none⟩=false)∧((b3=w'.heap.size)=False)∧((w'.heap.size=b3)=False))):=
 ⟨h0.ext hb rfl,h1.ext hb rfl,h2.ext hb rfl,h3.ext hb rfl,hw.trans (hb.mono hw.size),⟨(h0.ext hb rfl).f,(h1.ext hb rfl).f,(h2.ext hb rfl).f,(h3.ext hb rfl).f⟩⟩
theorem qX5 {w0 w w':World} {b0 b1 b2 b3 b4:Nat} {c0 c1 c2 c3 c4:List Value} {T0 T1 T2 T3 T4:TypeId} (h0:Box w b0 c0 T0) (h1:Box w b1 c1 T1) (h2:Box w b2 c2 T2) (h3:Box w b3 c3 T3) (h4:Box w b4 c4 T4) (hw:Below w0 w0 w) (hb:Below w w w'):Box w' b0 c0 T0∧Box w' b1 c1 T1∧Box w' b2 c2 T2∧Box w' b3 c3 T3∧Box w' b4 c4 T4∧Below w0 w0 w'∧(((∀ i,w'.cell? ⟨b0,i,none⟩=c0[i]?)∧(∀ i,w'.frozen? ⟨b0,i,none⟩=false)∧((b0=w'.heap.size)=False)∧((w'.heap.size=b0)=False))∧((∀ i,w'.cell? ⟨b1,i,none⟩=c1[i]?)∧(∀ i,w'.frozen? ⟨b1,i,none⟩=false)∧((b1=w'.heap.size)=False)∧((w'.heap.size=b1)=False))∧((∀ i,w'.cell? ⟨b2,i,none⟩=c2[i]?)∧(∀ i,w'.frozen? ⟨b2,i,none⟩=false)∧((b2=w'.heap.size)=False)∧((w'.heap.size=b2)=False))∧((∀ i,w'.cell? ⟨b3,i,none⟩=c3[i]?)∧(∀ i,w'.frozen? ⟨b3,i,none⟩=false)∧((b3=w'.heap.size)=False)∧((w'.heap.size=b3)=False))∧((∀ i,w'.cell? ⟨b4,i,none⟩=c4[i]?)∧(∀ i,w'.frozen? ⟨b4,i,none⟩=false)∧((b4=w'.heap.size)=False)∧((w'.heap.size=b4)=False))):=
 ⟨h0.ext hb rfl,h1.ext hb rfl,h2.ext hb rfl,h3.ext hb rfl,h4.ext hb rfl,hw.trans (hb.mono hw.size),⟨(h0.ext hb rfl).f,(h1.ext hb rfl).f,(h2.ext hb rfl).f,(h3.ext hb rfl).f,(h4.ext hb rfl).f⟩⟩
theorem qX6 {w0 w w':World} {b0 b1 b2 b3 b4 b5:Nat} {c0 c1 c2 c3 c4 c5:List Value} {T0 T1 T2 T3 T4 T5:TypeId} (h0:Box w b0 c0 T0) (h1:Box w b1 c1 T1) (h2:Box w b2 c2 T2) (h3:Box w b3 c3 T3) (h4:Box w b4 c4 T4) (h5:Box w b5 c5 T5) (hw:Below w0 w0 w) (hb:Below w w w'):Box w' b0 c0 T0∧Box w' b1 c1 T1∧Box w' b2 c2 T2∧Box w' b3 c3 T3∧Box w' b4 c4 T4∧Box w' b5 c5 T5∧Below w0 w0 w'∧(((∀ i,w'.cell? ⟨b0,i,none⟩=c0[i]?)∧(∀ i,w'.frozen? ⟨b0,i,none⟩=false)∧((b0=w'.heap.size)=False)∧((w'.heap.size=b0)=False))∧((∀ i,w'.cell? ⟨b1,i,none⟩=c1[i]?)∧(∀ i,w'.frozen? ⟨b1,i,none⟩=false)∧((b1=w'.heap.size)=False)∧((w'.heap.size=b1)=False))∧((∀ i,w'.cell? ⟨b2,i,none⟩=c2[i]?)∧(∀ i,w'.frozen? ⟨b2,i,none⟩=false)∧((b2=w'.heap.size)=False)∧((w'.heap.size=b2)=False))∧((∀ i,w'.cell? ⟨b3,i,none⟩=c3[i]?)∧(∀ i,w'.frozen? ⟨b3,i,none⟩=false)∧((b3=w'.heap.size)=False)∧((w'.heap.size=b3)=False))∧((∀ i,w'.cell? ⟨b4,i,none⟩=c4[i]?)∧(∀ i,w'.frozen? ⟨b4,i,none⟩=false)∧((b4=w'.heap.size)=False)∧((w'.heap.size=b4)=False))∧((∀ i,w'.cell? ⟨b5,i,none⟩=c5[i]?)∧(∀ i,w'.frozen? ⟨b5,i,none⟩=false)∧((b5=w'.heap.size)=False)∧((w'.heap.size=b5)=False))):=
 ⟨h0.ext hb rfl,h1.ext hb rfl,h2.ext hb rfl,h3.ext hb rfl,h4.ext hb rfl,h5.ext hb rfl,hw.trans (hb.mono hw.size),⟨(h0.ext hb rfl).f,(h1.ext hb rfl).f,(h2.ext hb rfl).f,(h3.ext hb rfl).f,(h4.ext hb rfl).f,(h5.ext hb rfl).f⟩⟩
theorem qX7 {w0 w w':World} {b0 b1 b2 b3 b4 b5 b6:Nat} {c0 c1 c2 c3 c4 c5 c6:List Value} {T0 T1 T2 T3 T4 T5 T6:TypeId} (h0:Box w b0 c0 T0) (h1:Box w b1 c1 T1) (h2:Box w b2 c2 T2) (h3:Box w b3 c3 T3) (h4:Box w b4 c4 T4) (h5:Box w b5 c5 T5) (h6:Box w b6 c6 T6) (hw:Below w0 w0 w) (hb:Below w w w'):Box w' b0 c0 T0∧Box w' b1 c1 T1∧Box w' b2 c2 T2∧Box w' b3 c3 T3∧Box w' b4 c4 T4∧Box w' b5 c5 T5∧Box w' b6 c6 T6∧Below w0 w0 w'∧(((∀ i,w'.cell? ⟨b0,i,none⟩=c0[i]?)∧(∀ i,w'.frozen? ⟨b0,i,none⟩=false)∧((b0=w'.heap.size)=False)∧((w'.heap.size=b0)=False))∧((∀ i,w'.cell? ⟨b1,i,none⟩=c1[i]?)∧(∀ i,w'.frozen? ⟨b1,i,none⟩=false)∧((b1=w'.heap.size)=False)∧((w'.heap.size=b1)=False))∧((∀ i,w'.cell? ⟨b2,i,none⟩=c2[i]?)∧(∀ i,w'.frozen? ⟨b2,i,none⟩=false)∧((b2=w'.heap.size)=False)∧((w'.heap.size=b2)=False))∧((∀ i,w'.cell? ⟨b3,i,none⟩=c3[i]?)∧(∀ i,w'.frozen? ⟨b3,i,none⟩=false)∧((b3=w'.heap.size)=False)∧((w'.heap.size=b3)=False))∧((∀ i,w'.cell? ⟨b4,i,none⟩=c4[i]?)∧(∀ i,w'.frozen? ⟨b4,i,none⟩=false)∧((b4=w'.heap.size)=False)∧((w'.heap.size=b4)=False))∧((∀ i,w'.cell? ⟨b5,i,none⟩=c5[i]?)∧(∀ i,w'.frozen? ⟨b5,i,none⟩=false)∧((b5=w'.heap.size)=False)∧((w'.heap.size=b5)=False))∧((∀ i,w'.cell? ⟨b6,i,none⟩=c6[i]?)∧(∀ i,w'.frozen? ⟨b6,i,none⟩=false)∧((b6=w'.heap.size)=False)∧((w'.heap.size=b6)=False))):=
 ⟨h0.ext hb rfl,h1.ext hb rfl,h2.ext hb rfl,h3.ext hb rfl,h4.ext hb rfl,h5.ext hb rfl,h6.ext hb rfl,hw.trans (hb.mono hw.size),⟨(h0.ext hb rfl).f,(h1.ext hb rfl).f,(h2.ext hb rfl).f,(h3.ext hb rfl).f,(h4.ext hb rfl).f,(h5.ext hb rfl).f,(h6.ext hb rfl).f⟩⟩
theorem qX8 {w0 w w':World} {b0 b1 b2 b3 b4 b5 b6 b7:Nat} {c0 c1 c2 c3 c4 c5 c6 c7:List Value} {T0 T1 T2 T3 T4 T5 T6 T7:TypeId} (h0:Box w b0 c0 T0) (h1:Box w b1 c1 T1) (h2:Box w b2 c2 T2) (h3:Box w b3 c3 T3) (h4:Box w b4 c4 T4) (h5:Box w b5 c5 T5) (h6:Box w b6 c6 T6) (h7:Box w b7 c7 T7) (hw:Below w0 w0 w) (hb:Below w w w'):Box w' b0 c0 T0∧Box w' b1 c1 T1∧Box w' b2 c2 T2∧Box w' b3 c3 T3∧Box w' b4 c4 T4∧Box w' b5 c5 T5∧Box w' b6 c6 T6∧Box w' b7 c7 T7∧Below w0 w0 w'∧(((∀ i,w'.cell? ⟨b0,i,none⟩=c0[i]?)∧(∀ i,w'.frozen? ⟨b0,i,none⟩=false)∧((b0=w'.heap.size)=False)∧((w'.heap.size=b0)=False))∧((∀ i,w'.cell? ⟨b1,i,none⟩=c1[i]?)∧(∀ i,w'.frozen? ⟨b1,i,none⟩=false)∧((b1=w'.heap.size)=False)∧((w'.heap.size=b1)=False))∧((∀ i,w'.cell? ⟨b2,i,none⟩=c2[i]?)∧(∀ i,w'.frozen? ⟨b2,i,none⟩=false)∧((b2=w'.heap.size)=False)∧((w'.heap.size=b2)=False))∧((∀ i,w'.cell? ⟨b3,i,none⟩=c3[i]?)∧(∀ i,w'.frozen? ⟨b3,i,none⟩=false)∧((b3=w'.heap.size)=False)∧((w'.heap.size=b3)=False))∧((∀ i,w'.cell? ⟨b4,i,none⟩=c4[i]?)∧(∀ i,w'.frozen? ⟨b4,i,none⟩=false)∧((b4=w'.heap.size)=False)∧((w'.heap.size=b4)=False))∧((∀ i,w'.cell? ⟨b5,i,none⟩=c5[i]?)∧(∀ i,w'.frozen? ⟨b5,i,none⟩=false)∧((b5=w'.heap.size)=False)∧((w'.heap.size=b5)=False))∧((∀ i,w'.cell? ⟨b6,i,none⟩=c6[i]?)∧(∀ i,w'.frozen? ⟨b6,i,none⟩=false)∧((b6=w'.heap.size)=False)∧((w'.heap.size=b6)=False))∧((∀ i,w'.cell? ⟨b7,i,none⟩=c7[i]?)∧(∀ i,w'.frozen? ⟨b7,i,none⟩=false)∧((b7=w'.heap.size)=False)∧((w'.heap.size=b7)=False))):=
 ⟨h0.ext hb rfl,h1.ext hb rfl,h2.ext hb rfl,h3.ext hb rfl,h4.ext hb rfl,h5.ext hb rfl,h6.ext hb rfl,h7.ext hb rfl,hw.trans (hb.mono hw.size),⟨(h0.ext hb rfl).f,(h1.ext hb rfl).f,(h2.ext hb rfl).f,(h3.ext hb rfl).f,(h4.ext hb rfl).f,(h5.ext hb rfl).f,(h6.ext hb rfl).f,(h7.ext hb rfl).f⟩⟩
theorem qN1 {w W:World} {c0:List Value} {T0:TypeId} (hW:W=(w.alloc (.cells c0.toArray T0))):Box W w c0 T0∧Below w w W:=
 ⟨by rw [hW];exact Box.new rfl,by rw [hW];go_grown⟩
theorem qN2 {w W:World} {c0 c1:List Value} {T0 T1:TypeId} (hW:W=((w.alloc (.cells c0.toArray T0)).alloc (.cells c1.toArray T1))):Box W w c0 T0∧Box W (w+1) c1 T1∧Below w w W:=
 ⟨by rw [hW];exact (Box.new rfl).old _,by rw [hW];exact Box.new (by simp),by rw [hW];go_grown⟩
theorem qN3 {w W:World} {c0 c1 c2:List Value} {T0 T1 T2:TypeId} (hW:W=(((w.alloc (.cells c0.toArray T0)).alloc (.cells c1.toArray T1)).alloc (.cells c2.toArray T2))):Box W w c0 T0∧Box W (w+1) c1 T1∧Box W (w+1+1) c2 T2∧Below w w W:=
 ⟨by rw [hW];exact ((Box.new rfl).old _).old _,by rw [hW];exact (Box.new (by simp)).old _,by rw [hW];exact Box.new (by simp),by rw [hW];go_grown⟩
theorem qN4 {w W:World} {c0 c1 c2 c3:List Value} {T0 T1 T2 T3:TypeId} (hW:W=((((w.alloc (.cells c0.toArray T0)).alloc (.cells c1.toArray T1)).alloc (.cells c2.toArray T2)).alloc (.cells c3.toArray T3))):Box W w c0 T0∧Box W (w+1) c1 T1∧Box W (w+1+1) c2 T2∧Box W (w+1+1+1) c3 T3∧Below w w W:=
 ⟨by rw [hW];exact (((Box.new rfl).old _).old _).old _,by rw [hW];exact ((Box.new (by simp)).old _).old _,by rw [hW];exact (Box.new (by simp)).old _,by rw [hW];exact Box.new (by simp),by rw [hW];go_grown⟩
theorem qN5 {w W:World} {c0 c1 c2 c3 c4:List Value} {T0 T1 T2 T3 T4:TypeId} (hW:W=(((((w.alloc (.cells c0.toArray T0)).alloc (.cells c1.toArray T1)).alloc (.cells c2.toArray T2)).alloc (.cells c3.toArray T3)).alloc (.cells c4.toArray T4))):Box W w c0 T0∧Box W (w+1) c1 T1∧Box W (w+1+1) c2 T2∧Box W (w+1+1+1) c3 T3∧Box W (w+1+1+1+1) c4 T4∧Below w w W:=
 ⟨by rw [hW];exact ((((Box.new rfl).old _).old _).old _).old _,by rw [hW];exact (((Box.new (by simp)).old _).old _).old _,by rw [hW];exact ((Box.new (by simp)).old _).old _,by rw [hW];exact (Box.new (by simp)).old _,by rw [hW];exact Box.new (by simp),by rw [hW];go_grown⟩
theorem qM0 {w0 w W:World} {z:Nat} {c:List Value} {T:TypeId} (hW:W=w.alloc (.cells c.toArray T)) (hz:w.heap.size=z)  (hw:Below w0 w0 w):w0.heap.size≤z∧Box W z c T∧Below w0 w0 W:=
 ⟨by rw [←hz];exact hw.size,by rw [hW];exact Box.new hz.symm,by have hl:=hw.size;rw [hW];go_grown⟩
theorem qM1 {w0 w W:World} {z:Nat} {c:List Value} {T:TypeId} {b0:Nat} {c0:List Value} {T0:TypeId} (hW:W=w.alloc (.cells c.toArray T)) (hz:w.heap.size=z) (h0:Box w b0 c0 T0) (hw:Below w0 w0 w):b0 < z∧w0.heap.size≤z∧Box W z c T∧Box W b0 c0 T0∧Below w0 w0 W:=
 ⟨by rw [←hz];exact h0.lt,by rw [←hz];exact hw.size,by rw [hW];exact Box.new hz.symm,by rw [hW];exact h0.old _,by have hl:=hw.size;rw [hW];go_grown⟩
theorem qM2 {w0 w W:World} {z:Nat} {c:List Value} {T:TypeId} {b0 b1:Nat} {c0 c1:List Value} {T0 T1:TypeId} (hW:W=w.alloc (.cells c.toArray T)) (hz:w.heap.size=z) (h0:Box w b0 c0 T0) (h1:Box w b1 c1 T1) (hw:Below w0 w0 w):b0 < z∧b1 < z∧w0.heap.size≤z∧Box W z c T∧Box W b0 c0 T0∧Box W b1 c1 T1∧Below w0 w0 W:=
 ⟨by rw [←hz];exact h0.lt,by rw [←hz];exact h1.lt,by rw [←hz];exact hw.size,by rw [hW];exact Box.new hz.symm,by rw [hW];exact h0.old _,by rw [hW];exact h1.old _,by have hl:=hw.size;rw [hW];go_grown⟩
theorem qM3 {w0 w W:World} {z:Nat} {c:List Value} {T:TypeId} {b0 b1 b2:Nat} {c0 c1 c2:List Value} {T0 T1 T2:TypeId} (hW:W=w.alloc (.cells c.toArray T)) (hz:w.heap.size=z) (h0:Box w b0 c0 T0) (h1:Box w b1 c1 T1) (h2:Box w b2 c2 T2) (hw:Below w0 w0 w):b0 < z∧b1 < z∧b2 < z∧w0.heap.size≤z∧Box W z c T∧Box W b0 c0 T0∧Box W b1 c1 T1∧Box W b2 c2 T2∧Below w0 w0 W:=
 ⟨by rw [←hz];exact h0.lt,by rw [←hz];exact h1.lt,by rw [←hz];exact h2.lt,by rw [←hz];exact hw.size,by rw [hW];exact Box.new hz.symm,by rw [hW];exact h0.old _,by rw [hW];exact h1.old _,by rw [hW];exact h2.old _,by have hl:=hw.size;rw [hW];go_grown⟩
theorem qM4 {w0 w W:World} {z:Nat} {c:List Value} {T:TypeId} {b0 b1 b2 b3:Nat} {c0 c1 c2 c3:List Value} {T0 T1 T2 T3:TypeId} (hW:W=w.alloc (.cells c.toArray T)) (hz:w.heap.size=z) (h0:Box w b0 c0 T0) (h1:Box w b1 c1 T1) (h2:Box w b2 c2 T2) (h3:Box w b3 c3 T3) (hw:Below w0 w0 w):b0 < z∧b1 < z∧b2 < z∧b3 < z∧w0.heap.size≤z∧Box W z c T∧Box W b0 c0 T0∧Box W b1 c1 T1∧Box W b2 c2 T2∧Box W b3 c3 T3∧Below w0 w0 W:=
 ⟨by rw [←hz];exact h0.lt,by rw [←hz];exact h1.lt,by rw [←hz];exact h2.lt,by rw [←hz];exact h3.lt,by rw [←hz];exact hw.size,by rw [hW];exact Box.new hz.symm,by rw [hW];exact h0.old _,by rw [hW];exact h1.old _,by rw [hW];exact h2.old _,by rw [hW];exact h3.old _,by have hl:=hw.size;rw [hW];go_grown⟩
theorem qM5 {w0 w W:World} {z:Nat} {c:List Value} {T:TypeId} {b0 b1 b2 b3 b4:Nat} {c0 c1 c2 c3 c4:List Value} {T0 T1 T2 T3 T4:TypeId} (hW:W=w.alloc (.cells c.toArray T)) (hz:w.heap.size=z) (h0:Box w b0 c0 T0) (h1:Box w b1 c1 T1) (h2:Box w b2 c2 T2) (h3:Box w b3 c3 T3) (h4:Box w b4 c4 T4) (hw:Below w0 w0 w):b0 < z∧b1 < z∧b2 < z∧b3 < z∧b4 < z∧w0.heap.size≤z∧Box W z c T∧Box W b0 c0 T0∧Box W b1 c1 T1∧Box W b2 c2 T2∧Box W b3 c3 T3∧Box W b4 c4 T4∧Below w0 w0 W:=
 ⟨by rw [←hz];exact h0.lt,by rw [←hz];exact h1.lt,by rw [←hz];exact h2.lt,by rw [←hz];exact h3.lt,by rw [←hz];exact h4.lt,by rw [←hz];exact hw.size,by rw [hW];exact Box.new hz.symm,by rw [hW];exact h0.old _,by rw [hW];exact h1.old _,by rw [hW];exact h2.old _,by rw [hW];exact h3.old _,by rw [hW];exact h4.old _,by have hl:=hw.size;rw [hW];go_grown⟩
theorem qM6 {w0 w W:World} {z:Nat} {c:List Value} {T:TypeId} {b0 b1 b2 b3 b4 b5:Nat} {c0 c1 c2 c3 c4 c5:List Value} {T0 T1 T2 T3 T4 T5:TypeId} (hW:W=w.alloc (.cells c.toArray T)) (hz:w.heap.size=z) (h0:Box w b0 c0 T0) (h1:Box w b1 c1 T1) (h2:Box w b2 c2 T2) (h3:Box w b3 c3 T3) (h4:Box w b4 c4 T4) (h5:Box w b5 c5 T5) (hw:Below w0 w0 w):b0 < z∧b1 < z∧b2 < z∧b3 < z∧b4 < z∧b5 < z∧w0.heap.size≤z∧Box W z c T∧Box W b0 c0 T0∧Box W b1 c1 T1∧Box W b2 c2 T2∧Box W b3 c3 T3∧Box W b4 c4 T4∧Box W b5 c5 T5∧Below w0 w0 W:=
 ⟨by rw [←hz];exact h0.lt,by rw [←hz];exact h1.lt,by rw [←hz];exact h2.lt,by rw [←hz];exact h3.lt,by rw [←hz];exact h4.lt,by rw [←hz];exact h5.lt,by rw [←hz];exact hw.size,by rw [hW];exact Box.new hz.symm,by rw [hW];exact h0.old _,by rw [hW];exact h1.old _,by rw [hW];exact h2.old _,by rw [hW];exact h3.old _,by rw [hW];exact h4.old _,by rw [hW];exact h5.old _,by have hl:=hw.size;rw [hW];go_grown⟩
theorem qM7 {w0 w W:World} {z:Nat} {c:List Value} {T:TypeId} {b0 b1 b2 b3 b4 b5 b6:Nat} {c0 c1 c2 c3 c4 c5 c6:List Value} {T0 T1 T2 T3 T4 T5 T6:TypeId} (hW:W=w.alloc (.cells c.toArray T)) (hz:w.heap.size=z) (h0:Box w b0 c0 T0) (h1:Box w b1 c1 T1) (h2:Box w b2 c2 T2) (h3:Box w b3 c3 T3) (h4:Box w b4 c4 T4) (h5:Box w b5 c5 T5) (h6:Box w b6 c6 T6) (hw:Below w0 w0 w):b0 < z∧b1 < z∧b2 < z∧b3 < z∧b4 < z∧b5 < z∧b6 < z∧w0.heap.size≤z∧Box W z c T∧Box W b0 c0 T0∧Box W b1 c1 T1∧Box W b2 c2 T2∧Box W b3 c3 T3∧Box W b4 c4 T4∧Box W b5 c5 T5∧Box W b6 c6 T6∧Below w0 w0 W:=
 ⟨by rw [←hz];exact h0.lt,by rw [←hz];exact h1.lt,by rw [←hz];exact h2.lt,by rw [←hz];exact h3.lt,by rw [←hz];exact h4.lt,by rw [←hz];exact h5.lt,by rw [←hz];exact h6.lt,by rw [←hz];exact hw.size,by rw [hW];exact Box.new hz.symm,by rw [hW];exact h0.old _,by rw [hW];exact h1.old _,by rw [hW];exact h2.old _,by rw [hW];exact h3.old _,by rw [hW];exact h4.old _,by rw [hW];exact h5.old _,by rw [hW];exact h6.old _,by have hl:=hw.size;rw [hW];go_grown⟩
theorem qM8 {w0 w W:World} {z:Nat} {c:List Value} {T:TypeId} {b0 b1 b2 b3 b4 b5 b6 b7:Nat} {c0 c1 c2 c3 c4 c5 c6 c7:List Value} {T0 T1 T2 T3 T4 T5 T6 T7:TypeId} (hW:W=w.alloc (.cells c.toArray T)) (hz:w.heap.size=z) (h0:Box w b0 c0 T0) (h1:Box w b1 c1 T1) (h2:Box w b2 c2 T2) (h3:Box w b3 c3 T3) (h4:Box w b4 c4 T4) (h5:Box w b5 c5 T5) (h6:Box w b6 c6 T6) (h7:Box w b7 c7 T7) (hw:Below w0 w0 w):b0 < z∧b1 < z∧b2 < z∧b3 < z∧b4 < z∧b5 < z∧b6 < z∧b7 < z∧w0.heap.size≤z∧Box W z c T∧Box W b0 c0 T0∧Box W b1 c1 T1∧Box W b2 c2 T2∧Box W b3 c3 T3∧Box W b4 c4 T4∧Box W b5 c5 T5∧Box W b6 c6 T6∧Box W b7 c7 T7∧Below w0 w0 W:=
 ⟨by rw [←hz];exact h0.lt,by rw [←hz];exact h1.lt,by rw [←hz];exact h2.lt,by rw [←hz];exact h3.lt,by rw [←hz];exact h4.lt,by rw [←hz];exact h5.lt,by rw [←hz];exact h6.lt,by rw [←hz];exact h7.lt,by rw [←hz];exact hw.size,by rw [hW];exact Box.new hz.symm,by rw [hW];exact h0.old _,by rw [hW];exact h1.old _,by rw [hW];exact h2.old _,by rw [hW];exact h3.old _,by rw [hW];exact h4.old _,by rw [hW];exact h5.old _,by rw [hW];exact h6.old _,by rw [hW];exact h7.old _,by have hl:=hw.size;rw [hW];go_grown⟩
theorem qC1 {P:Program} {f:FuncId} {ar:Array Value} {v:Value} {K:Ending→World→Prop} {w0 w:World} {b0:Nat} {c0:List Value} {T0:TypeId} (h:Calls P f ar w fun e w'=>e=.returned v∧Below w w w') (h0:Box w b0 c0 T0) (hw:Below w0 w0 w) (k:∀ w',Box w' b0 c0 T0→Below w0 w0 w'→(((∀ i,w'.cell? ⟨b0,i,none⟩=c0[i]?)∧(∀ i,w'.frozen? ⟨b0,i,none⟩=false)∧((b0=w'.heap.size)=False)∧((w'.heap.size=b0)=False)))→K (.returned v) w'):Calls P f ar w K:=
 h.mono fun e w' ⟨he,hb⟩=>by rw [he];exact k w' (h0.ext hb rfl) (hw.trans (hb.mono hw.size)) (h0.ext hb rfl).f
theorem qK1 {P:Program} {f:FuncId} {ar:Array Value} {v:Value} {K:Ending→World→Prop} {w0 w:World} {b0:Nat} {c0:List Value} {T0:TypeId} (h:Calls P f ar w fun e w'=>e=.returned v∧Below w w w') (h0:Box w b0 c0 T0) (hw:Below w0 w0 w) (k:∀ w',Box w' b0 c0 T0→Below w0 w0 w'→K (.returned v) w'):Calls P f ar w K:=
 h.mono fun e w' ⟨he,hb⟩=>by rw [he];exact k w' (h0.ext hb rfl) (hw.trans (hb.mono hw.size))
theorem qC2 {P:Program} {f:FuncId} {ar:Array Value} {v:Value} {K:Ending→World→Prop} {w0 w:World} {b0 b1:Nat} {c0 c1:List Value} {T0 T1:TypeId} (h:Calls P f ar w fun e w'=>e=.returned v∧Below w w w') (h0:Box w b0 c0 T0) (h1:Box w b1 c1 T1) (hw:Below w0 w0 w) (k:∀ w',Box w' b0 c0 T0→Box w' b1 c1 T1→Below w0 w0 w'→(((∀ i,w'.cell? ⟨b0,i,none⟩=c0[i]?)∧(∀ i,w'.frozen? ⟨b0,i,none⟩=false)∧((b0=w'.heap.size)=False)∧((w'.heap.size=b0)=False))∧((∀ i,w'.cell? ⟨b1,i,none⟩=c1[i]?)∧(∀ i,w'.frozen? ⟨b1,i,none⟩=false)∧((b1=w'.heap.size)=False)∧((w'.heap.size=b1)=False)))→K (.returned v) w'):Calls P f ar w K:=
 h.mono fun e w' ⟨he,hb⟩=>by rw [he];exact k w' (h0.ext hb rfl) (h1.ext hb rfl) (hw.trans (hb.mono hw.size)) ⟨(h0.ext hb rfl).f,(h1.ext hb rfl).f⟩
theorem qK2 {P:Program} {f:FuncId} {ar:Array Value} {v:Value} {K:Ending→World→Prop} {w0 w:World} {b0 b1:Nat} {c0 c1:List Value} {T0 T1:TypeId} (h:Calls P f ar w fun e w'=>e=.returned v∧Below w w w') (h0:Box w b0 c0 T0) (h1:Box w b1 c1 T1) (hw:Below w0 w0 w) (k:∀ w',Box w' b0 c0 T0→Box w' b1 c1 T1→Below w0 w0 w'→K (.returned v) w'):Calls P f ar w K:=
 h.mono fun e w' ⟨he,hb⟩=>by rw [he];exact k w' (h0.ext hb rfl) (h1.ext hb rfl) (hw.trans (hb.mono hw.size))
theorem qC3 {P:Program} {f:FuncId} {ar:Array Value} {v:Value} {K:Ending→World→Prop} {w0 w:World} {b0 b1 b2:Nat} {c0 c1 c2:List Value} {T0 T1 T2:TypeId} (h:Calls P f ar w fun e w'=>e=.returned v∧Below w w w') (h0:Box w b0 c0 T0) (h1:Box w b1 c1 T1) (h2:Box w b2 c2 T2) (hw:Below w0 w0 w) (k:∀ w',Box w' b0 c0 T0→Box w' b1 c1 T1→Box w' b2 c2 T2→Below w0 w0 w'→(((∀ i,w'.cell? ⟨b0,i,none⟩=c0[i]?)∧(∀ i,w'.frozen? ⟨b0,i,none⟩=false)∧((b0=w'.heap.size)=False)∧((w'.heap.size=b0)=False))∧((∀ i,w'.cell? ⟨b1,i,none⟩=c1[i]?)∧(∀ i,w'.frozen? ⟨b1,i,none⟩=false)∧((b1=w'.heap.size)=False)∧((w'.heap.size=b1)=False))∧((∀ i,w'.cell? ⟨b2,i,none⟩=c2[i]?)∧(∀ i,w'.frozen? ⟨b2,i,none⟩=false)∧((b2=w'.heap.size)=False)∧((w'.heap.size=b2)=False)))→K (.returned v) w'):Calls P f ar w K:=
 h.mono fun e w' ⟨he,hb⟩=>by rw [he];exact k w' (h0.ext hb rfl) (h1.ext hb rfl) (h2.ext hb rfl) (hw.trans (hb.mono hw.size)) ⟨(h0.ext hb rfl).f,(h1.ext hb rfl).f,(h2.ext hb rfl).f⟩
theorem qK3 {P:Program} {f:FuncId} {ar:Array Value} {v:Value} {K:Ending→World→Prop} {w0 w:World} {b0 b1 b2:Nat} {c0 c1 c2:List Value} {T0 T1 T2:TypeId} (h:Calls P f ar w fun e w'=>e=.returned v∧Below w w w') (h0:Box w b0 c0 T0) (h1:Box w b1 c1 T1) (h2:Box w b2 c2 T2) (hw:Below w0 w0 w) (k:∀ w',Box w' b0 c0 T0→Box w' b1 c1 T1→Box w' b2 c2 T2→Below w0 w0 w'→K (.returned v) w'):Calls P f ar w K:=
 h.mono fun e w' ⟨he,hb⟩=>by rw [he];exact k w' (h0.ext hb rfl) (h1.ext hb rfl) (h2.ext hb rfl) (hw.trans (hb.mono hw.size))
theorem qC4 {P:Program} {f:FuncId} {ar:Array Value} {v:Value} {K:Ending→World→Prop} {w0 w:World} {b0 b1 b2 b3:Nat} {c0 c1 c2 c3:List Value} {T0 T1 T2 T3:TypeId} (h:Calls P f ar w fun e w'=>e=.returned v∧Below w w w') (h0:Box w b0 c0 T0) (h1:Box w b1 c1 T1) (h2:Box w b2 c2 T2) (h3:Box w b3 c3 T3) (hw:Below w0 w0 w) (k:∀ w',Box w' b0 c0 T0→Box w' b1 c1 T1→Box w' b2 c2 T2→Box w' b3 c3 T3→Below w0 w0 w'→(((∀ i,w'.cell? ⟨b0,i,none⟩=c0[i]?)∧(∀ i,w'.frozen? ⟨b0,i,none⟩=false)∧((b0=w'.heap.size)=False)∧((w'.heap.size=b0)=False))∧((∀ i,w'.cell? ⟨b1,i,none⟩=c1[i]?)∧(∀ i,w'.frozen? ⟨b1,i,none⟩=false)∧((b1=w'.heap.size)=False)∧((w'.heap.size=b1)=False))∧((∀ i,w'.cell? ⟨b2,i,none⟩=c2[i]?)∧(∀ i,w'.frozen? ⟨b2,i,none⟩=false)∧((b2=w'.heap.size)=False)∧((w'.heap.size=b2)=False))∧((∀ i,w'.cell? ⟨b3,i,none⟩=c3[i]?)∧(∀ i,w'.frozen? ⟨b3,i,none⟩=false)∧((b3=w'.heap.size)=False)∧((w'.heap.size=b3)=False)))→K (.returned v) w'):Calls P f ar w K:=
 h.mono fun e w' ⟨he,hb⟩=>by rw [he];exact k w' (h0.ext hb rfl) (h1.ext hb rfl) (h2.ext hb rfl) (h3.ext hb rfl) (hw.trans (hb.mono hw.size)) ⟨(h0.ext hb rfl).f,(h1.ext hb rfl).f,(h2.ext hb rfl).f,(h3.ext hb rfl).f⟩
theorem qK4 {P:Program} {f:FuncId} {ar:Array Value} {v:Value} {K:Ending→World→Prop} {w0 w:World} {b0 b1 b2 b3:Nat} {c0 c1 c2 c3:List Value} {T0 T1 T2 T3:TypeId} (h:Calls P f ar w fun e w'=>e=.returned v∧Below w w w') (h0:Box w b0 c0 T0) (h1:Box w b1 c1 T1) (h2:Box w b2 c2 T2) (h3:Box w b3 c3 T3) (hw:Below w0 w0 w) (k:∀ w',Box w' b0 c0 T0→Box w' b1 c1 T1→Box w' b2 c2 T2→Box w' b3 c3 T3→Below w0 w0 w'→K (.returned v) w'):Calls P f ar w K:=
 h.mono fun e w' ⟨he,hb⟩=>by rw [he];exact k w' (h0.ext hb rfl) (h1.ext hb rfl) (h2.ext hb rfl) (h3.ext hb rfl) (hw.trans (hb.mono hw.size))
theorem qC5 {P:Program} {f:FuncId} {ar:Array Value} {v:Value} {K:Ending→World→Prop} {w0 w:World} {b0 b1 b2 b3 b4:Nat} {c0 c1 c2 c3 c4:List Value} {T0 T1 T2 T3 T4:TypeId} (h:Calls P f ar w fun e w'=>e=.returned v∧Below w w w') (h0:Box w b0 c0 T0) (h1:Box w b1 c1 T1) (h2:Box w b2 c2 T2) (h3:Box w b3 c3 T3) (h4:Box w b4 c4 T4) (hw:Below w0 w0 w) (k:∀ w',Box w' b0 c0 T0→Box w' b1 c1 T1→Box w' b2 c2 T2→Box w' b3 c3 T3→Box w' b4 c4 T4→Below w0 w0 w'→(((∀ i,w'.cell? ⟨b0,i,none⟩=c0[i]?)∧(∀ i,w'.frozen? ⟨b0,i,none⟩=false)∧((b0=w'.heap.size)=False)∧((w'.heap.size=b0)=False))∧((∀ i,w'.cell? ⟨b1,i,none⟩=c1[i]?)∧(∀ i,w'.frozen? ⟨b1,i,none⟩=false)∧((b1=w'.heap.size)=False)∧((w'.heap.size=b1)=False))∧((∀ i,w'.cell? ⟨b2,i,none⟩=c2[i]?)∧(∀ i,w'.frozen? ⟨b2,i,none⟩=false)∧((b2=w'.heap.size)=False)∧((w'.heap.size=b2)=False))∧((∀ i,w'.cell? ⟨b3,i,none⟩=c3[i]?)∧(∀ i,w'.frozen? ⟨b3,i,none⟩=false)∧((b3=w'.heap.size)=False)∧((w'.heap.size=b3)=False))∧((∀ i,w'.cell? ⟨b4,i,none⟩=c4[i]?)∧(∀ i,w'.frozen? ⟨b4,i,none⟩=false)∧((b4=w'.heap.size)=False)∧((w'.heap.size=b4)=False)))→K (.returned v) w'):Calls P f ar w K:=
 h.mono fun e w' ⟨he,hb⟩=>by rw [he];exact k w' (h0.ext hb rfl) (h1.ext hb rfl) (h2.ext hb rfl) (h3.ext hb rfl) (h4.ext hb rfl) (hw.trans (hb.mono hw.size)) ⟨(h0.ext hb rfl).f,(h1.ext hb rfl).f,(h2.ext hb rfl).f,(h3.ext hb rfl).f,(h4.ext hb rfl).f⟩
theorem qK5 {P:Program} {f:FuncId} {ar:Array Value} {v:Value} {K:Ending→World→Prop} {w0 w:World} {b0 b1 b2 b3 b4:Nat} {c0 c1 c2 c3 c4:List Value} {T0 T1 T2 T3 T4:TypeId} (h:Calls P f ar w fun e w'=>e=.returned v∧Below w w w') (h0:Box w b0 c0 T0) (h1:Box w b1 c1 T1) (h2:Box w b2 c2 T2) (h3:Box w b3 c3 T3) (h4:Box w b4 c4 T4) (hw:Below w0 w0 w) (k:∀ w',Box w' b0 c0 T0→Box w' b1 c1 T1→Box w' b2 c2 T2→Box w' b3 c3 T3→Box w' b4 c4 T4→Below w0 w0 w'→K (.returned v) w'):Calls P f ar w K:=
 h.mono fun e w' ⟨he,hb⟩=>by rw [he];exact k w' (h0.ext hb rfl) (h1.ext hb rfl) (h2.ext hb rfl) (h3.ext hb rfl) (h4.ext hb rfl) (hw.trans (hb.mono hw.size))
theorem qC6 {P:Program} {f:FuncId} {ar:Array Value} {v:Value} {K:Ending→World→Prop} {w0 w:World} {b0 b1 b2 b3 b4 b5:Nat} {c0 c1 c2 c3 c4 c5:List Value} {T0 T1 T2 T3 T4 T5:TypeId} (h:Calls P f ar w fun e w'=>e=.returned v∧Below w w w') (h0:Box w b0 c0 T0) (h1:Box w b1 c1 T1) (h2:Box w b2 c2 T2) (h3:Box w b3 c3 T3) (h4:Box w b4 c4 T4) (h5:Box w b5 c5 T5) (hw:Below w0 w0 w) (k:∀ w',Box w' b0 c0 T0→Box w' b1 c1 T1→Box w' b2 c2 T2→Box w' b3 c3 T3→Box w' b4 c4 T4→Box w' b5 c5 T5→Below w0 w0 w'→(((∀ i,w'.cell? ⟨b0,i,none⟩=c0[i]?)∧(∀ i,w'.frozen? ⟨b0,i,none⟩=false)∧((b0=w'.heap.size)=False)∧((w'.heap.size=b0)=False))∧((∀ i,w'.cell? ⟨b1,i,none⟩=c1[i]?)∧(∀ i,w'.frozen? ⟨b1,i,none⟩=false)∧((b1=w'.heap.size)=False)∧((w'.heap.size=b1)=False))∧((∀ i,w'.cell? ⟨b2,i,none⟩=c2[i]?)∧(∀ i,w'.frozen? ⟨b2,i,none⟩=false)∧((b2=w'.heap.size)=False)∧((w'.heap.size=b2)=False))∧((∀ i,w'.cell? ⟨b3,i,none⟩=c3[i]?)∧(∀ i,w'.frozen? ⟨b3,i,none⟩=false)∧((b3=w'.heap.size)=False)∧((w'.heap.size=b3)=False))∧((∀ i,w'.cell? ⟨b4,i,none⟩=c4[i]?)∧(∀ i,w'.frozen? ⟨b4,i,none⟩=false)∧((b4=w'.heap.size)=False)∧((w'.heap.size=b4)=False))∧((∀ i,w'.cell? ⟨b5,i,none⟩=c5[i]?)∧(∀ i,w'.frozen? ⟨b5,i,none⟩=false)∧((b5=w'.heap.size)=False)∧((w'.heap.size=b5)=False)))→K (.returned v) w'):Calls P f ar w K:=
 h.mono fun e w' ⟨he,hb⟩=>by rw [he];exact k w' (h0.ext hb rfl) (h1.ext hb rfl) (h2.ext hb rfl) (h3.ext hb rfl) (h4.ext hb rfl) (h5.ext hb rfl) (hw.trans (hb.mono hw.size)) ⟨(h0.ext hb rfl).f,(h1.ext hb rfl).f,(h2.ext hb rfl).f,(h3.ext hb rfl).f,(h4.ext hb rfl).f,(h5.ext hb rfl).f⟩
theorem qK6 {P:Program} {f:FuncId} {ar:Array Value} {v:Value} {K:Ending→World→Prop} {w0 w:World} {b0 b1 b2 b3 b4 b5:Nat} {c0 c1 c2 c3 c4 c5:List Value} {T0 T1 T2 T3 T4 T5:TypeId} (h:Calls P f ar w fun e w'=>e=.returned v∧Below w w w') (h0:Box w b0 c0 T0) (h1:Box w b1 c1 T1) (h2:Box w b2 c2 T2) (h3:Box w b3 c3 T3) (h4:Box w b4 c4 T4) (h5:Box w b5 c5 T5) (hw:Below w0 w0 w) (k:∀ w',Box w' b0 c0 T0→Box w' b1 c1 T1→Box w' b2 c2 T2→Box w' b3 c3 T3→Box w' b4 c4 T4→Box w' b5 c5 T5→Below w0 w0 w'→K (.returned v) w'):Calls P f ar w K:=
 h.mono fun e w' ⟨he,hb⟩=>by rw [he];exact k w' (h0.ext hb rfl) (h1.ext hb rfl) (h2.ext hb rfl) (h3.ext hb rfl) (h4.ext hb rfl) (h5.ext hb rfl) (hw.trans (hb.mono hw.size))
theorem qC7 {P:Program} {f:FuncId} {ar:Array Value} {v:Value} {K:Ending→World→Prop} {w0 w:World} {b0 b1 b2 b3 b4 b5 b6:Nat} {c0 c1 c2 c3 c4 c5 c6:List Value} {T0 T1 T2 T3 T4 T5 T6:TypeId} (h:Calls P f ar w fun e w'=>e=.returned v∧Below w w w') (h0:Box w b0 c0 T0) (h1:Box w b1 c1 T1) (h2:Box w b2 c2 T2) (h3:Box w b3 c3 T3) (h4:Box w b4 c4 T4) (h5:Box w b5 c5 T5) (h6:Box w b6 c6 T6) (hw:Below w0 w0 w) (k:∀ w',Box w' b0 c0 T0→Box w' b1 c1 T1→Box w' b2 c2 T2→Box w' b3 c3 T3→Box w' b4 c4 T4→Box w' b5 c5 T5→Box w' b6 c6 T6→Below w0 w0 w'→(((∀ i,w'.cell? ⟨b0,i,none⟩=c0[i]?)∧(∀ i,w'.frozen? ⟨b0,i,none⟩=false)∧((b0=w'.heap.size)=False)∧((w'.heap.size=b0)=False))∧((∀ i,w'.cell? ⟨b1,i,none⟩=c1[i]?)∧(∀ i,w'.frozen? ⟨b1,i,none⟩=false)∧((b1=w'.heap.size)=False)∧((w'.heap.size=b1)=False))∧((∀ i,w'.cell? ⟨b2,i,none⟩=c2[i]?)∧(∀ i,w'.frozen? ⟨b2,i,none⟩=false)∧((b2=w'.heap.size)=False)∧((w'.heap.size=b2)=False))∧((∀ i,w'.cell? ⟨b3,i,none⟩=c3[i]?)∧(∀ i,w'.frozen? ⟨b3,i,none⟩=false)∧((b3=w'.heap.size)=False)∧((w'.heap.size=b3)=False))∧((∀ i,w'.cell? ⟨b4,i,none⟩=c4[i]?)∧(∀ i,w'.frozen? ⟨b4,i,none⟩=false)∧((b4=w'.heap.size)=False)∧((w'.heap.size=b4)=False))∧((∀ i,w'.cell? ⟨b5,i,none⟩=c5[i]?)∧(∀ i,w'.frozen? ⟨b5,i,none⟩=false)∧((b5=w'.heap.size)=False)∧((w'.heap.size=b5)=False))∧((∀ i,w'.cell? ⟨b6,i,none⟩=c6[i]?)∧(∀ i,w'.frozen? ⟨b6,i,none⟩=false)∧((b6=w'.heap.size)=False)∧((w'.heap.size=b6)=False)))→K (.returned v) w'):Calls P f ar w K:=
 h.mono fun e w' ⟨he,hb⟩=>by rw [he];exact k w' (h0.ext hb rfl) (h1.ext hb rfl) (h2.ext hb rfl) (h3.ext hb rfl) (h4.ext hb rfl) (h5.ext hb rfl) (h6.ext hb rfl) (hw.trans (hb.mono hw.size)) ⟨(h0.ext hb rfl).f,(h1.ext hb rfl).f,(h2.ext hb rfl).f,(h3.ext hb rfl).f,(h4.ext hb rfl).f,(h5.ext hb rfl).f,(h6.ext hb rfl).f⟩
theorem qK7 {P:Program} {f:FuncId} {ar:Array Value} {v:Value} {K:Ending→World→Prop} {w0 w:World} {b0 b1 b2 b3 b4 b5 b6:Nat} {c0 c1 c2 c3 c4 c5 c6:List Value} {T0 T1 T2 T3 T4 T5 T6:TypeId} (h:Calls P f ar w fun e w'=>e=.returned v∧Below w w w') (h0:Box w b0 c0 T0) (h1:Box w b1 c1 T1) (h2:Box w b2 c2 T2) (h3:Box w b3 c3 T3) (h4:Box w b4 c4 T4) (h5:Box w b5 c5 T5) (h6:Box w b6 c6 T6) (hw:Below w0 w0 w) (k:∀ w',Box w' b0 c0 T0→Box w' b1 c1 T1→Box w' b2 c2 T2→Box w' b3 c3 T3→Box w' b4 c4 T4→Box w' b5 c5 T5→Box w' b6 c6 T6→Below w0 w0 w'→K (.returned v) w'):Calls P f ar w K:=
 h.mono fun e w' ⟨he,hb⟩=>by rw [he];exact k w' (h0.ext hb rfl) (h1.ext hb rfl) (h2.ext hb rfl) (h3.ext hb rfl) (h4.ext hb rfl) (h5.ext hb rfl) (h6.ext hb rfl) (hw.trans (hb.mono hw.size))
theorem qC8 {P:Program} {f:FuncId} {ar:Array Value} {v:Value} {K:Ending→World→Prop} {w0 w:World} {b0 b1 b2 b3 b4 b5 b6 b7:Nat} {c0 c1 c2 c3 c4 c5 c6 c7:List Value} {T0 T1 T2 T3 T4 T5 T6 T7:TypeId} (h:Calls P f ar w fun e w'=>e=.returned v∧Below w w w') (h0:Box w b0 c0 T0) (h1:Box w b1 c1 T1) (h2:Box w b2 c2 T2) (h3:Box w b3 c3 T3) (h4:Box w b4 c4 T4) (h5:Box w b5 c5 T5) (h6:Box w b6 c6 T6) (h7:Box w b7 c7 T7) (hw:Below w0 w0 w) (k:∀ w',Box w' b0 c0 T0→Box w' b1 c1 T1→Box w' b2 c2 T2→Box w' b3 c3 T3→Box w' b4 c4 T4→Box w' b5 c5 T5→Box w' b6 c6 T6→Box w' b7 c7 T7→Below w0 w0 w'→(((∀ i,w'.cell? ⟨b0,i,none⟩=c0[i]?)∧(∀ i,w'.frozen? ⟨b0,i,none⟩=false)∧((b0=w'.heap.size)=False)∧((w'.heap.size=b0)=False))∧((∀ i,w'.cell? ⟨b1,i,none⟩=c1[i]?)∧(∀ i,w'.frozen? ⟨b1,i,none⟩=false)∧((b1=w'.heap.size)=False)∧((w'.heap.size=b1)=False))∧((∀ i,w'.cell? ⟨b2,i,none⟩=c2[i]?)∧(∀ i,w'.frozen? ⟨b2,i,none⟩=false)∧((b2=w'.heap.size)=False)∧((w'.heap.size=b2)=False))∧((∀ i,w'.cell? ⟨b3,i,none⟩=c3[i]?)∧(∀ i,w'.frozen? ⟨b3,i,none⟩=false)∧((b3=w'.heap.size)=False)∧((w'.heap.size=b3)=False))∧((∀ i,w'.cell? ⟨b4,i,none⟩=c4[i]?)∧(∀ i,w'.frozen? ⟨b4,i,none⟩=false)∧((b4=w'.heap.size)=False)∧((w'.heap.size=b4)=False))∧((∀ i,w'.cell? ⟨b5,i,none⟩=c5[i]?)∧(∀ i,w'.frozen? ⟨b5,i,none⟩=false)∧((b5=w'.heap.size)=False)∧((w'.heap.size=b5)=False))∧((∀ i,w'.cell? ⟨b6,i,none⟩=c6[i]?)∧(∀ i,w'.frozen? ⟨b6,i,none⟩=false)∧((b6=w'.heap.size)=False)∧((w'.heap.size=b6)=False))∧((∀ i,w'.cell? ⟨b7,i,none⟩=c7[i]?)∧(∀ i,w'.frozen? ⟨b7,i,none⟩=false)∧((b7=w'.heap.size)=False)∧((w'.heap.size=b7)=False)))→K (.returned v) w'):Calls P f ar w K:=
 h.mono fun e w' ⟨he,hb⟩=>by rw [he];exact k w' (h0.ext hb rfl) (h1.ext hb rfl) (h2.ext hb rfl) (h3.ext hb rfl) (h4.ext hb rfl) (h5.ext hb rfl) (h6.ext hb rfl) (h7.ext hb rfl) (hw.trans (hb.mono hw.size)) ⟨(h0.ext hb rfl).f,(h1.ext hb rfl).f,(h2.ext hb rfl).f,(h3.ext hb rfl).f,(h4.ext hb rfl).f,(h5.ext hb rfl).f,(h6.ext hb rfl).f,(h7.ext hb rfl).f⟩
theorem qK8 {P:Program} {f:FuncId} {ar:Array Value} {v:Value} {K:Ending→World→Prop} {w0 w:World} {b0 b1 b2 b3 b4 b5 b6 b7:Nat} {c0 c1 c2 c3 c4 c5 c6 c7:List Value} {T0 T1 T2 T3 T4 T5 T6 T7:TypeId} (h:Calls P f ar w fun e w'=>e=.returned v∧Below w w w') (h0:Box w b0 c0 T0) (h1:Box w b1 c1 T1) (h2:Box w b2 c2 T2) (h3:Box w b3 c3 T3) (h4:Box w b4 c4 T4) (h5:Box w b5 c5 T5) (h6:Box w b6 c6 T6) (h7:Box w b7 c7 T7) (hw:Below w0 w0 w) (k:∀ w',Box w' b0 c0 T0→Box w' b1 c1 T1→Box w' b2 c2 T2→Box w' b3 c3 T3→Box w' b4 c4 T4→Box w' b5 c5 T5→Box w' b6 c6 T6→Box w' b7 c7 T7→Below w0 w0 w'→K (.returned v) w'):Calls P f ar w K:=
 h.mono fun e w' ⟨he,hb⟩=>by rw [he];exact k w' (h0.ext hb rfl) (h1.ext hb rfl) (h2.ext hb rfl) (h3.ext hb rfl) (h4.ext hb rfl) (h5.ext hb rfl) (h6.ext hb rfl) (h7.ext hb rfl) (hw.trans (hb.mono hw.size))
theorem qC9 {P:Program} {f:FuncId} {ar:Array Value} {v:Value} {K:Ending→World→Prop} {w0 w:World} {b0 b1 b2 b3 b4 b5 b6 b7 b8:Nat} {c0 c1 c2 c3 c4 c5 c6 c7 c8:List Value} {T0 T1 T2 T3 T4 T5 T6 T7 T8:TypeId} (h:Calls P f ar w fun e w'=>e=.returned v∧Below w w w') (h0:Box w b0 c0 T0) (h1:Box w b1 c1 T1) (h2:Box w b2 c2 T2) (h3:Box w b3 c3 T3) (h4:Box w b4 c4 T4) (h5:Box w b5 c5 T5) (h6:Box w b6 c6 T6) (h7:Box w b7 c7 T7) (h8:Box w b8 c8 T8) (hw:Below w0 w0 w) (k:∀ w',Box w' b0 c0 T0→Box w' b1 c1 T1→Box w' b2 c2 T2→Box w' b3 c3 T3→Box w' b4 c4 T4→Box w' b5 c5 T5→Box w' b6 c6 T6→Box w' b7 c7 T7→Box w' b8 c8 T8→Below w0 w0 w'→(((∀ i,w'.cell? ⟨b0,i,none⟩=c0[i]?)∧(∀ i,w'.frozen? ⟨b0,i,none⟩=false)∧((b0=w'.heap.size)=False)∧((w'.heap.size=b0)=False))∧((∀ i,w'.cell? ⟨b1,i,none⟩=c1[i]?)∧(∀ i,w'.frozen? ⟨b1,i,none⟩=false)∧((b1=w'.heap.size)=False)∧((w'.heap.size=b1)=False))∧((∀ i,w'.cell? ⟨b2,i,none⟩=c2[i]?)∧(∀ i,w'.frozen? ⟨b2,i,none⟩=false)∧((b2=w'.heap.size)=False)∧((w'.heap.size=b2)=False))∧((∀ i,w'.cell? ⟨b3,i,none⟩=c3[i]?)∧(∀ i,w'.frozen? ⟨b3,i,none⟩=false)∧((b3=w'.heap.size)=False)∧((w'.heap.size=b3)=False))∧((∀ i,w'.cell? ⟨b4,i,none⟩=c4[i]?)∧(∀ i,w'.frozen? ⟨b4,i,none⟩=false)∧((b4=w'.heap.size)=False)∧((w'.heap.size=b4)=False))∧((∀ i,w'.cell? ⟨b5,i,none⟩=c5[i]?)∧(∀ i,w'.frozen? ⟨b5,i,none⟩=false)∧((b5=w'.heap.size)=False)∧((w'.heap.size=b5)=False))∧((∀ i,w'.cell? ⟨b6,i,none⟩=c6[i]?)∧(∀ i,w'.frozen? ⟨b6,i,none⟩=false)∧((b6=w'.heap.size)=False)∧((w'.heap.size=b6)=False))∧((∀ i,w'.cell? ⟨b7,i,none⟩=c7[i]?)∧(∀ i,w'.frozen? ⟨b7,i,none⟩=false)∧((b7=w'.heap.size)=False)∧((w'.heap.size=b7)=False))∧((∀ i,w'.cell? ⟨b8,i,none⟩=c8[i]?)∧(∀ i,w'.frozen? ⟨b8,i,none⟩=false)∧((b8=w'.heap.size)=False)∧((w'.heap.size=b8)=False)))→K (.returned v) w'):Calls P f ar w K:=
 h.mono fun e w' ⟨he,hb⟩=>by rw [he];exact k w' (h0.ext hb rfl) (h1.ext hb rfl) (h2.ext hb rfl) (h3.ext hb rfl) (h4.ext hb rfl) (h5.ext hb rfl) (h6.ext hb rfl) (h7.ext hb rfl) (h8.ext hb rfl) (hw.trans (hb.mono hw.size)) ⟨(h0.ext hb rfl).f,(h1.ext hb rfl).f,(h2.ext hb rfl).f,(h3.ext hb rfl).f,(h4.ext hb rfl).f,(h5.ext hb rfl).f,(h6.ext hb rfl).f,(h7.ext hb rfl).f,(h8.ext hb rfl).f⟩
theorem qK9 {P:Program} {f:FuncId} {ar:Array Value} {v:Value} {K:Ending→World→Prop} {w0 w:World} {b0 b1 b2 b3 b4 b5 b6 b7 b8:Nat} {c0 c1 c2 c3 c4 c5 c6 c7 c8:List Value} {T0 T1 T2 T3 T4 T5 T6 T7 T8:TypeId} (h:Calls P f ar w fun e w'=>e=.returned v∧Below w w w') (h0:Box w b0 c0 T0) (h1:Box w b1 c1 T1) (h2:Box w b2 c2 T2) (h3:Box w b3 c3 T3) (h4:Box w b4 c4 T4) (h5:Box w b5 c5 T5) (h6:Box w b6 c6 T6) (h7:Box w b7 c7 T7) (h8:Box w b8 c8 T8) (hw:Below w0 w0 w) (k:∀ w',Box w' b0 c0 T0→Box w' b1 c1 T1→Box w' b2 c2 T2→Box w' b3 c3 T3→Box w' b4 c4 T4→Box w' b5 c5 T5→Box w' b6 c6 T6→Box w' b7 c7 T7→Box w' b8 c8 T8→Below w0 w0 w'→K (.returned v) w'):Calls P f ar w K:=
 h.mono fun e w' ⟨he,hb⟩=>by rw [he];exact k w' (h0.ext hb rfl) (h1.ext hb rfl) (h2.ext hb rfl) (h3.ext hb rfl) (h4.ext hb rfl) (h5.ext hb rfl) (h6.ext hb rfl) (h7.ext hb rfl) (h8.ext hb rfl) (hw.trans (hb.mono hw.size))
theorem qD1 {P:Program} {c:Code} {Q:Exit→Act→World→Prop} {a:Act} {w:World} {c0:List Value} {T0:TypeId} (h:∀ W,Box W w c0 T0→Below w w W→c.wp P Q a W):c.wp P Q a (w.alloc (.cells c0.toArray T0)):=
 by obtain ⟨x0,y⟩:=qN1 (W:=(w.alloc (.cells c0.toArray T0))) rfl;exact h _ x0 y
theorem qE1 {P:Program} {f:FuncId} {ar:Array Value} {K:Ending→World→Prop} {w:World} {c0:List Value} {T0:TypeId} (h:∀ W,Box W w c0 T0→Below w w W→Calls P f ar W K):Calls P f ar (w.alloc (.cells c0.toArray T0)) K:=
 by obtain ⟨x0,y⟩:=qN1 (W:=(w.alloc (.cells c0.toArray T0))) rfl;exact h _ x0 y
theorem qD2 {P:Program} {c:Code} {Q:Exit→Act→World→Prop} {a:Act} {w:World} {c0 c1:List Value} {T0 T1:TypeId} (h:∀ W,Box W w c0 T0→Box W (w+1) c1 T1→Below w w W→c.wp P Q a W):c.wp P Q a ((w.alloc (.cells c0.toArray T0)).alloc (.cells c1.toArray T1)):=
 by obtain ⟨x0,x1,y⟩:=qN2 (W:=((w.alloc (.cells c0.toArray T0)).alloc (.cells c1.toArray T1))) rfl;exact h _ x0 x1 y
theorem qE2 {P:Program} {f:FuncId} {ar:Array Value} {K:Ending→World→Prop} {w:World} {c0 c1:List Value} {T0 T1:TypeId} (h:∀ W,Box W w c0 T0→Box W (w+1) c1 T1→Below w w W→Calls P f ar W K):Calls P f ar ((w.alloc (.cells c0.toArray T0)).alloc (.cells c1.toArray T1)) K:=
 by obtain ⟨x0,x1,y⟩:=qN2 (W:=((w.alloc (.cells c0.toArray T0)).alloc (.cells c1.toArray T1))) rfl;exact h _ x0 x1 y
theorem qD3 {P:Program} {c:Code} {Q:Exit→Act→World→Prop} {a:Act} {w:World} {c0 c1 c2:List Value} {T0 T1 T2:TypeId} (h:∀ W,Box W w c0 T0→Box W (w+1) c1 T1→Box W (w+1+1) c2 T2→Below w w W→c.wp P Q a W):c.wp P Q a (((w.alloc (.cells c0.toArray T0)).alloc (.cells c1.toArray T1)).alloc (.cells c2.toArray T2)):=
 by obtain ⟨x0,x1,x2,y⟩:=qN3 (W:=(((w.alloc (.cells c0.toArray T0)).alloc (.cells c1.toArray T1)).alloc (.cells c2.toArray T2))) rfl;exact h _ x0 x1 x2 y
theorem qE3 {P:Program} {f:FuncId} {ar:Array Value} {K:Ending→World→Prop} {w:World} {c0 c1 c2:List Value} {T0 T1 T2:TypeId} (h:∀ W,Box W w c0 T0→Box W (w+1) c1 T1→Box W (w+1+1) c2 T2→Below w w W→Calls P f ar W K):Calls P f ar (((w.alloc (.cells c0.toArray T0)).alloc (.cells c1.toArray T1)).alloc (.cells c2.toArray T2)) K:=
 by obtain ⟨x0,x1,x2,y⟩:=qN3 (W:=(((w.alloc (.cells c0.toArray T0)).alloc (.cells c1.toArray T1)).alloc (.cells c2.toArray T2))) rfl;exact h _ x0 x1 x2 y
theorem qD4 {P:Program} {c:Code} {Q:Exit→Act→World→Prop} {a:Act} {w:World} {c0 c1 c2 c3:List Value} {T0 T1 T2 T3:TypeId} (h:∀ W,Box W w c0 T0→Box W (w+1) c1 T1→Box W (w+1+1) c2 T2→Box W (w+1+1+1) c3 T3→Below w w W→c.wp P Q a W):c.wp P Q a ((((w.alloc (.cells c0.toArray T0)).alloc (.cells c1.toArray T1)).alloc (.cells c2.toArray T2)).alloc (.cells c3.toArray T3)):=
 by obtain ⟨x0,x1,x2,x3,y⟩:=qN4 (W:=((((w.alloc (.cells c0.toArray T0)).alloc (.cells c1.toArray T1)).alloc (.cells c2.toArray T2)).alloc (.cells c3.toArray T3))) rfl;exact h _ x0 x1 x2 x3 y
theorem qE4 {P:Program} {f:FuncId} {ar:Array Value} {K:Ending→World→Prop} {w:World} {c0 c1 c2 c3:List Value} {T0 T1 T2 T3:TypeId} (h:∀ W,Box W w c0 T0→Box W (w+1) c1 T1→Box W (w+1+1) c2 T2→Box W (w+1+1+1) c3 T3→Below w w W→Calls P f ar W K):Calls P f ar ((((w.alloc (.cells c0.toArray T0)).alloc (.cells c1.toArray T1)).alloc (.cells c2.toArray T2)).alloc (.cells c3.toArray T3)) K:=
 by obtain ⟨x0,x1,x2,x3,y⟩:=qN4 (W:=((((w.alloc (.cells c0.toArray T0)).alloc (.cells c1.toArray T1)).alloc (.cells c2.toArray T2)).alloc (.cells c3.toArray T3))) rfl;exact h _ x0 x1 x2 x3 y
theorem qD5 {P:Program} {c:Code} {Q:Exit→Act→World→Prop} {a:Act} {w:World} {c0 c1 c2 c3 c4:List Value} {T0 T1 T2 T3 T4:TypeId} (h:∀ W,Box W w c0 T0→Box W (w+1) c1 T1→Box W (w+1+1) c2 T2→Box W (w+1+1+1) c3 T3→Box W (w+1+1+1+1) c4 T4→Below w w W→c.wp P Q a W):c.wp P Q a (((((w.alloc (.cells c0.toArray T0)).alloc (.cells c1.toArray T1)).alloc (.cells c2.toArray T2)).alloc (.cells c3.toArray T3)).alloc (.cells c4.toArray T4)):=
 by obtain ⟨x0,x1,x2,x3,x4,y⟩:=qN5 (W:=(((((w.alloc (.cells c0.toArray T0)).alloc (.cells c1.toArray T1)).alloc (.cells c2.toArray T2)).alloc (.cells c3.toArray T3)).alloc (.cells c4.toArray T4))) rfl;exact h _ x0 x1 x2 x3 x4 y
end
end Go.Proofs.YtogffkimgmlilaaGreat
