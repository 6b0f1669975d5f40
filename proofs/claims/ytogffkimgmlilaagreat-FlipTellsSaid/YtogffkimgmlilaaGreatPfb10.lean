/- Put together: TrA, Row, TrL. -/
import Derived.Test.YtogffkimgmlilaaGreatPfb9
import Derived.Laws.AppendOwn
set_option maxRecDepth 100000
set_option maxHeartbeats 8000000
set_option linter.all false
namespace Go.Proofs.YtogffkimgmlilaaGreat
open _root_.Go.Proofs.Tryz
section
open Go.RowKit Go.Sort
attribute [local go_sem] rOper rAt rUpon cell_set sg_i64 sg_u64 alloc_cell alloc_frozen
attribute [local go_sem 10000] pt_eql pt_neq
attribute [local irreducible] rWalk
def plc (i:Int):Int:=i % 3
theorem zHn (i:Int):plc i=0∨plc i=1∨plc i=2:=by unfold plc;omega
theorem zHo (i:Int):(wrap64 (i.tmod 3+3)).tmod 3=plc i:=by
 have h := @Int.tmod_eq_emod i 3;have h2:i.tmod 3=i % 3∨i.tmod 3=i % 3 - 3:=by
  split at h
  ·left;omega
  ·right;simp at h;omega
 rw [show wrap64 (i.tmod 3+3)=i.tmod 3+3 by rw [w64];omega,jEa (by omega)];unfold plc;omega
theorem zFn (i:Int) (w:World):Calls prog 114 #[i] w (Rt w (.int .i64 (plc i))):=by
 rw [←zHo]
 go_enter func114,ntmps114
 go_wp2
 go_ret
 exact ⟨rfl,by go_grown⟩
def crn (T:Tri3) (i:Int):Pt:=if plc i=0 then T.A else if plc i=1 then T.B else T.C
theorem crn_plc (T:Tri3) (i:Int):crn T (plc i)=crn T i:=by
 have:plc (plc i)=plc i:=by unfold plc;omega
 unfold crn;rw [this]
theorem crn_next (T:Tri3) (i:Int):crn T (plc i+1)=crn T (i+1):=by
 have:plc (plc i+1)=plc (i+1):=by unfold plc;omega
 unfold crn;rw [this]
theorem corner_0 (T:Tri3) (i:Int) (h:plc i=0) (w:World):Calls prog 115 #[T,i] w (Rt w (.agg #[T.A.x,T.A.y])):=by
 have cp:=zFn i;rw [h] at cp;clear h
 go_enter func115,ntmps115
 go_wp2_with fail;refine qE2 fun W1 Bt Br hw=>?_;refine qK2 (cp _) Bt Br hw fun w2 Bt Br hw=>?_;have Ft:=Bt.f;have Fr:=Br.f;go_wp2_with fail;refine bodyPost_ret (v:=.agg #[T.A.x,T.A.y]) (by simp [results,results115,go_sem,Fr]) rfl ⟨rfl,by have hl:=hw.size;go_grown⟩
theorem corner_1 (T:Tri3) (i:Int) (h:plc i=1) (w:World):Calls prog 115 #[T,i] w (Rt w (.agg #[T.B.x,T.B.y])):=by
 have cp:=zFn i;rw [h] at cp;clear h
 go_enter func115,ntmps115
 go_wp2_with fail;refine qE2 fun W1 Bt Br hw=>?_;refine qK2 (cp _) Bt Br hw fun w2 Bt Br hw=>?_;have Ft:=Bt.f;have Fr:=Br.f;go_wp2_with fail;refine bodyPost_ret (v:=.agg #[T.B.x,T.B.y]) (by simp [results,results115,go_sem,Fr]) rfl ⟨rfl,by have hl:=hw.size;go_grown⟩
theorem corner_2 (T:Tri3) (i:Int) (h:plc i=2) (w:World):Calls prog 115 #[T,i] w (Rt w (.agg #[T.C.x,T.C.y])):=by
 have cp:=zFn i;rw [h] at cp;clear h
 go_enter func115,ntmps115
 go_wp2_with fail;refine qE2 fun W1 Bt Br hw=>?_;refine qK2 (cp _) Bt Br hw fun w2 Bt Br hw=>?_;have Ft:=Bt.f;have Fr:=Br.f;go_wp2_with fail;refine bodyPost_ret (v:=.agg #[T.C.x,T.C.y]) (by simp [results,results115,go_sem,Fr]) rfl ⟨rfl,by have hl:=hw.size;go_grown⟩
theorem zEr (T:Tri3) (i:Int) (w:World):Calls prog 115 #[T,i] w (Rt w (.agg #[.int .i64 (crn T i).x,.int .i64 (crn T i).y])):=by
 rcases zHn i with h | h | h
 ·rw [show crn T i=T.A by unfold crn;simp [h]];exact corner_0 T i h w
 ·rw [show crn T i=T.B by unfold crn;simp [h]];exact corner_1 T i h w
 ·rw [show crn T i=T.C by unfold crn;simp [h]];exact corner_2 T i h w
theorem zBp (T:Tri3) (w:World):Calls prog 165 #[T] w (Rt w (.agg #[T.B.x,T.B.y,T.C.x,T.C.y,T.A.x,T.A.y])):=by
 go_enter func165,ntmps165
 go_wp2_with fail;refine bodyPost_ret (v:=.agg #[T.B.x,T.B.y,T.C.x,T.C.y,T.A.x,T.A.y]) (by simp [results,results165,go_sem]) rfl ⟨rfl,by go_grown⟩
def leq (p q:Pt):Bool:=decide (cmpP p q≤0)
def lds (T:Tri3):Bool:=leq T.A T.B && leq T.A T.C
theorem leads_0 (T:Tri3) (h:leq T.A T.B=false) (w:World):Calls prog 147 #[T] w (Rt w (.bool false)):=by
 have c1:=zAu T.A T.B;unfold leq at h;generalize cmpP T.A T.B=n at *
 go_enter func147,ntmps147
 go_wp2_with fail;refine qE1 fun W1 Bt hw=>?_;refine qC1 (c1 _) Bt hw fun w2 Bt hw Ft=>?_;go_wp2
 go_ret
 exact ⟨rfl,by have hl:=hw.size;go_grown⟩
theorem leads_1 (T:Tri3) (h:leq T.A T.B=true) (w:World):Calls prog 147 #[T] w (Rt w (.bool (leq T.A T.C))):=by
 have c1:=zAu T.A T.B;have c2:=zAu T.A T.C;unfold leq at h ⊢;generalize cmpP T.A T.B=n at *
 generalize cmpP T.A T.C=m at *
 go_enter func147,ntmps147
 go_wp2_with fail;refine qE1 fun W1 Bt hw=>?_;refine qC1 (c1 _) Bt hw fun w2 Bt hw Ft=>?_;go_wp2_with fail;clear Ft;refine qC1 (c2 _) Bt hw fun w3 Bt hw Ft=>?_;go_wp2
 go_ret
 exact ⟨rfl,by have hl:=hw.size;go_grown⟩
theorem zAx (T:Tri3) (w:World):Calls prog 147 #[T] w (Rt w (.bool (lds T))):=by
 unfold lds;cases h:leq T.A T.B with
 | false=>exact leads_0 T h w
 | true=>exact leads_1 T h w
def valS (T:Tri3):Bool:=decide (0 < ori T.A T.B T.C) && lds T
theorem tvalid_0 (T:Tri3) (h:decide (0 < ori T.A T.B T.C)=false) (w:World):Calls prog 111 #[T] w (Rt w (.bool false)):=by
 have c1:=zA5 T.A T.B T.C;generalize ori T.A T.B T.C=n at *
 go_enter func111,ntmps111
 go_wp2_with fail;refine qE1 fun W1 Bt hw=>?_;refine qC1 (c1 _) Bt hw fun w2 Bt hw Ft=>?_;go_wp2
 go_ret
 exact ⟨rfl,by have hl:=hw.size;go_grown⟩
theorem tvalid_1 (T:Tri3) (h:decide (0 < ori T.A T.B T.C)=true) (w:World):Calls prog 111 #[T] w (Rt w (.bool (lds T))):=by
 have c1:=zA5 T.A T.B T.C;have c2:=zAx T;generalize ori T.A T.B T.C=n at *
 generalize lds T=m at *
 go_enter func111,ntmps111
 go_wp2_with fail;refine qE1 fun W1 Bt hw=>?_;refine qC1 (c1 _) Bt hw fun w2 Bt hw Ft=>?_;go_wp2_with fail;clear Ft;refine qC1 (c2 _) Bt hw fun w3 Bt hw Ft=>?_;go_wp2
 go_ret
 exact ⟨rfl,by have hl:=hw.size;go_grown⟩
theorem zC1 {p q:Pt} (hp:vld p=true) (hq:vld q=true):leq p q=decide (key p≤key q):=by
 have h:=zF8 hq hp;have h2:=zCd hp hq;have h3:=zA8 (key p - key q);unfold leq;by_cases hh:key p≤key q
 ·rw [jCo hh,jCo];omega
 ·rw [jCd hh,jCd];omega
theorem zE8 {s u:Tri3}:teq s u=true↔s=u:=by
 unfold teq;simp only [jA3,zC9];cases s with | mk a b c=>cases u with | mk d e f=>cases a;cases b;cases c;cases d;cases e;cases f;simp [and_assoc]
theorem Tri3.eq_iff {s u:Tri3}:s=u↔s.A=u.A∧s.B=u.B∧s.C=u.C:=by
 cases s;cases u;simp
theorem zJe (T:Tri3):valT T=valS T:=by
 obtain ⟨a,b,c⟩:=T;unfold valT valS lds;simp only;have hb:=zAw a b c;by_cases h0:ori a b c=0
 ·simp [h0]
 ·obtain ⟨va,vb,vc⟩:=zBy h0;obtain ⟨d1,d2,d3⟩:=zBm h0;have n1:key a≠key b:=fun h=>d1 (zBo va vb h).symm;have n2:key a≠key c:=fun h=>d2 (zBo va vc h).symm;have n3:key b≠key c:=fun h=>d3 (zBo vb vc h).symm;rw [zC1 va vb,zC1 va vc,show (!decide (ori a b c=0))=true by simp [h0],jCp];rw [jCs,zE8];by_cases h1:ori a b c=1
  ·rw [show mk a b c=mkT a b c by unfold mk;rw [jA0 h0,jAc h1]];rcases zEf va vb vc n1 n2 n3 with ⟨x1,x2,e⟩ | ⟨x1,x2,e⟩ | ⟨x1,x2,e⟩ <;> rw [e,Tri3.eq_iff] <;> simp only [jA3,jA4]
   ·simp;omega
   ·exact ⟨fun h=>absurd h.1 d1,fun h=>by omega⟩
   ·exact ⟨fun h=>absurd h.1 d2,fun h=>by omega⟩
  ·have h2:ori a b c = -1:=by omega
   rw [show mk a b c=mkT a c b by unfold mk;rw [jA0 h0,jA0 h1]];rcases zEf va vc vb n2 n1 n3.symm with ⟨x1,x2,e⟩ | ⟨x1,x2,e⟩ | ⟨x1,x2,e⟩ <;> rw [e,Tri3.eq_iff] <;> simp only [jA3,jA4]
   ·exact ⟨fun h=>absurd h.2.1 d3,fun h=>by omega⟩
   ·exact ⟨fun h=>absurd h.1 d2,fun h=>by omega⟩
   ·exact ⟨fun h=>absurd h.1 d1,fun h=>by omega⟩
theorem zBl (T:Tri3) (w:World):Calls prog 111 #[T] w (Rt w (.bool (valT T))):=by
 rw [zJe];unfold valS;cases h:decide (0 < ori T.A T.B T.C) with
 | false=>exact tvalid_0 T h w
 | true=>exact tvalid_1 T h w
end
section
open Go.RowKit
instance:DecidableEq Tri3:=fun p q=>decidable_of_iff (p.A=q.A∧p.B=q.B∧p.C=q.C) Tri3.eq_iff.symm
instance:Inhabited Tri3:=⟨⟨⟨0,0⟩,⟨0,0⟩,⟨0,0⟩⟩⟩
def cP (p:Pt):List Value:=[p.x,p.y]
def cT (t:Tri3):List Value:=[t.A.x,t.A.y,t.B.x,t.B.y,t.C.x,t.C.y]
@[reducible] def eT (t:Tri3):Value:=.agg #[t.A.x,t.A.y,t.B.x,t.B.y,t.C.x,t.C.y]
def okT (t:Tri3):Prop:=okP t.A∧okP t.B∧okP t.C
section
variable {α:Type}
def RowAt (c:α→List Value) (k:Nat) (w:World) (a:Option Addr) (L:List α):Prop:=
 ∀ (j:Nat) (x:α),L[j]? = some x→∃ ad,a=some ad∧ad.block < w.heap.size∧∀ i u,(c x)[i]? = some u→w.cell? ((ad.add (j * k)).add i)=some u
theorem zAo (a:Addr) (n:Nat):(a.add n).block=a.block:=by unfold Addr.add;split <;> rfl
theorem RowAt.ext {c:α→List Value} {k:Nat} {w w':World} {a:Option Addr} {L:List α} {n:Nat} (h:RowAt c k w a L) (hb:Below n w w') (hn:n=w.heap.size):RowAt c k w' a L:=fun j x hx=>by
 obtain ⟨ad,h1,h2,h3⟩:=h j x hx;refine ⟨ad,h1,jBj h2 hb.size,fun i u hu=>?_⟩;rw [hb.cell (p:=(ad.add (j * k)).add i) (by rw [zAo,zAo,hn];exact h2)];exact h3 i u hu
theorem RowAt.ee {c:α→List Value} {k:Nat} {w w':World} {a:Option Addr} {L:List α} (h:RowAt c k w a L) (hb:Below w w w'):RowAt c k w' a L:=h.ext hb rfl
theorem RowAt.kept {c:α→List Value} {k:Nat} {w w':World} {a:Option Addr} {L:List α} {row:Option Nat} (h:RowAt c k w a L) (hg:w.grownBy w' row) (hne:∀ ad,a=some ad→some ad.block≠row):RowAt c k w' a L:=fun j x hx=>by
 obtain ⟨ad,h1,h2,h3⟩:=h j x hx;refine ⟨ad,h1,jBj h2 hg.size,fun i u hu=>?_⟩;exact hg.cell (h3 i u hu) (by rw [zAo,zAo];exact hne ad h1)
theorem RowAt.nil {c:α→List Value} {k:Nat} {w:World} {a:Option Addr}:RowAt c k w a []:=fun j x h=>by simp at h
theorem RowAt.old {c:α→List Value} {k:Nat} {w:World} {a:Option Addr} {L:List α} (h:RowAt c k w a L) (o:Obj):RowAt c k (w.alloc o) a L:=
 h.kept (World.grownBy_alloc w o none) (by simp)
theorem RowAt.tri {w:World} {a:Option Addr} {L:List Tri3} (h:RowAt cT 6 w a L) {j:Nat} (hj:j < L.length):∃ ad A,a=some ad∧ad.add (j * 6)=A∧(A.block=w.heap.size)=False∧A.block < w.heap.size∧(w.cell? A=some (.int .i64 L[j].A.x)∧w.cell? ⟨A.block,A.off+1,none⟩=some (.int .i64 L[j].A.y)∧w.cell? ⟨A.block,A.off+2,none⟩=some (.int .i64 L[j].B.x)∧w.cell? ⟨A.block,A.off+3,none⟩=some (.int .i64 L[j].B.y)∧w.cell? ⟨A.block,A.off+4,none⟩=some (.int .i64 L[j].C.x)∧w.cell? ⟨A.block,A.off+5,none⟩=some (.int .i64 L[j].C.y)):=by
 obtain ⟨ad,h1,h2,h3⟩:=h j L[j] (jA8 hj);have hb:(ad.add (j * 6)).block=ad.block:=zAo _ _;refine ⟨ad,_,h1,rfl,by rw [hb];simp;omega,by rw [hb];exact h2,?_⟩;have e0:=h3 0 _ rfl;have e1:=h3 1 _ rfl;have e2:=h3 2 _ rfl;have e3:=h3 3 _ rfl;have e4:=h3 4 _ rfl;have e5:=h3 5 _ rfl;simp only [Addr.add_zero',Addr.add_succ'] at e0 e1 e2 e3 e4 e5;exact ⟨e0,e1,e2,e3,e4,e5⟩
theorem RowAt.pt {w:World} {a:Option Addr} {L:List Pt} (h:RowAt cP 2 w a L) {j:Nat} (hj:j < L.length):∃ ad A,a=some ad∧ad.add (j * 2)=A∧(A.block=w.heap.size)=False∧A.block < w.heap.size∧(w.cell? A=some (.int .i64 L[j].x)∧w.cell? ⟨A.block,A.off+1,none⟩=some (.int .i64 L[j].y)):=by
 obtain ⟨ad,h1,h2,h3⟩:=h j L[j] (jA8 hj);have hb:(ad.add (j * 2)).block=ad.block:=zAo _ _;refine ⟨ad,_,h1,rfl,by rw [hb];simp;omega,by rw [hb];exact h2,?_⟩;have e0:=h3 0 _ rfl;have e1:=h3 1 _ rfl;simp only [Addr.add_zero',Addr.add_succ'] at e0 e1;exact ⟨e0,e1⟩
end
end
section
open Go.RowKit Go.Sort
theorem wp_region_lateG {P : Program} {C : World → Prop} {id : Nat} {Q : Exit → Act → World → Prop} {a : Act} {w : World} {l hd : List Oper} (n j s : Nat) (d t : Tmp) {T : TypeId} {zs us : List Value} {eff : Nat → World → World} (heff : ∀ (w : World) (b : Nat), w.heap[b]? = some (.cells zs.toArray T) → (eff b w).heap[b]? = some (.cells us.toArray T) ∧ (∀ B, B ≤ b → Below B w (eff b w))) (u : Value) {oj os : Oper}
    (hoj:l.toArray[j]? = some oj) (hos:l.toArray[s]? = some os) (hjd:oj.dst=some d) (hafter:oj.after=#[]) (hguard:oj.guard=none) (hsd:os.dst=none) (hsg:os.guard=none)
    (hdsz:d < a.tmps.size)
    (hrun:∀ (ρ:Operand→Value) (w:World),(execOp ρ oj).run P w=.ok (.value (.pointer (some ⟨w,0,none⟩))) (w.alloc (.cells zs.toArray T)))
    (hm:P.follows .mixedOrders=true) (hB:lateB .any l.toArray n j s d t=true)
    (hhd:((List.range n).filter fun i=>i != j && i != s).map (fun i=>l.toArray[i]?)=hd.map some)
    (hC:∀ w',Below w w w'→C w')
    (h:rWalk P l.toArray C (fun a'=>a'.eval (.tmp t)=u∧∀ w' b,Below w w w'→w.heap.size≤b→b < w'.heap.size→Box w' b us T→wpList P l.toArray Q (l.drop n) (a'.put (some d) (.pointer (some ⟨b,0,none⟩))) w') hd a)
    (hst:∀ (ρ:Operand→Value) (w:World) (b:Nat),ρ (.tmp d)=.pointer (some ⟨b,0,none⟩)→ρ (.tmp t)=u→Box w b zs T→(execOp ρ os).run P w=.ok .skip (eff b w)) :
    (Code.region id l.toArray true).wp P Q a w:=by
 simp only [lateB,jA3,jA4] at hB;obtain ⟨⟨⟨⟨⟨⟨⟨⟨⟨⟨⟨⟨⟨hsel,hn⟩,hjn⟩,hsn⟩,hjs⟩,hdt⟩,hs⟩,hc⟩,hph⟩,hbk⟩,hsj⟩,hwr⟩,hqa⟩,ho⟩:=hB;have K:Late P .any l.toArray n j s d t T zs.toArray us.toArray u oj os eff:=
  ⟨hsel,hn,hjn,hsn,hjs,hs,hc,hbk,hoj,hos,hjd,hafter,hguard,hsd,hsg,hsj,hdt,hwr,hrun,hst,fun w b h=>heff w b h⟩
 have hjz:(Array.replicate l.toArray.size false).getD j true=false:=getD_in (by simp;simp at hn;omega) (getD_replicate_false _ _);have hsz:(Array.replicate l.toArray.size false).getD s true=false:=getD_in (by simp;simp at hn;omega) (getD_replicate_false _ _);have tl:∀ (m:Array Bool) (i:Nat),i < n→(m.size=l.toArray.size∧∀ t',n≤t'→t' < l.toArray.size→m.getD t' true=false)→((m.setIfInBounds i true).size=l.toArray.size∧∀ t',n≤t'→t' < l.toArray.size→(m.setIfInBounds i true).getD t' true=false):=
  fun m i hi ⟨h1,h2⟩=>⟨by simpa using h1,fun t' ht ht'=>by rw [getD_set_ne true (by omega)];exact h2 t' ht ht'⟩
 have i0:(Array.replicate l.toArray.size false).size=l.toArray.size∧∀ t',n≤t'→t' < l.toArray.size→(Array.replicate l.toArray.size false).getD t' true=false:=
  ⟨by simp,fun t' _ ht'=>getD_in (by simpa using ht') (getD_replicate_false _ _)⟩
 have H:=zBx (md:=.any) (g:=l.toArray.size - n) hsel (fun m=>m.size=l.toArray.size∧∀ t',n≤t'→t' < l.toArray.size→m.getD t' true=false) (fun m i hi _ hin=>tl m i hin hi) (fun m hm=>zH4 hph hc hm.2)
  ((List.range n).filter fun i=>i != j && i != s) hd _ a hhd (tl _ s hsn (tl _ j hjn i0)) ho h
 refine wp_region_any hm ?_;have R:=zKs (md:=.any) (Q:=Q) (l:=l.drop n) (w0:=w) K hqa (g:=l.toArray.size - n) (by simp) (fun j=>by simp [jCr]) hC (fun a' hl=>hl.1)
  (fun a' w' b h1 h2 h3 h4 hl=>hl.2 w' b h1 h2 h3 h4) _ (Array.replicate l.toArray.size false) a { w with drawn:=w.drawn+1 } hdsz ⟨rfl,rfl,rfl,jA9 _,fun _ _=>rfl⟩ hjz hsz headInv0 H
 have hcount:((List.range n).filter fun i=>i != j && i != s).length+1+1=n:=zLc hjn hsn hjs;rw [show ((List.range n).filter fun i=>i != j && i != s).length+(l.toArray.size - n)+1+1=l.toArray.size by omega] at R;exact R
theorem zC7 {P : Program} {C : World → Prop} {id : Nat} {Q : Exit → Act → World → Prop} {a : Act} {w : World} {l : List Oper} (m : Nat) (d t : Tmp) {T : TypeId} {zs : List Value} (us : List Value) {eff : Nat → World → World} (heff : ∀ (w : World) (b : Nat), w.heap[b]? = some (.cells zs.toArray T) → (eff b w).heap[b]? = some (.cells us.toArray T) ∧ (∀ B, B ≤ b → Below B w (eff b w))) {oj os : Oper}
    (hoj:l.toArray[m]? = some oj) (hos:l.toArray[m+1]? = some os) (hjd:oj.dst=some d) (hafter:oj.after=#[]) (hguard:oj.guard=none) (hsd:os.dst=none) (hsg:os.guard=none)
    (hdsz:d < a.tmps.size)
    (hrun:∀ (ρ:Operand→Value) (w:World),(execOp ρ oj).run P w=.ok (.value (.pointer (some ⟨w,0,none⟩))) (w.alloc (.cells zs.toArray T)))
    (hm:P.follows .mixedOrders=true) (hB:lateB .any l.toArray (m+2) m (m+1) d t=true)
    (hC:∀ w',Below w w w'→C w')
    (h:rWalk P l.toArray C (fun a'=>a'.eval (.tmp t)=.agg us.toArray∧∀ w' b,Below w w w'→w.heap.size≤b→b < w'.heap.size→Box w' b us T→wpList P l.toArray Q (l.drop (m+2)) (a'.put (some d) (.pointer (some ⟨b,0,none⟩))) w') (l.take m) a)
    (hst:∀ (ρ:Operand→Value) (w:World) (b:Nat),ρ (.tmp d)=.pointer (some ⟨b,0,none⟩)→ρ (.tmp t)=.agg us.toArray→Box w b zs T→(execOp ρ os).run P w=.ok .skip (eff b w)) :
    (Code.region id l.toArray true).wp P Q a w:=by
 refine wp_region_lateG (hd:=l.take m) (m+2) m (m+1) d t heff _ hoj hos hjd hafter hguard hsd hsg hdsz hrun hm hB ?_ hC h hst;have hn:m+2 < l.length:=by
  simp only [lateB,jA3,jA4] at hB;have:=hB.1.1.1.1.1.1.1.1.1.1.1.1.2
  simpa using this
 rw [zKi];apply jD4;intro j;simp only [jDj,jBw];by_cases hj:j < m
 ·simp [hj,show j < l.length by omega]
 ·simp [hj]
def eff6 (c0 c1 c2 c3 c4 c5:Value) (b:Nat) (w:World):World:=(((((w.setCell ⟨b,0,none⟩ c0).setCell ⟨b,1,none⟩ c1).setCell ⟨b,2,none⟩ c2).setCell ⟨b,3,none⟩ c3).setCell ⟨b,4,none⟩ c4).setCell ⟨b,5,none⟩ c5
theorem zI4 {c0 c1 c2 c3 c4 c5 z:Value} {T:TypeId} (w:World) (b:Nat) (h:w.heap[b]? = some (.cells [z,z,z,z,z,z].toArray T)):(eff6 c0 c1 c2 c3 c4 c5 b w).heap[b]? = some (.cells [c0,c1,c2,c3,c4,c5].toArray T)∧(∀ B,B≤b→Below B w (eff6 c0 c1 c2 c3 c4 c5 b w)):=by
 have B0:Box w b [z,z,z,z,z,z] T:=h;exact ⟨(((((B0.set 0 c0).set 1 c1).set 2 c2).set 3 c3).set 4 c4).set 5 c5,fun B hB=>((((((Below.refl B w).setCell hB _).setCell hB _).setCell hB _).setCell hB _).setCell hB _).setCell hB _⟩
end
end Go.Proofs.YtogffkimgmlilaaGreat
