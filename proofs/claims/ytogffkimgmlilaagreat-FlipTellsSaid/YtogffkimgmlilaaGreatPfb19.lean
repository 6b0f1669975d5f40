/- Put together: Sort, MesJ, MesK, Sub, Mrg. -/
import Derived.Test.YtogffkimgmlilaaGreatPfb18
import Derived.Deep.Slices
set_option maxRecDepth 100000
set_option maxHeartbeats 8000000
set_option linter.all false
namespace Go.Proofs.YtogffkimgmlilaaGreat
open _root_.Go.Proofs.Tryz
section
open Go.RowKit Go.Sort Go.Lib Go.Shelf
theorem zIc (x:Tri3):(cT x).length=6:=rfl
theorem zD1 (x:Pt):(cP x).length=2:=rfl
theorem zOy (x:Tri3):∀ v∈cT x,v.oneCell'=true:=by intro v hv;simp [cT] at hv;rcases hv with rfl | rfl | rfl | rfl | rfl | rfl <;> rfl
theorem cP_one (x:Pt):∀ v∈cP x,v.oneCell'=true:=by intro v hv;simp [cP] at hv;rcases hv with rfl | rfl <;> rfl
theorem cmpLaysT (blk off size:Nat) (w:World):CmpLays prog 82 #[] cT 6 cmpT blk off size w:=fun _ _ _ _ x y=>
 (dcmpT_any x y _).mono fun _ _ ⟨he,hx⟩=>⟨he,hx.grown⟩
theorem cmpLaysP (blk off size:Nat) (w:World):CmpLays prog 55 #[] cP 2 cmpP blk off size w:=fun _ _ _ _ x y=>
 (zHd x y _).mono fun _ _ ⟨he,hx⟩=>⟨he,hx.grown⟩
theorem enterT:∀ args w,(callFunc 82 args).run prog w=.ok (.enter 82 args) w:=enters_of func82 (by kernel_rfl) rfl
theorem enterP:∀ args w,(callFunc 55 args).run prog w=.ok (.enter 55 args) w:=enters_of func55 (by kernel_rfl) rfl
theorem zK9 (B:Nat) (v:Value) (L:List Tri3) (hL:L.length≤3000000) (w:World) (h:w.ownsRow B 56 6 v L.length (L.flatMap cT)):Calls prog 81 #[v,.func (.func 82) #[] #[]] w fun e w'=>e=.returned (.tuple #[])∧w.grownBy w' v.ownBlock∧∃ a cap,v=.slice a L.length cap∧RowAt cT 6 w' a (srt cmpT L):=by
 have h2:=h.2;rcases h2 with ⟨rfl,h0⟩ | ⟨g,cap,cur,rfl,hB,hb,h1,h2,h3,h4⟩
 ·have:L=[]:=jCe h0;subst this;have hc:=AnyF.slices_SortFunc_none { sortTri with } none 0 (.func (.func 82) #[] #[]) w
  change Calls prog 81 _ _ _ at hc
  exact hc.mono fun e w' ⟨he,hw⟩=>⟨he,hw▸zCa _ _,none,0,rfl,by rw [show srt cmpT ([]:List Tri3)=[] by simp [srt]];exact RowAt.nil⟩
 ·obtain ⟨hH,hg⟩:=zCx zIc h;have hc:=AnyQ.slices_SortFunc_total sortTri 6 Tryz.isAgg56 Tryz.sizeOf56 cT zIc zOy cmpT wholeT.swo 82 #[] g 0 cap L.toArray w enterT (cmpLaysT g 0 _ w) hH hg (by simp;omega) wholeT.one
  change Calls prog 81 _ _ _ at hc
  rw [show L.toArray.size=L.length by simp] at hc;refine hc.mono fun e w' ⟨he,n,os,hw⟩=>⟨he,?_,_,cap,rfl,?_⟩
  ·rw [hw];exact zBz _
  ·rw [hw];exact zDz zIc (zGf hH hg (by simp)) (jBj hg (zBz (c:=cT) (k:=6) _).size)
end
section
open Go.RowKit Go.Sort
attribute [local go_sem] rOper rAt rUpon cell_set sg_i64 sg_u64 alloc_cell alloc_frozen
attribute [local go_sem 10000] pt_eql pt_neq tri_eql
attribute [local irreducible] rWalk
theorem info_tri:(prog.info? 56).map (fun i=>(i.zero,i.size,i.bytes))=some (some (.agg #[(),(),(),(),(),()]),6,48):=by kernel_rfl
theorem zBb {w:World} {ops:Array Oper} {rest:List Oper} {o:Oper} {a:Act} {Q:Exit→Act→World→Prop} (hgd:o.guard=none) (s x:Operand) (ho:o.op=.call { callee:=.builtin .append,args:=#[s,x],argTypes:=#[34,34] }) (B:Nat) (v:Value) (L:List Tri3) (hs:a.eval s=v) (hown:w.ownsRow B 56 6 v L.length (L.flatMap cT)) (bx:Nat) (T:Tri3) (hx:a.eval x=.slice (some ⟨bx,0,none⟩) 1 1) (hbx:Box w bx (cT T) 56) (hn:L.length≤1000000) (hbase:B≤w.heap.size) (h:∀ w' v',w'.ownsRow B 56 6 v' (L ++ [T]).length ((L ++ [T]).flatMap cT)→w.grownBy w' v.ownBlock→wpList prog ops Q rest (a.put o.dst v') w'):wpList prog ops Q (o :: rest) a w:=by
 obtain ⟨i0,hi,hz0,hz1,hz2⟩:=info_parts info_tri;refine wpList_append_own w hgd s x 34 ho B 56 i0 _ 6 48 underlying34 hi hz0 hz1 hz2 rfl (by decide) v L.length _ hs hown ⟨bx,0,none⟩ 1 1 (cT T) hx rfl ?_ (zOy T) ?_ ?_ hbase ?_
 ·intro j u hj;have:=hbx.f.1 j;rw [hj] at this;rw [Addr.add_lit,jCa];exact this
 ·unfold maxLen;omega
 ·omega
 ·intro v' w' hown' hg _;refine h w' v' ?_ hg;rw [jAa,jCc,jBe]
  simpa using hown'
def heads (p:Tri3→Bool) (E:Es):List Tri3:=(E.filter fun e=>decide (e.1.1=e.2.A) && p e.2).map (·.2)
theorem zCl {p:Tri3→Bool} {E F:Es} (h:E.Perm F):(heads p E).Perm (heads p F):=(h.filter _).map _
theorem zAs (p:Tri3→Bool) (E F:Es):heads p (E ++ F)=heads p E ++ heads p F:=by unfold heads;rw [jC9,jBn]
theorem heads_len (p:Tri3→Bool) (E:Es):(heads p E).length≤E.length:=by unfold heads;rw [jCl];exact jCk _ _
theorem zFq {p:Tri3→Bool} {e:(Pt×Pt)×Tri3} (h:e.1.1=e.2.A) (hp:p e.2=true):heads p [e]=[e.2]:=by simp [heads,h,hp]
theorem zE4 {p:Tri3→Bool} {e:(Pt×Pt)×Tri3} (h:¬ (e.1.1=e.2.A∧p e.2=true)):heads p [e]=[]:=by
 unfold heads;rw [jB7]
 ·rfl
 ·simpa using h
theorem zH6 {w:World} {B k:Nat} {T:TypeId} {v:Value} {n:Nat} {xs:List Value} (h:w.ownsRow B T k v n xs):∀ g,v.ownBlock=some g→∃ cs T',w.heap[g]? = some (.cells cs T' (0,0)):=fun g hg=>by
 rcases h.2 with ⟨rfl,_⟩ | ⟨g',cap,cur,rfl,_,hb,_⟩
 ·simp [Value.ownBlock] at hg
 ·simp [Value.ownBlock] at hg;subst hg;exact ⟨_,_,hb⟩
theorem zB5 {w:World} {B k b:Nat} {T:TypeId} {v:Value} {n:Nat} {xs:List Value} {E:Es} (h:w.ownsRow B T k v n xs) (H:HoldsMap eW eT okW w b E):some b≠v.ownBlock:=fun e=>by
 obtain ⟨cs,T',hc⟩:=zH6 h b e.symm;obtain ⟨es,clock,hb,_⟩:=H;rw [hb] at hc;cases hc
theorem zAr {w:World} {B k b r:Nat} {T:TypeId} {v:Value} {n:Nat} {xs:List Value} {E R:Es} (h:w.ownsRow B T k v n xs) (H:Ranging eW eT okW w b r E R):some r≠v.ownBlock:=fun e=>by
 obtain ⟨cs,T',hc⟩:=zH6 h r e.symm;obtain ⟨es,clock,_,_,_,_,_,_,_,_,hr,_⟩:=H;rw [hr] at hc;cases hc
theorem zAc {w:World} {b r:Nat} {E R:Es} (H:Ranging eW eT okW w b r E R):w.rangeLeft b r=R.length:=by
 obtain ⟨es,clock,since,seen,c0,hb,_,_,_,_,hr,_,hl,_⟩:=H;simp only [World.rangeLeft,hb,hr];have:=hl.length_eq
 simpa using this
theorem those_any (mb b:Nat) (E:Es) (g:FuncId) (cb:Array Value) (p:Tri3→Bool) (hE:E.length≤1000000) (w:World) (Bm:Box w mb [.map (some b)] 81) (Hm:HoldsMap eW eT okW w b E) (eg:∀ args w,(callFunc g args).run prog w=.ok (.enter g args) w) (hp:∀ (T:Tri3) (W:World),Below w w W→Calls prog g (#[.agg #[T.A.x,T.A.y,T.B.x,T.B.y,T.C.x,T.C.y]] ++ cb) W fun e w'=>e=.returned (.bool (p T))∧Below W W w'):Calls prog 42 #[pt0 mb,.func (.func g) #[] cb] w fun e w'=>∃ a cap,e=.returned (.slice a (srt cmpT (heads p E)).length cap)∧RowAt cT 6 w' a (srt cmpT (heads p E))∧Below w w w':=by
 obtain ⟨xm,ym,zm,vm⟩:=Bm.f
 go_enter func42,ntmps42
 go_wp2_with (at_range;refine zB1 _ rfl _ rfl kvM rfl Hm ?_)
 intro w0 HR0 hw0 _;clear xm ym zm vm;go_wp2
 go_loopw [5] (fun v wr=>∃ D R:Es,Hid ((D ++ R).Perm E)∧wr.ownsRow w.heap.size 56 6 v (heads p D).length ((heads p D).flatMap cT)∧Ranging eW eT okW wr b w.heap.size E R∧Below w w wr) (fun _ wr=>wr.rangeLeft b w.heap.size)
 case atStart=>exact ⟨[],E,hdd (by simp),World.ownsRow_nil _ _ _ _,HR0,hw0⟩
 case round=>
  clear HR0 hw0;obtain ⟨D,R,hD,hown,HR,hw⟩:=hrel;go_wp2_with (at_next;refine zB8 _ rfl _ rfl rfl HR ?_ ?_)
  ·intro hR;subst hR;have hp0:(heads p D).Perm (heads p E):=zCl (by simpa using hD.out);have hle:(heads p D).length≤3000000:=by have:=hp0.length_eq;have:=heads_len p E;omega
   have HS:=hdd (wholeT.srt_of_perm hp0);go_wp2_with fail;refine (zK9 _ _ _ hle _ hown).mono ?_;rintro e w2 ⟨rfl,hg2,a,cap,rfl,hr⟩;go_wp2
   go_ret
   have hlen:(heads p D).length=(srt cmpT (heads p E)).length:=by rw [←HS.out];exact (srt_perm _).length_eq.symm
   rw [HS.out] at hr;refine ⟨a,cap,by rw [hlen];rfl,hr,hw.grown hg2 hw.size (fun k hk=>?_)⟩;exact (hown.lt k hk).1
  ·intro u x T R' w1 hperm HR1 hg1 hs1 hen;have hD2:=hdd (show ((D ++ [((u,x),T)]) ++ R').Perm E by have:=(hperm.append_left D).symm.trans hD.out;simpa using this);have own1:=hown.kept hg1 (.inr (fun e=>zAr hown HR e.symm));have hw1:=hw.grown hg1 hw.size (fun k hk=>by cases hk;exact jA9 _);have HL:=hdd (show w1.rangeLeft b w.heap.size < wr.rangeLeft b w.heap.size by rw [zAc HR1,zAc HR,hperm.length_eq];simp);have hen2:(Instr.entry (.pointer (some ⟨w,0,none⟩))).run prog w1=.ok (.tuple #[.agg #[u.x,u.y,x.x,x.y],T]) w1:=hen;have hle:(heads p D).length≤1000000:=by have:=hD2.out.length_eq;have:=heads_len p D;simp at *;omega
   clear hown HR hg1 hs1 hen hperm hw;have hnx:Hid (∀ W:World,Below w1 w1 W→(W.rangeLeft b w.heap.size < wr.rangeLeft b w.heap.size)):=hdd (fun W hW=>by
    rw [zAc (HR1.ee hW),←zAc HR1];exact HL.out)
   by_cases hA:u=T.A
   ·have hd:peqI u.x u.y T.A.x T.A.y=true:=zBe.2 hA;cases hT:p T with
    | false=>
     have HH:=hdd (show heads p (D ++ [((u,x),T)])=heads p D by rw [zAs,zE4 (by simp [hT])];simp);have cp:=fun W hW=>hp T W hW;rw [hT] at cp;clear hA hT;go_wp2_with fail;refine zA4 fun W2 hW=>?_;have hb2:Below w1 w1 W2:=by rw [hW];go_grown
     clear hW;refine (cp _ ((upB hw1 hb2))).mono ?_;rintro e w3 ⟨rfl,hb⟩;have hb3:=(upB hb2 hb);clear hb hb2;go_wp2
     go_roundw
     case rel=>exact ⟨D ++ [((u,x),T)],R',hD2,by rw [HH.out];exact own1.kept (zA6 hb3 none) (by cases u5.ownBlock <;> simp),HR1.ee hb3,(upB hw1 hb3)⟩
     case measure=>exact hnx.out _ hb3
    | true=>
     have HH:=hdd (show heads p (D ++ [((u,x),T)])=heads p D ++ [T] by rw [zAs,zFq hA hT]);have cp:=fun W hW=>hp T W hW;rw [hT] at cp;clear hA hT;go_wp2_with fail;refine zA4 fun W2 hW=>?_;have hb2:Below w1 w1 W2:=by rw [hW];go_grown
     have Bt:Box W2 (w1+1) (cT T) 56:=by rw [hW];exact Box.new (by simp)
     clear hW;refine (cp _ ((upB hw1 hb2))).mono ?_;rintro e w3 ⟨rfl,hb⟩;have hb3:=(upB hb2 hb);replace Bt:=Bt.ee hb;have own3:=own1.kept (zA6 hb3 none) (by cases u5.ownBlock <;> simp);have HB:=hdd (jAp hw1.size hb3.size);clear hb hb2;obtain ⟨xt,yt,zt,vt⟩:=Bt.f;unfold cT at xt;go_wp2_with (at_builtin;refine zBb rfl _ _ rfl w.heap.size _ (heads p D) rfl (own3.alloc _) w3.heap.size T rfl (Box.new rfl) hle (by have:=HB.out;simp;omega) ?_;intro w4 v4 hown4 hg4)
     have hR3:=(HR1.ee hb3).kept (World.grownBy_alloc w3 (.cells (cT T).toArray 56) none) (by simp) (by simp);have hR4:=hR3.kept hg4 (zB5 (own3.alloc _) hR3.holds) (zAr (own3.alloc _) hR3);have hw4:=((((upB hw1 hb3)).alloc (by have:=HB.out;omega) (.cells (cT T).toArray 56))).grown hg4 (by have:=HB.out;simp;omega) (fun k hk=>((own3.alloc (.cells (cT T).toArray 56)).lt k hk).1)
     go_roundw
     case rel=>exact ⟨D ++ [((u,x),T)],R',hD2,by rw [HH.out];exact hown4,hR4,hw4⟩
     case measure=>rw [zAc hR4,←zAc HR1];exact HL.out
   ·have hd:peqI u.x u.y T.A.x T.A.y=false:=by rw [←jBl,zBe];exact hA
    have HH:=hdd (show heads p (D ++ [((u,x),T)])=heads p D by rw [zAs,zE4 (by simp [hA])];simp);clear hA;go_wp2
    go_roundw
    case rel=>exact ⟨D ++ [((u,x),T)],R',hD2,by rw [HH.out];exact (own1.alloc _).alloc _,HR1.ext (by go_grown) rfl,by have:=hw1.size;go_grown⟩
    case measure=>exact hnx.out _ (by go_grown)
theorem trueCl (T:Tri3) (w:World):Calls prog 51 #[T] w (Rt w (.bool true)):=by
 go_enter func51,ntmps51
 go_wp2
 go_ret
 exact ⟨rfl,by go_grown⟩
theorem enterCl:∀ args w,(callFunc 51 args).run prog w=.ok (.enter 51 args) w:=enters_of func51 (by kernel_rfl) rfl
theorem mtris_any (mb b:Nat) (E:Es) (hE:E.length≤1000000) (w:World) (Bm:Box w mb [.map (some b)] 81) (Hm:HoldsMap eW eT okW w b E):Calls prog 18 #[pt0 mb] w fun e w'=>∃ a cap,e=.returned (.slice a (srt cmpT (heads (fun _=>true) E)).length cap)∧RowAt cT 6 w' a (srt cmpT (heads (fun _=>true) E))∧Below w w w':=by
 have ct:=those_any mb b E 51 #[] (fun _=>true) hE w Bm Hm enterCl (fun T W _=>trueCl T W)
 go_enter func18,ntmps18
 go_wp2_with fail;refine ct.mono ?_;rintro e w1 ⟨a,cap,rfl,hr,hb⟩;go_wp2
 go_ret
 exact ⟨a,cap,rfl,hr,hb⟩
theorem RowAt.part {α : Type} {c : α → List Value} {k : Nat} {w : World} {a : Option Addr} {L : List α} (h : RowAt c k w a L) (lo m cap : Nat) (hcap : L.length ≤ cap) :
    RowAt c k w (if cap=lo then a else a.map fun x=>x.add (lo * k)) ((L.drop lo).take m):=fun j x hj=>by
 have hj2:L[lo+j]? = some x:=by
  rw [jBw] at hj;split at hj
  ·rwa [jCr] at hj
  ·cases hj
 obtain ⟨ad,h1,h2,h3⟩:=h (lo+j) x hj2;have hl:=(jAj.1 hj2).1;refine ⟨ad.add (lo * k),?_,by rw [zAo];exact h2,fun i u hu=>?_⟩
 ·rw [jA0 (by omega),h1];rfl
 ·rw [show (ad.add (lo * k)).add (j * k)=ad.add ((lo+j) * k) by rw [Go.Deep.add_add,←jFc]];exact h3 i u hu
theorem zG2 (a:Option Addr) (n cap lo hi:Nat) (h1:lo≤hi) (h2:hi≤cap) (w:World):(Instr.slice 34 (.slice a n cap) (some (.int .i64 lo)) (some (.int .i64 hi)) none).run prog w=.ok (.slice (if cap=lo then a else a.map fun x=>x.add (lo * 6)) (hi - lo) (cap - lo)) w:=by
 simp [Instr.slice,Instr.sliceBounds,Instr.sliceBound,asIntOf,run_underlying underlying34,go_sem,h1,h2]
theorem run_from_tri (a:Option Addr) (n cap lo:Nat) (h1:lo≤n) (w:World):(Instr.slice 34 (.slice a n cap) (some (.int .i64 lo)) none none).run prog w=.ok (.slice (if cap=lo then a else a.map fun x=>x.add (lo * 6)) (n - lo) (cap - lo)) w:=by
 simp [Instr.slice,Instr.sliceBounds,Instr.sliceBound,asIntOf,run_underlying underlying34,go_sem,h1]
theorem run_upto_tri (a:Option Addr) (n cap hi:Nat) (h1:hi≤cap) (w:World):(Instr.slice 34 (.slice a n cap) none (some (.int .i64 hi)) none).run prog w=.ok (.slice a hi cap) w:=by
 cases a <;> simp [Instr.slice,Instr.sliceBounds,Instr.sliceBound,asIntOf,run_underlying underlying34,go_sem,h1,Addr.add]
theorem zGy (a:Option Addr) (n cap lo:Nat) (h1:lo≤n) (w:World):(Instr.slice 62 (.slice a n cap) (some (.int .i64 lo)) none none).run prog w=.ok (.slice (if cap=lo then a else a.map fun x=>x.add (lo * 2)) (n - lo) (cap - lo)) w:=by
 simp [Instr.slice,Instr.sliceBounds,Instr.sliceBound,asIntOf,run_underlying underlying62,go_sem,h1]
theorem run_upto_pt (a:Option Addr) (n cap hi:Nat) (h1:hi≤cap) (w:World):(Instr.slice 62 (.slice a n cap) none (some (.int .i64 hi)) none).run prog w=.ok (.slice a hi cap) w:=by
 cases a <;> simp [Instr.slice,Instr.sliceBounds,Instr.sliceBound,asIntOf,run_underlying underlying62,go_sem,h1,Addr.add]
end
section
section
variable {α:Type} {c:α→α→Int}
def Blocks (c:α→α→Int) (n:Nat) (L:List α):Prop:=∀ i j (hi:i < L.length) (hj:j < L.length),i < j→i / n=j / n→c L[i] L[j]≤0
theorem blocks_one (L:List α):Blocks c 1 L:=fun i j _ _ h e=>by rw [Nat.div_one,Nat.div_one] at e;omega
theorem blocks_all {n:Nat} {L:List α} (h:Blocks c n L) (hn:L.length≤n):InOrder c L:=by
 unfold InOrder;rw [jB0];intro i j hi hj hij;exact h i j hi hj hij (by rw [jEq (by omega),jEq (by omega)])
theorem zHf {n m:Nat} {L:List α} (h:Blocks c n L):InOrder c ((L.drop (n * m)).take n):=by
 unfold InOrder;rw [jB0];intro i j hi hj hij;simp only [jB3,jBm] at hi hj;simp only [jF9,List.getElem_drop];have h0:0 < n:=by omega
 refine h _ _ (by omega) (by omega) (by omega) ?_;rw [Nat.mul_add_div h0,Nat.mul_add_div h0,jEq (by omega),jEq (by omega)]
theorem blocks_append {n m:Nat} {O M:List α} (h:Blocks c n O) (hl:O.length=n * m) (hM:InOrder c M):Blocks c n (O ++ M):=by
 intro i j hi hj hij e;rw [jAa] at hi hj;by_cases h1:j < O.length
 ·rw [List.getElem_append_left h1,List.getElem_append_left (by omega)];exact h i j (by omega) h1 hij e
 ·by_cases h2:i < O.length
  ·exfalso
   have h0 : 0 < n := by rcases jE3 n with h | h; · subst h; rw [Nat.zero_mul] at hl; omega
                         ·exact h
   have e1:i / n < m:=by rw [jEn h0,jEg];omega
   have e2:m≤j / n:=by rw [Nat.le_div_iff_mul_le h0,jEg];omega
   omega
  ·rw [List.getElem_append_right (by omega),List.getElem_append_right (by omega)];unfold InOrder at hM;rw [jB0] at hM;exact hM (i - O.length) (j - O.length) (by omega) (by omega) (by omega)
structure Mrg (c:α→α→Int) (X M A B:List α):Prop where
 perm:(M ++ (A ++ B)).Perm X
 m:InOrder c M
 a:InOrder c A
 b:InOrder c B
 le:∀ x∈M,∀ y∈A ++ B,c x y≤0
theorem Mrg.start {A B:List α} (ha:InOrder c A) (hb:InOrder c B):Mrg c (A ++ B) [] A B:=⟨by simp,by simp [InOrder],ha,hb,by simp⟩
theorem inOrder_snoc {M:List α} {x:α} (h:InOrder c M) (hx:∀ y∈M,c y x≤0):InOrder c (M ++ [x]):=by
 unfold InOrder at *;rw [jDu];exact ⟨h,by simp,fun a ha b hb=>by simp at hb;subst hb;exact hx a ha⟩
theorem Mrg.left (W:Whole c) {X M A B:List α} {x:α} (h:Mrg c X M (x :: A) B) (hx:∀ y,B.head? = some y→c x y≤0):Mrg c X (M ++ [x]) A B:=by
 have hA:=h.a;unfold InOrder at hA;rw [jBk] at hA;have hxB:∀ y∈B,c x y≤0:=fun y hy=>by
  cases B with
  | nil=>simp at hy
  | cons z B=>
   have hb:=h.b;unfold InOrder at hb;rw [jBk] at hb;rcases jA1.1 hy with rfl | hy
   ·exact hx _ rfl
   ·exact W.le_trans (hx _ rfl) (hb.1 y hy)
 refine ⟨by simpa using h.perm,inOrder_snoc h.m (fun y hy=>h.le y hy x (by simp)),hA.2,h.b,fun z hz y hy=>?_⟩;rcases jAg.1 hz with hz | hz
 ·exact h.le z hz y (by simp at hy ⊢;exact .inr hy)
 ·simp at hz;subst hz;rcases jAg.1 hy with hy | hy
  ·exact hA.1 y hy
  ·exact hxB y hy
theorem Mrg.right (W:Whole c) {X M A B:List α} {x:α} (h:Mrg c X M A (x :: B)) (hx:∀ y,A.head? = some y→c x y≤0):Mrg c X (M ++ [x]) A B:=by
 have h2:Mrg c X M (x :: B) A:=⟨((jB5).append_left M).trans h.perm,h.m,h.b,h.a,fun z hz y hy=>h.le z hz y (by simp at hy ⊢;rcases hy with h | h | h <;> simp [h])⟩;have h3:=h2.left W hx;exact ⟨((jB5).append_left _).trans h3.perm,h3.m,h3.b,h3.a,fun z hz y hy=>h3.le z hz y (by simp at hy ⊢;exact hy.symm)⟩
theorem Mrg.done {X M:List α} (h:Mrg c X M [] []):M.Perm X:=by simpa using h.perm
theorem two_blocks (L:List α) (at_ n:Nat):(L.drop at_).take n ++ (L.drop (at_+n)).take n=(L.drop at_).take (2 * n):=by
 rw [←jF6,Nat.two_mul,List.take_add]
end
end
end Go.Proofs.YtogffkimgmlilaaGreat
