import Derived.Test.YthhcehmmglmlfaaGreatPgo4
import Derived.Deep.Slices
import Derived.Shelf.Spec.SlicesInsert
import Derived.Lib.AppendZerosOnto
import Derived.Shelf.RegionOpenPlain
import Derived.Deep.AppendLies
import Derived.Deep.RegionHeld3
set_option maxRecDepth 100000
set_option maxHeartbeats 8000000
set_option linter.all false
namespace Go.Proofs.YthhcehmmglmlfaaGreat
open _root_.Go.Proofs.Tryz
section
open Go.RowKit Go.Sort
section
open Go.Lib Go.Shelf
theorem ks (x:Tri3):(cT x).length=6:=rfl
theorem tn (x:Pt):(cP x).length=2:=rfl
theorem Kx (x:Tri3):∀ v∈cT x,v.oneCell'=true:=by intro v hv;simp [cT] at hv;rcases hv with rfl | rfl | rfl | rfl | rfl | rfl <;> rfl
theorem cP_one (x:Pt):∀ v∈cP x,v.oneCell'=true:=by intro v hv;simp [cP] at hv;rcases hv with rfl | rfl <;> rfl
theorem cmpLaysT (blk off size:Nat) (w:World):CmpLays prog 36 #[] cT 6 cmpT blk off size w:=λ_ _ _ _ x y=>
 (dcmpT_any x y _).mono λ_ _ ⟨he,hx⟩=>⟨he,hx.grown⟩
theorem enterT:∀ args w,(callFunc 36 args).run prog w=.ok (.enter 36 args) w:=enters_of func36 (by kernel_rfl) rfl
theorem uC (B:Nat) (v:Value) (L:List Tri3) (hL:L.length<=3000000) (w:World) (h:w.ownsRow B 45 6 v L.length (L.flatMap cT)):Calls prog 35 #[v,.func (.func 36) #[] #[]] w λe w'=>e=.returned (.tuple #[])/\w.grownBy w' v.ownBlock/\∃ a cap,v=.slice a L.length cap/\RowAt cT 6 w' a (srt cmpT L):=by
 have h2:=h.2;rcases h2 with ⟨rfl,h0⟩ | ⟨g,cap,cur,rfl,hB,hb,h1,h2,h3,h4⟩
 ·have:L=[]:=QW h0;subst this;have hc:=AnyF.slices_SortFunc_none { sortTri with } none 0 (.func (.func 36) #[] #[]) w
  change Calls prog 35 _ _ _ at hc
  exact hc.mono λe w' ⟨he,hw⟩=>⟨he,hw▸kL _ _,none,0,rfl,by rw [show srt cmpT ([]:List Tri3)=[] by simp [srt]];exact RowAt.nil⟩
 ·obtain ⟨hH,hg⟩:=kK ks h;have hc:=AnyQ.slices_SortFunc_total sortTri 6 Tryz.isAgg45 Tryz.sizeOf45 cT ks Kx cmpT wholeT.swo 36 #[] g 0 cap L.toArray w enterT (cmpLaysT g 0 _ w) hH hg (by simp;omega) wholeT.one
  change Calls prog 35 _ _ _ at hc
  rw [show L.toArray.size=L.length by simp] at hc;refine hc.mono λe w' ⟨he,n,os,hw⟩=>⟨he,?_,_,cap,rfl,?_⟩
  ·rw [hw];exact qO _
  ·rw [hw];exact rowAt_of_holdsK ks (holdsK_sortK hH hg (by simp)) (QN hg (qO (c:=cT) (k:=6) _).size)
end
attribute [local go_sem] rOper rAt rUpon cell_set sg_i64 sg_u64 alloc_cell alloc_frozen
attribute [local go_sem 10000] pt_eql pt_neq tri_eql
attribute [local irreducible] rWalk
theorem XH:(prog.info? 45).map (λi=>(i.zero,i.size,i.bytes))=some (some (.agg #[(),(),(),(),(),()]),6,48):=by kernel_rfl
theorem yJ {w:World} {ops:Array Oper} {rest:List Oper} {o:Oper} {a:Act} {Q:Exit->Act->World->Prop} (hgd:o.guard=none) (s x:Operand) (ho:o.op=.call { callee:=.builtin .append,args:=#[s,x],argTypes:=#[38,38] }) (B:Nat) (v:Value) (L:List Tri3) (hs:a.eval s=v) (hown:w.ownsRow B 45 6 v L.length (L.flatMap cT)) (bx:Nat) (T:Tri3) (hx:a.eval x=.slice (some ⟨bx,0,none⟩) 1 1) (hbx:Box w bx (cT T) 45) (hn:L.length<=1000000) (hbase:B<=w.heap.size) (h:∀ w' v',w'.ownsRow B 45 6 v' (L ++ [T]).length ((L ++ [T]).flatMap cT)->w.grownBy w' v.ownBlock->wpList prog ops Q rest (a.put o.dst v') w'):wpList prog ops Q (o :: rest) a w:=by
 obtain ⟨i0,hi,hz0,hz1,hz2⟩:=info_parts XH;refine wpList_append_own w hgd s x 38 ho B 45 i0 _ 6 48 underlying38 hi hz0 hz1 hz2 rfl (by decide) v L.length _ hs hown ⟨bx,0,none⟩ 1 1 (cT T) hx rfl ?_ (Kx T) ?_ ?_ hbase ?_
 ·intro j u hj;have:=hbx.f.1 j;rw [hj] at this;rw [Addr.add_lit,QJ];exact this
 ·unfold maxLen;omega
 ·omega
 ·intro v' w' hown' hg _;refine h w' v' ?_ hg;rw [JC,QB,Je]
  simpa using hown'
def heads (p:Tri3->Bool) (E:Es):List Tri3:=(E.filter λe=>decide (e.1.1=e.2.A) && p e.2).map (·.2)
theorem xf {p:Tri3->Bool} {E F:Es} (h:E.Perm F):(heads p E).Perm (heads p F):=(h.filter _).map _
theorem zu (p:Tri3->Bool) (E F:Es):heads p (E ++ F)=heads p E ++ heads p F:=by unfold heads;rw [Qf,QC]
theorem yw (p:Tri3->Bool) (E:Es):(heads p E).length<=E.length:=by unfold heads;rw [Qz];exact Qn _ _
theorem jJ {p:Tri3->Bool} {e:(Pt×Pt)×Tri3} (h:e.1.1=e.2.A) (hp:p e.2):heads p [e]=[e.2]:=by simp [heads,h,hp]
theorem qw {p:Tri3->Bool} {e:(Pt×Pt)×Tri3} (h:¬ (e.1.1=e.2.A/\p e.2=true)):heads p [e]=[]:=by
 unfold heads;rw [Jv]
 ·rfl
 ·simpa using h
theorem vN {w:World} {B k:Nat} {T:TypeId} {v:Value} {n:Nat} {xs:List Value} (h:w.ownsRow B T k v n xs):∀ g,v.ownBlock=some g->∃ cs T',w.heap[g]? = some (.cells cs T' (0,0)):=λg hg=>by
 rcases h.2 with ⟨rfl,_⟩ | ⟨g',cap,cur,rfl,_,hb,_⟩
 ·simp [Value.ownBlock] at hg
 ·simp [Value.ownBlock] at hg;subst hg;exact ⟨_,_,hb⟩
theorem yF {w:World} {B k b:Nat} {T:TypeId} {v:Value} {n:Nat} {xs:List Value} {E:Es} (h:w.ownsRow B T k v n xs) (H:Hs w b E):some b≠v.ownBlock:=λe=>by
 obtain ⟨cs,T',hc⟩:=vN h b e.symm;obtain ⟨es,clock,hb,_⟩:=H;rw [hb] at hc;cases hc
theorem zw {w:World} {B k b r:Nat} {T:TypeId} {v:Value} {n:Nat} {xs:List Value} {E R:Es} (h:w.ownsRow B T k v n xs) (H:Ranging eW eT okW w b r E R):some r≠v.ownBlock:=λe=>by
 obtain ⟨cs,T',hc⟩:=vN h r e.symm;obtain ⟨es,clock,_,_,_,_,_,_,_,_,hr,_⟩:=H;rw [hr] at hc;cases hc
theorem zT {w:World} {b r:Nat} {E R:Es} (H:Ranging eW eT okW w b r E R):w.rangeLeft b r=R.length:=by
 obtain ⟨es,clock,since,seen,c0,hb,_,_,_,_,hr,_,hl,_⟩:=H;simp only [World.rangeLeft,hb,hr];have:=hl.length_eq
 simpa using this
theorem ZV (mb b:Nat) (E:Es) (g:FuncId) (cb:Array Value) (p:Tri3->Bool) (hE:E.length<=1000000) (w:World) (Bm:Box w mb [.map (some b)] 83) (Hm:Hs w b E) (eg:∀ args w,(callFunc g args).run prog w=.ok (.enter g args) w) (hp:∀ (T:Tri3) (W:World),Below w w W->Calls prog g (#[.agg #[T.A.x,T.A.y,T.B.x,T.B.y,T.C.x,T.C.y]] ++ cb) W λe w'=>e=.returned (.bool (p T))/\Below W W w'):Calls prog 29 #[pt0 mb,.func (.func g) #[] cb] w λe w'=>∃ a cap,e=.returned (.slice a (srt cmpT (heads p E)).length cap)/\RowAt cT 6 w' a (srt cmpT (heads p E))/\Below w w w':=by
 obtain ⟨xm,ym,zm,vm⟩:=Bm.f
 go_enter func29,ntmps29
 go_wp2_with (at_range;refine yK _ rfl _ rfl kvM rfl Hm ?_)
 intro w0 HR0 hw0 _;clear xm ym zm vm;go_wp2
 go_loopw [5] (λv wr=>∃ D R:Es,Hi ((D ++ R).Perm E)/\wr.ownsRow w.heap.size 45 6 v (heads p D).length ((heads p D).flatMap cT)/\Ranging eW eT okW wr b w.heap.size E R/\Below w w wr) (λ_ wr=>wr.rangeLeft b w.heap.size)
 case atStart=>exact ⟨[],E,hdd (by simp),World.ownsRow_nil _ _ _ _,HR0,hw0⟩
 case round=>
  clear HR0 hw0;obtain ⟨D,R,hD,hown,HR,hw⟩:=hrel;go_wp2_with (at_next;refine yN _ rfl _ rfl rfl HR ?_ ?_)
  ·intro hR;subst hR;have hp0:(heads p D).Perm (heads p E):=xf (by simpa using hD.o);have hle:(heads p D).length<=3000000:=by have:=hp0.length_eq;have:=yw p E;omega
   have HS:=hdd (wholeT.srt_of_perm hp0);go_wp2_with fail;refine (uC _ _ _ hle _ hown).mono ?_;rintro e w2 ⟨rfl,hg2,a,cap,rfl,hr⟩;go_wp2
   go_ret
   have hlen:(heads p D).length=(srt cmpT (heads p E)).length:=by rw [<-HS.o];exact (zU _).length_eq.symm
   rw [HS.o] at hr;refine ⟨a,cap,by rw [hlen];rfl,hr,hw.grown hg2 hw.size (λk hk=>?_)⟩;exact (hown.lt k hk).1
  ·intro u x T R' w1 hperm HR1 hg1 hs1 hen;have hD2:=hdd (show ((D ++ [((u,x),T)]) ++ R').Perm E by have:=(hperm.append_left D).symm.trans hD.o;simpa using this);have own1:=hown.kept hg1 (.inr (λe=>zw hown HR e.symm));have hw1:=hw.grown hg1 hw.size (λk hk=>by cases hk;exact JJ _);have HL:=hdd (show w1.rangeLeft b w.heap.size < wr.rangeLeft b w.heap.size by rw [zT HR1,zT HR,hperm.length_eq];simp);have hen2:(Instr.entry (.pointer (some ⟨w,0,none⟩))).run prog w1=.ok (.tuple #[.agg #[u.x,u.y,x.x,x.y],T]) w1:=hen;have hle:(heads p D).length<=1000000:=by have:=hD2.o.length_eq;have:=yw p D;simp at *;omega
   clear hown HR hg1 hs1 hen hperm hw;have hnx:Hi (∀ W:World,Below w1 w1 W->(W.rangeLeft b w.heap.size < wr.rangeLeft b w.heap.size)):=hdd (λW hW=>by
    rw [zT (HR1.ee hW),<-zT HR1];exact HL.o)
   by_cases hA:u=T.A
   ·have hd:peqI u.x u.y T.A.x T.A.y=true:=yo.2 hA;cases hT:p T with
    | false=>
     have HH:=hdd (show heads p (D ++ [((u,x),T)])=heads p D by rw [zu,qw (by simp [hT])];simp);have cp:=λW hW=>hp T W hW;rw [hT] at cp;clear hA hT;go_wp2_with fail;refine zI λW2 hW=>?_;have hb2:Below w1 w1 W2:=by rw [hW];go_grown
     clear hW;refine (cp _ ((upB hw1 hb2))).mono ?_;rintro e w3 ⟨rfl,hb⟩;have hb3:=(upB hb2 hb);clear hb hb2;go_wp2
     go_roundw
     case rel=>exact ⟨D ++ [((u,x),T)],R',hD2,by rw [HH.o];exact own1.kept (zM hb3 none) (by cases u5.ownBlock <;> simp),HR1.ee hb3,(upB hw1 hb3)⟩
     case measure=>exact hnx.o _ hb3
    | true=>
     have HH:=hdd (show heads p (D ++ [((u,x),T)])=heads p D ++ [T] by rw [zu,jJ hA hT]);have cp:=λW hW=>hp T W hW;rw [hT] at cp;clear hA hT;go_wp2_with fail;refine zI λW2 hW=>?_;have hb2:Below w1 w1 W2:=by rw [hW];go_grown
     have Bt:Box W2 (w1+1) (cT T) 45:=by rw [hW];exact Box.new (by simp)
     clear hW;refine (cp _ ((upB hw1 hb2))).mono ?_;rintro e w3 ⟨rfl,hb⟩;have hb3:=(upB hb2 hb);replace Bt:=Bt.ee hb;have own3:=own1.kept (zM hb3 none) (by cases u5.ownBlock <;> simp);have HB:=hdd (JY hw1.size hb3.size);clear hb hb2;obtain ⟨xt,yt,zt,vt⟩:=Bt.f;unfold cT at xt;go_wp2_with (at_builtin;refine yJ rfl _ _ rfl w.heap.size _ (heads p D) rfl (own3.alloc _) w3.heap.size T rfl (Box.new rfl) hle (by have:=HB.o;simp;omega) ?_;intro w4 v4 hown4 hg4)
     have hR3:=(HR1.ee hb3).kept (World.grownBy_alloc w3 (.cells (cT T).toArray 45) none) (by simp) (by simp);have hR4:=hR3.kept hg4 (yF (own3.alloc _) hR3.holds) (zw (own3.alloc _) hR3);have hw4:=((((upB hw1 hb3)).alloc (by have:=HB.o;omega) (.cells (cT T).toArray 45))).grown hg4 (by have:=HB.o;simp;omega) (λk hk=>((own3.alloc (.cells (cT T).toArray 45)).lt k hk).1)
     go_roundw
     case rel=>exact ⟨D ++ [((u,x),T)],R',hD2,by rw [HH.o];exact hown4,hR4,hw4⟩
     case measure=>rw [zT hR4,<-zT HR1];exact HL.o
   ·have hd:peqI u.x u.y T.A.x T.A.y=false:=by rw [<-QO,yo];exact hA
    have HH:=hdd (show heads p (D ++ [((u,x),T)])=heads p D by rw [zu,qw (by simp [hA])];simp);clear hA;go_wp2
    go_roundw
    case rel=>exact ⟨D ++ [((u,x),T)],R',hD2,by rw [HH.o];exact (own1.alloc _).alloc _,HR1.ext (by go_grown) rfl,by have:=hw1.size;go_grown⟩
    case measure=>exact hnx.o _ (by go_grown)
theorem trueCl (T:Tri3) (w:World):Calls prog 30 #[T] w (Rt w (.bool true)):=by
 go_enter func30,ntmps30
 go_wp2
 go_ret
 exact ⟨rfl,by go_grown⟩
theorem enterCl:∀ args w,(callFunc 30 args).run prog w=.ok (.enter 30 args) w:=enters_of func30 (by kernel_rfl) rfl
theorem Zs (mb b:Nat) (E:Es) (hE:E.length<=1000000) (w:World) (Bm:Box w mb [.map (some b)] 83) (Hm:Hs w b E):Calls prog 11 #[pt0 mb] w λe w'=>∃ a cap,e=.returned (.slice a (srt cmpT (heads (λ_=>true) E)).length cap)/\RowAt cT 6 w' a (srt cmpT (heads (λ_=>true) E))/\Below w w w':=by
 have ct:=ZV mb b E 30 #[] (λ_=>true) hE w Bm Hm enterCl (λT W _=>trueCl T W)
 go_enter func11,ntmps11
 go_wp2_with fail;refine ct.mono ?_;rintro e w1 ⟨a,cap,rfl,hr,hb⟩;go_wp2
 go_ret
 exact ⟨a,cap,rfl,hr,hb⟩
theorem RowAt.part {α : Type} {c : α -> List Value} {k : Nat} {w : World} {a : Option Addr} {L : List α} (h : RowAt c k w a L) (lo m cap : Nat) (hcap : L.length <= cap) :
    RowAt c k w (if cap=lo then a else a.map λx=>x.add (lo * k)) ((L.drop lo).take m):=λj x hj=>by
 have hj2:L[lo+j]? = some x:=by
  rw [QX] at hj;split at hj
  ·rwa [Qr] at hj
  ·cases hj
 obtain ⟨ad,h1,h2,h3⟩:=h (lo+j) x hj2;have hl:=(JR.1 hj2).1;refine ⟨ad.add (lo * k),?_,by rw [zj];exact h2,λi u hu=>?_⟩
 ·rw [J0 (by omega),h1];rfl
 ·rw [show (ad.add (lo * k)).add (j * k)=ad.add ((lo+j) * k) by rw [Go.Deep.add_add,<-UR]];exact h3 i u hu
theorem jS (a:Option Addr) (n cap lo hi:Nat) (h1:lo<=hi) (h2:hi<=cap) (w:World):(Instr.slice 38 (.slice a n cap) (some (.int .i64 lo)) (some (.int .i64 hi)) none).run prog w=.ok (.slice (if cap=lo then a else a.map λx=>x.add (lo * 6)) (hi - lo) (cap - lo)) w:=by
 simp [Instr.slice,Instr.sliceBounds,Instr.sliceBound,asIntOf,run_underlying underlying38,go_sem,h1,h2]
theorem run_from_tri (a:Option Addr) (n cap lo:Nat) (h1:lo<=n) (w:World):(Instr.slice 38 (.slice a n cap) (some (.int .i64 lo)) none none).run prog w=.ok (.slice (if cap=lo then a else a.map λx=>x.add (lo * 6)) (n - lo) (cap - lo)) w:=by
 simp [Instr.slice,Instr.sliceBounds,Instr.sliceBound,asIntOf,run_underlying underlying38,go_sem,h1]
theorem run_upto_tri (a:Option Addr) (n cap hi:Nat) (h1:hi<=cap) (w:World):(Instr.slice 38 (.slice a n cap) none (some (.int .i64 hi)) none).run prog w=.ok (.slice a hi cap) w:=by
 cases a <;> simp [Instr.slice,Instr.sliceBounds,Instr.sliceBound,asIntOf,run_underlying underlying38,go_sem,h1,Addr.add]
section
variable {α:Type} {c:α->α->Int}
def Blocks (c:α->α->Int) (n:Nat) (L:List α):Prop:=∀ i j (hi:i < L.length) (hj:j < L.length),i < j->i / n=j / n->c L[i] L[j]<=0
theorem blocks_one (L:List α):Blocks c 1 L:=λi j _ _ h e=>by rw [Nat.div_one,Nat.div_one] at e;omega
theorem blocks_all {n:Nat} {L:List α} (h:Blocks c n L) (hn:L.length<=n):InOrder c L:=by
 unfold InOrder;rw [Jd];intro i j hi hj hij;exact h i j hi hj hij (by rw [U7 (by omega),U7 (by omega)])
theorem vg {n m:Nat} {L:List α} (h:Blocks c n L):InOrder c ((L.drop (n * m)).take n):=by
 unfold InOrder;rw [Jd];intro i j hi hj hij;simp only [Jc,Ja] at hi hj;simp only [Vy,U1];have h0:0 < n:=by omega
 refine h _ _ (by omega) (by omega) (by omega) ?_;rw [Nat.mul_add_div h0,Nat.mul_add_div h0,U7 (by omega),U7 (by omega)]
theorem blocks_append {n m:Nat} {O M:List α} (h:Blocks c n O) (hl:O.length=n * m) (hM:InOrder c M):Blocks c n (O ++ M):=by
 intro i j hi hj hij e;rw [JC] at hi hj;by_cases h1:j < O.length
 ·rw [List.getElem_append_left h1,List.getElem_append_left (by omega)];exact h i j (by omega) h1 hij e
 ·by_cases h2:i < O.length
  ·exfalso
   have h0 : 0 < n := by rcases VS n with h | h; · subst h; rw [Nat.zero_mul] at hl; omega
                         ·exact h
   have e1:i / n < m:=by rw [U3 h0,Vv];omega
   have e2:m<=j / n:=by rw [Nat.le_div_iff_mul_le h0,Vv];omega
   omega
  ·rw [List.getElem_append_right (by omega),List.getElem_append_right (by omega)];unfold InOrder at hM;rw [Jd] at hM;exact hM (i - O.length) (j - O.length) (by omega) (by omega) (by omega)
structure Mrg (c:α->α->Int) (X M A B:List α):Prop where
 perm:(M ++ (A ++ B)).Perm X
 m:InOrder c M
 a:InOrder c A
 b:InOrder c B
 le:∀ x∈M,∀ y∈A ++ B,c x y<=0
theorem Mrg.start {A B:List α} (ha:InOrder c A) (hb:InOrder c B):Mrg c (A ++ B) [] A B:=⟨by simp,by simp [InOrder],ha,hb,by simp⟩
theorem inOrder_snoc {M:List α} {x:α} (h:InOrder c M) (hx:∀ y∈M,c y x<=0):InOrder c (M ++ [x]):=by
 unfold InOrder at *;rw [V1];exact ⟨h,by simp,λa ha b hb=>by simp at hb;subst hb;exact hx a ha⟩
theorem Mrg.left (W:Whole c) {X M A B:List α} {x:α} (h:Mrg c X M (x :: A) B) (hx:∀ y,B.head? = some y->c x y<=0):Mrg c X (M ++ [x]) A B:=by
 have hA:=h.a;unfold InOrder at hA;rw [Q6] at hA;have hxB:∀ y∈B,c x y<=0:=λy hy=>by
  cases B with
  | nil=>simp at hy
  | cons z B=>
   have hb:=h.b;unfold InOrder at hb;rw [Q6] at hb;rcases J1.1 hy with rfl | hy
   ·exact hx _ rfl
   ·exact W.le_trans (hx _ rfl) (hb.1 y hy)
 refine ⟨by simpa using h.perm,inOrder_snoc h.m (λy hy=>h.le y hy x (by simp)),hA.2,h.b,λz hz y hy=>?_⟩;rcases JM.1 hz with hz | hz
 ·exact h.le z hz y (by simp at hy ⊢;exact .inr hy)
 ·simp at hz;subst hz;rcases JM.1 hy with hy | hy
  ·exact hA.1 y hy
  ·exact hxB y hy
theorem Mrg.right (W:Whole c) {X M A B:List α} {x:α} (h:Mrg c X M A (x :: B)) (hx:∀ y,A.head? = some y->c x y<=0):Mrg c X (M ++ [x]) A B:=by
 have h2:Mrg c X M (x :: B) A:=⟨((Jq).append_left M).trans h.perm,h.m,h.b,h.a,λz hz y hy=>h.le z hz y (by simp at hy ⊢;rcases hy with h | h | h <;> simp [h])⟩;have h3:=h2.left W hx;exact ⟨((Jq).append_left _).trans h3.perm,h3.m,h3.b,h3.a,λz hz y hy=>h3.le z hz y (by simp at hy ⊢;exact hy.symm)⟩
theorem Mrg.done {X M:List α} (h:Mrg c X M [] []):M.Perm X:=by simpa using h.perm
theorem two_blocks (L:List α) (at_ n:Nat):(L.drop at_).take n ++ (L.drop (at_+n)).take n=(L.drop at_).take (2 * n):=by
 rw [<-UO,Nat.two_mul,List.take_add]
end
theorem zx {α:Type} {c:α->List Value} {k:Nat} {w:World} {B:Nat} {T:TypeId} {v:Value} {L:List α} (hc:∀ x,(c x).length=k) (h:w.ownsRow B T k v L.length (L.flatMap c)):∃ a cap,v=.slice a L.length cap/\L.length<=cap/\RowAt c k w a L:=by
 have h2:=h.2;obtain ⟨a,cap,rfl,hr⟩:=xQ hc h;refine ⟨a,cap,rfl,?_,hr⟩;rcases h2 with ⟨h3,h4⟩ | ⟨g,cap2,cur,h3,_,_,h4,_⟩
 ·omega
 ·simp only [Value.slice.injEq] at h3;omega
theorem Six.cells {w:World} {A:Addr} {T:Tri3} (h:Six w A T):(∀ d os,(grow (redrawn w d) os).cell? A=some (.int .i64 T.A.x))/\(∀ d os,(grow (redrawn w d) os).cell? ⟨A.block,A.off+1,none⟩=some (.int .i64 T.A.y))/\(∀ d os,(grow (redrawn w d) os).cell? ⟨A.block,A.off+2,none⟩=some (.int .i64 T.B.x))/\(∀ d os,(grow (redrawn w d) os).cell? ⟨A.block,A.off+3,none⟩=some (.int .i64 T.B.y))/\(∀ d os,(grow (redrawn w d) os).cell? ⟨A.block,A.off+4,none⟩=some (.int .i64 T.C.x))/\(∀ d os,(grow (redrawn w d) os).cell? ⟨A.block,A.off+5,none⟩=some (.int .i64 T.C.y)):=
 ⟨λd os=>(h.ext (below_regrown w d os) rfl).2.1,λd os=>(h.ext (below_regrown w d os) rfl).2.2.1,λd os=>(h.ext (below_regrown w d os) rfl).2.2.2.1,λd os=>(h.ext (below_regrown w d os) rfl).2.2.2.2.1,λd os=>(h.ext (below_regrown w d os) rfl).2.2.2.2.2.1,λd os=>(h.ext (below_regrown w d os) rfl).2.2.2.2.2.2⟩
theorem RowAt.first {w:World} {a:Option Addr} {x:Tri3} {L:List Tri3} (h:RowAt cT 6 w a (x :: L)):∃ ad,a=some ad/\Six w ad x:=by
 obtain ⟨ad,A,h1,h2,h3⟩:=h.six (j:=0) (by simp);rw [Nat.zero_mul,Addr.add_zero'] at h2;subst h2;exact ⟨ad,h1,h3⟩
theorem RowAt.rest {w:World} {a:Option Addr} {x:Tri3} {L:List Tri3} {c:Nat} (h:RowAt cT 6 w a (x :: L)) (hc:(x :: L).length<=c):∃ a',(∀ w',(Instr.slice 38 (.slice a (L.length+1) c) (some (.int .i64 1)) none none).run prog w'=.ok (.slice a' L.length (c - 1)) w')/\RowAt cT 6 w a' L/\L.length<=c - 1:=by
 have h1:=h.part 1 L.length c hc;have e:((x :: L).drop 1).take L.length=L:=by simp
 rw [e] at h1;refine ⟨_,λw'=>?_,h1,by simp at hc;omega⟩;have:=run_from_tri a (L.length+1) c 1 (by omega) w'
 simpa using this
def lenOf:Value->Nat | .slice _ n _=>n | _=>0
theorem t7 (a0:Option Addr) (c0 N:Nat) (L:List Tri3) (hL:Hi (L.length=N)) (hN:N<=1000000) (hc0:N<=c0) (w:World) (h0:RowAt cT 6 w a0 L):Calls prog 47 #[.slice a0 N c0] w λe w'=>∃ a cap,e=.returned (.slice a N cap)/\N<=cap/\RowAt cT 6 w' a (srt cmpT L)/\(∀ ad,a=some ad->a0=some ad\/w.heap.size<=ad.block)/\Below w w w':=by
 go_enter func47,ntmps47
 go_wp2
 go_loopw [0,3] (λvl vn wr=>∃ (nn:Nat) (X:List Tri3) (a:Option Addr) (cap:Nat),vl=.slice a N cap/\vn=.int .i64 nn/\1<=nn/\nn<=2000000/\Hi (X.Perm L)/\Hi (X.length=N)/\Hi (Blocks cmpT nn X)/\RowAt cT 6 wr a X/\N<=cap/\Hi (∀ ad,a=some ad->a0=some ad\/w.heap.size<=ad.block)/\Below w w wr) (λ_ vn _=>N - (intOf vn).toNat)
 case atStart=>exact ⟨1,L,a0,c0,rfl,rfl,JJ _,by omega,hdd (UM _),hL,hdd (blocks_one L),h0,hc0,hdd (λad h=>.inl h),Below.refl _ _⟩
 case round=>
  obtain ⟨nn,X,a,cap,rfl,rfl,hn1,hn2,hX,hXl,hB,hr,hcap,hfr,hw⟩:=hrel;by_cases hlt:nn < N
  case neg=>
   have HS:=hdd (wholeT.srt_eq hX.o (blocks_all hB.o (by rw [hXl.o];omega)));go_wp2
   go_ret
   exact ⟨a,cap,rfl,hcap,by rw [<-HS.o];exact hr,hfr.o,hw⟩
  case pos=>
   go_wp2;obtain ⟨W0,rfl⟩:∃ W0,W0=wr:=⟨_,rfl⟩
   go_loopw [4,5] (λvo vat wr=>∃ (m at_:Nat) (O:List Tri3),vat=.int .i64 at_/\Hi (at_=2 * nn * m)/\at_<=5000000/\Hi (O.Perm (X.take at_))/\Hi (Blocks cmpT (2 * nn) O)/\wr.ownsRow W0.heap.size 45 6 vo O.length (O.flatMap cT)/\Below W0 W0 wr) (λ_ vat _=>N - (intOf vat).toNat)
   case atStart=>exact ⟨0,0,[],rfl,hdd (by simp),by omega,hdd (by simp),hdd (λi j hi=>by simp at hi),World.ownsRow_nil _ _ _ _,Below.refl _ _⟩
   case round=>
    obtain ⟨m,at_,O,rfl,hat,hat2,hO,hOB,hown,hw1⟩:=hrel;by_cases hlt2:at_ < N
    case neg=>
     have hfo:=hdd (show ∀ g,u4.ownBlock=some g->w.heap.size<=g from λg hg=>JY hw.size (hown.lt g hg).1);obtain ⟨a',cap',rfl,hcap',hr'⟩:=zx ks hown;have hOX:O.Perm X:=by have:=hO.o;rwa [JV (by rw [hXl.o];omega)] at this
     have HN:=hdd (show O.length=N by rw [hOX.length_eq,hXl.o]);rw [HN.o] at hcap';rw [HN.o];have HX:=hdd (hOX.trans hX.o);have e2:wrap64 (2 * (nn:Int))=((2 * nn:Nat):Int):=by rw [w64];omega
     clear hOX;go_wp2
     go_roundw
     case rel=>exact ⟨2 * nn,O,a',cap',rfl,by go_num,by omega,by omega,HX,HN,hOB,hr',hcap',hdd (λad e=>.inr (hfo.o ad.block (by rw [e];rfl))),(upB hw hw1)⟩
     case measure=>simp [intOf];omega
    case pos=>
     obtain ⟨p1,hp1⟩:∃ p1,p1=min (at_+nn) N:=⟨_,rfl⟩;obtain ⟨p2,hp2⟩:∃ p2,p2=min (at_+2 * nn) N:=⟨_,rfl⟩;have i1:IntKind.i64.wrap ((at_:Int)+nn)=(at_:Int)+nn:=by rw [IntKind.wrap_i64];omega
     have i2:IntKind.i64.wrap (2 * (nn:Int))=2 * (nn:Int):=by rw [IntKind.wrap_i64];omega
     have i3:IntKind.i64.wrap ((at_:Int)+2 * (nn:Int))=(at_:Int)+2 * (nn:Int):=by rw [IntKind.wrap_i64];omega
     have m1:min ((at_:Int)+nn) (N:Int)=(p1:Int):=by rw [hp1];omega
     have m2:min ((at_:Int)+2 * (nn:Int)) (N:Int)=(p2:Int):=by rw [hp2];omega
     have s1:=λw=>jS a N cap at_ p1 (by omega) (by omega) w;have s2:=λw=>jS a N cap p1 p2 (by omega) (by omega) w;have r1:=hr.part at_ nn cap (by rw [hXl.o];exact hcap);have r2:=hr.part p1 nn cap (by rw [hXl.o];exact hcap);generalize (if cap=at_ then a else a.map λx=>x.add (at_ * 6))=a1 at s1 r1
     generalize (if cap=p1 then a else a.map λx=>x.add (p1 * 6))=a2 at s2 r2
     obtain ⟨A,hA⟩:∃ A,A=(X.drop at_).take nn:=⟨_,rfl⟩;obtain ⟨B,hBq⟩:∃ B,B=(X.drop (at_+nn)).take nn:=⟨_,rfl⟩;have hB2:B=(X.drop p1).take nn:=by
      rw [hBq,hp1];rcases Nat.le_total (at_+nn) N with h | h
      ·rw [Nat.min_eq_left h]
      ·rw [Nat.min_eq_right h,VM (by rw [hXl.o];omega),VM (by rw [hXl.o];omega)]
     have lA:p1 - at_=A.length:=by rw [hA,Jc,Ja,hXl.o];omega
     have lB:p2 - p1=B.length:=by rw [hB2,Jc,Ja,hXl.o];omega
     rw [<-hA] at r1;rw [<-hB2] at r2;rw [lA] at s1;rw [lB] at s2;have cA:A.length<=cap - at_:=by omega
     have cB:B.length<=cap - p1:=by omega
     have HM0:=hdd (Mrg.start (c:=cmpT) (A:=A) (B:=B) (by rw [hA,hat.o,show 2 * nn * m=nn * (2 * m) by rw [Vv 2 nn,Nat.mul_assoc]];exact vg hB.o) (by rw [hBq,hat.o,show 2 * nn * m+nn=nn * (2 * m+1) by rw [Vv 2 nn,Nat.mul_assoc,Nat.mul_add,Nat.mul_one]];exact vg hB.o));have HAB:=hdd (show A ++ B=(X.drop at_).take (2 * nn) by rw [hA,hBq];exact two_blocks X at_ nn);have HOl:=hdd (show O.length=at_ by rw [(hO.o).length_eq,Jc,hXl.o];omega);have HLB:=hdd (show A.length+B.length<=2000000 by omega);clear hp1 hp2 hA hBq hB2 lA lB;generalize cap - at_=cap1 at *
     generalize cap - p1=cap2 at *
     go_wp2
     go_quiet (fail)
     clear i1 i2 i3 m1 m2 s1 s2;have hb:Below wr wr (wr.drewN nq):=⟨rfl,rfl,rfl,JJ _,λ_ _=>rfl⟩;have own2:=hown.kept (zM hb none) (by cases u4.ownBlock <;> simp);have hw2:=(upB hw1 hb);clear hown hw1 hb;generalize wr.drewN nq=W1 at *
     go_wp2
     go_loopw [4,6,7] (λvo va vb wr=>∃ (M A' B':List Tri3) (a1:Option Addr) (c1:Nat) (a2:Option Addr) (c2:Nat),va=.slice a1 A'.length c1/\vb=.slice a2 B'.length c2/\A'.length<=c1/\B'.length<=c2/\Hi (Mrg cmpT (A ++ B) M A' B')/\RowAt cT 6 W0 a1 A'/\RowAt cT 6 W0 a2 B'/\wr.ownsRow W0.heap.size 45 6 vo (O ++ M).length ((O ++ M).flatMap cT)/\Below W0 W0 wr) (λ_ va vb _=>lenOf va+lenOf vb)
     case atStart=>exact ⟨[],A,B,a1,cap1,a2,cap2,rfl,rfl,cA,cB,HM0,r1,r2,by simpa using own2,hw2⟩
     case round=>
      clear own2 hw2 r1 r2 cA cB;obtain ⟨M,A',B',a1,c1,a2,c2,rfl,rfl,hc1,hc2,HM,ra,rb,own2,hw2⟩:=hrel;have HLe:=hdd (show (O ++ M).length<=1000000 by
       have e1:=HM.o.perm.length_eq;have e2:=congrArg List.length HAB.o;have e3:=HOl.o;have e4:=hXl.o;simp only [JC,Jc,Ja] at e1 e2 ⊢;omega)
      rcases A' with _ | ⟨x,A'⟩ <;> rcases B' with _ | ⟨y,B'⟩
      ·have HO := hdd (show (O ++ M).Perm (X.take (at_ + 2 * nn)) by
         rw [List.take_add];refine (hO.o).append ?_;rw [<-HAB.o];exact HM.o.done)
       have HBl:=hdd (blocks_append hOB.o (HOl.o.trans hat.o) HM.o.m);have e2:wrap64 (2 * (nn:Int))=2 * (nn:Int):=by rw [w64];omega
       have e3:wrap64 ((at_:Int)+2 * (nn:Int))=(at_:Int)+2 * (nn:Int):=by rw [w64];omega
       simp only [Qs];go_wp2
       go_roundw
       case rel=>exact ⟨m+1,at_+2 * nn,O ++ M,by go_num,hdd (by rw [hat.o,Nat.mul_add,Nat.mul_one]),by omega,HO,HBl,own2,hw2⟩
       case measure=>simp [intOf];omega
      ·skip
       have HP:=hdd (HM.o.right wholeT (by simp));simp only [Qs,JW];obtain ⟨ad2,e2,SB0⟩:=rb.first;have SB:=SB0.ee hw2;obtain ⟨a2',f2,rb',hc2'⟩:=rb.rest hc2;rw [e2] at f2;clear HM rb hc2 SB0;go_wp2;refine rgn 17 (λw2 hb=>?_);have own3:=own2.kept (zM hb none) (by cases u4.ownBlock <;> simp);have hw3:=(upB hw2 hb);have hle:(O ++ M).length<=1000000:=HLe.o;clear own2 hw2;obtain ⟨zA,q0,q1,q2,q3,q4,q5⟩:=(SB.ee hb).f;have HB:=hdd hw3.size;go_wp2_with (at_builtin;refine yJ rfl _ _ rfl W0.heap.size _ (O ++ M) rfl (own3.alloc _) w2.heap.size y rfl (Box.new rfl) hle (by have:=HB.o;simp;omega) ?_;intro w4 v4 hown4 hg4)
       clear zA q0 q1 q2 q3 q4 q5;have hw4:=(hw3.alloc HB.o (.cells (cT y).toArray 45)).grown hg4 (by have:=HB.o;simp;omega) (λk hk=>((own3.alloc (.cells (cT y).toArray 45)).lt k hk).1)
       go_roundw
       case rel=>exact ⟨M ++ [y],[],B',a1,c1,a2',c2 - 1,(by first | rfl | (rw [e1];rfl) | (rw [e2];rfl)),(by first | rfl | (rw [e1];rfl) | (rw [e2];rfl)),hc1,hc2',HP,ra,rb',by rw [<-JL];exact hown4,hw4⟩
       case measure=>simp [lenOf]
      ·skip
       have HP:=hdd (HM.o.left wholeT (by simp));simp only [Qs,JW];obtain ⟨ad1,e1,SA0⟩:=ra.first;have SA:=SA0.ee hw2;obtain ⟨a1',f1,ra1',hc1'⟩:=ra.rest hc1;rw [e1] at f1;clear HM ra hc1 SA0;go_wp2;refine rgn 17 (λw2 hb=>?_);have own3:=own2.kept (zM hb none) (by cases u4.ownBlock <;> simp);have hw3:=(upB hw2 hb);have hle:(O ++ M).length<=1000000:=HLe.o;clear own2 hw2;obtain ⟨zA,q0,q1,q2,q3,q4,q5⟩:=(SA.ee hb).f;have HB:=hdd hw3.size;go_wp2_with (at_builtin;refine yJ rfl _ _ rfl W0.heap.size _ (O ++ M) rfl (own3.alloc _) w2.heap.size x rfl (Box.new rfl) hle (by have:=HB.o;simp;omega) ?_;intro w4 v4 hown4 hg4)
       clear zA q0 q1 q2 q3 q4 q5;have hw4:=(hw3.alloc HB.o (.cells (cT x).toArray 45)).grown hg4 (by have:=HB.o;simp;omega) (λk hk=>((own3.alloc (.cells (cT x).toArray 45)).lt k hk).1)
       go_roundw
       case rel=>exact ⟨M ++ [x],A',[],a1',c1 - 1,a2,c2,(by first | rfl | (rw [e1];rfl) | (rw [e2];rfl)),(by first | rfl | (rw [e1];rfl) | (rw [e2];rfl)),hc1',hc2,HP,ra1',rb,by rw [<-JL];exact hown4,hw4⟩
       case measure=>simp [lenOf]
      ·skip
       simp only [JW];have cc:=rcmpT_any x y;by_cases hxy:cmpT x y<=0
       ·have HP:=hdd (HM.o.left wholeT (by simpa using hxy));have hd:decide (cmpT x y<=0)=true:=by simpa using hxy
        generalize cmpT x y=n at *
        clear hxy HM;obtain ⟨ad1,e1,SA0⟩:=ra.first;have SA:=SA0.ee hw2;obtain ⟨a1',f1,ra1',hc1'⟩:=ra.rest hc1;rw [e1] at f1;obtain ⟨ad2,e2,SB0⟩:=rb.first;have SB:=SB0.ee hw2;obtain ⟨t0,t1,t2,t3,t4,t5⟩:=SA.cells;obtain ⟨s0,s1,s2,s3,s4,s5⟩:=SB.cells;clear ra hc1 SA0 SB0;go_wp2;refine rgn 17 (λw2 hb=>?_);have own3:=own2.kept (zM hb none) (by cases u4.ownBlock <;> simp);have hw3:=(upB hw2 hb);have hle:(O ++ M).length<=1000000:=HLe.o;clear own2 hw2;clear t0 t1 t2 t3 t4 t5 s0 s1 s2 s3 s4 s5;obtain ⟨zA,q0,q1,q2,q3,q4,q5⟩:=(SA.ee hb).f;have HB:=hdd hw3.size;go_wp2_with (at_builtin;refine yJ rfl _ _ rfl W0.heap.size _ (O ++ M) rfl (own3.alloc _) w2.heap.size x rfl (Box.new rfl) hle (by have:=HB.o;simp;omega) ?_;intro w4 v4 hown4 hg4)
        clear zA q0 q1 q2 q3 q4 q5;have hw4:=(hw3.alloc HB.o (.cells (cT x).toArray 45)).grown hg4 (by have:=HB.o;simp;omega) (λk hk=>((own3.alloc (.cells (cT x).toArray 45)).lt k hk).1)
        go_roundw
        case rel=>exact ⟨M ++ [x],A',y :: B',a1',c1 - 1,a2,c2,(by first | rfl | (rw [e1];rfl) | (rw [e2];rfl)),(by first | rfl | (rw [e1];rfl) | (rw [e2];rfl)),hc1',hc2,HP,ra1',rb,by rw [<-JL];exact hown4,hw4⟩
        case measure=>simp [lenOf]
       ·have HP:=hdd (HM.o.right wholeT (by have:=Xh x y;simp;omega));have hd:decide (cmpT x y<=0)=false:=by simpa using hxy
        generalize cmpT x y=n at *
        clear hxy HM;obtain ⟨ad1,e1,SA0⟩:=ra.first;have SA:=SA0.ee hw2;obtain ⟨ad2,e2,SB0⟩:=rb.first;have SB:=SB0.ee hw2;obtain ⟨a2',f2,rb',hc2'⟩:=rb.rest hc2;rw [e2] at f2;obtain ⟨t0,t1,t2,t3,t4,t5⟩:=SA.cells;obtain ⟨s0,s1,s2,s3,s4,s5⟩:=SB.cells;clear rb hc2 SA0 SB0;go_wp2;refine rgn 17 (λw2 hb=>?_);have own3:=own2.kept (zM hb none) (by cases u4.ownBlock <;> simp);have hw3:=(upB hw2 hb);have hle:(O ++ M).length<=1000000:=HLe.o;clear own2 hw2;clear t0 t1 t2 t3 t4 t5 s0 s1 s2 s3 s4 s5;obtain ⟨zA,q0,q1,q2,q3,q4,q5⟩:=(SB.ee hb).f;have HB:=hdd hw3.size;go_wp2_with (at_builtin;refine yJ rfl _ _ rfl W0.heap.size _ (O ++ M) rfl (own3.alloc _) w2.heap.size y rfl (Box.new rfl) hle (by have:=HB.o;simp;omega) ?_;intro w4 v4 hown4 hg4)
        clear zA q0 q1 q2 q3 q4 q5;have hw4:=(hw3.alloc HB.o (.cells (cT y).toArray 45)).grown hg4 (by have:=HB.o;simp;omega) (λk hk=>((own3.alloc (.cells (cT y).toArray 45)).lt k hk).1)
        go_roundw
        case rel=>exact ⟨M ++ [y],x :: A',B',a1,c1,a2',c2 - 1,(by first | rfl | (rw [e1];rfl) | (rw [e2];rfl)),(by first | rfl | (rw [e1];rfl) | (rw [e2];rfl)),hc1,hc2',HP,ra,rb',by rw [<-JL];exact hown4,hw4⟩
        case measure=>simp [lenOf]
theorem t8 (a0:Option Addr) (c0 N:Nat) (L:List Tri3) (hL:Hi (L.length=N)) (hN:N<=1000000) (hc0:N<=c0) (w:World) (h0:RowAt cT 6 w a0 L):Calls prog 47 #[.slice a0 N c0] w λe w'=>∃ a cap,e=.returned (.slice a N cap)/\N<=cap/\RowAt cT 6 w' a (srt cmpT L)/\Below w w w':=
 (t7 a0 c0 N L hL hN hc0 w h0).mono λ_ _ ⟨a,cap,h1,h2,h3,_,h4⟩=>⟨a,cap,h1,h2,h3,h4⟩
theorem xY (a0:Option Addr) (c0 N:Nat) (L:List Tri3) (hL:Hi (L.length=N)) (hN:N<=1000000) (hc0:N<=c0) (w:World) (h0:RowAt cT 6 w a0 L):Calls prog 47 #[.slice a0 N c0] w λe w'=>∃ a cap,e=.returned (.slice a N cap)/\RowAt cT 6 w' a (srt cmpT L)/\Below w w w':=
 (t8 a0 c0 N L hL hN hc0 w h0).mono λ_ _ h=>by
  obtain ⟨a,cap,h1,_,h2⟩:=h;exact ⟨a,cap,h1,h2⟩
def yes:Tri3->Bool:=λ_=>true
theorem rtris_own (mb b:Nat) (E:Es) (hE:E.length<=1000000) (w:World) (Bm:Box w mb [.map (some b)] 98) (Hm:Hs w b E):Calls prog 22 #[pt0 mb] w λe w'=>∃ a cap,e=.returned (.slice a (srt cmpT (heads (λ_=>true) E)).length cap)/\(srt cmpT (heads (λ_=>true) E)).length<=cap/\RowAt cT 6 w' a (srt cmpT (heads (λ_=>true) E))/\(∀ ad,a=some ad->w.heap.size<=ad.block)/\Below w w w':=by
 show Calls prog 22 #[pt0 mb] w λe w'=>∃ a cap,e=.returned (.slice a (srt cmpT (heads yes E)).length cap)/\(srt cmpT (heads yes E)).length<=cap/\RowAt cT 6 w' a (srt cmpT (heads yes E))/\(∀ ad,a=some ad->w.heap.size<=ad.block)/\Below w w w';have Fm:=Bm.f
 go_enter func22,ntmps22
 go_wp2_with (at_range;refine yK _ rfl _ rfl kvR rfl Hm ?_)
 intro w0 HR0 hw0 _;clear Fm;go_wp2
 go_loopw [3] (λv wr=>∃ D R:Es,Hi ((D ++ R).Perm E)/\wr.ownsRow w.heap.size 45 6 v (heads yes D).length ((heads yes D).flatMap cT)/\Ranging eW eT okW wr b w.heap.size E R/\Below w w wr) (λ_ wr=>wr.rangeLeft b w.heap.size)
 case atStart=>exact ⟨[],E,hdd (by simp),World.ownsRow_nil _ _ _ _,HR0,hw0⟩
 case round=>
  clear HR0 hw0;obtain ⟨D,R,hD,hown,HR,hw⟩:=hrel;go_wp2_with (at_next;refine yN _ rfl _ rfl rfl HR ?_ ?_)
  ·intro hR;subst hR;have hp0:(heads yes D).Perm (heads yes E):=xf (by simpa using hD.o);have hle:(heads yes D).length<=1000000:=by have:=hp0.length_eq;have:=yw yes E;omega
   have HS:=hdd (wholeT.srt_of_perm hp0);have hfo:=hdd (hown.lt);have hws:=hdd hw.size;obtain ⟨a1,c1,rfl,hc1,hr1⟩:=zx ks hown;have hlen:=hdd (show (heads yes D).length=(srt cmpT (heads yes E)).length by rw [<-HS.o];exact (zU _).length_eq.symm);go_wp2_with fail;refine (t7 _ _ _ _ (hdd rfl) hle hc1 _ hr1).mono ?_;rintro e w2 ⟨a,cap,rfl,hcc,hr,hfr,hb⟩;have hfr2:=hdd hfr;clear hfr;go_wp2
   go_ret
   rw [HS.o] at hr;exact ⟨a,cap,by rw [hlen.o];rfl,hlen.o▸hcc,hr,λad e=>by
    rcases hfr2.o ad e with h | h
    ·exact (hfo.o ad.block (by rw [h];rfl)).1
    ·exact JY hws.o h,(upB hw hb)⟩
  ·intro u x T R' w1 hperm HR1 hg1 hs1 hen;have hD2:=hdd (show ((D ++ [((u,x),T)]) ++ R').Perm E by have:=(hperm.append_left D).symm.trans hD.o;simpa using this);have own1:=hown.kept hg1 (.inr (λe=>zw hown HR e.symm));have hw1:=hw.grown hg1 hw.size (λk hk=>by cases hk;exact JJ _);have HL:=hdd (show w1.rangeLeft b w.heap.size < wr.rangeLeft b w.heap.size by rw [zT HR1,zT HR,hperm.length_eq];simp);have hen2:(Instr.entry (.pointer (some ⟨w,0,none⟩))).run prog w1=.ok (.tuple #[.agg #[u.x,u.y,x.x,x.y],T]) w1:=hen;have hle:(heads yes D).length<=1000000:=by have:=hD2.o.length_eq;have:=yw yes D;simp at *;omega
   clear hown HR hg1 hs1 hen hperm hw;have hnx:Hi (∀ W:World,Below w1 w1 W->(W.rangeLeft b w.heap.size < wr.rangeLeft b w.heap.size)):=hdd (λW hW=>by
    rw [zT (HR1.ee hW),<-zT HR1];exact HL.o)
   by_cases hA:u=T.A
   ·have hd:peqI u.x u.y T.A.x T.A.y=true:=yo.2 hA;have HH:=hdd (show heads yes (D ++ [((u,x),T)])=heads yes D ++ [T] by rw [zu,jJ hA rfl]);have HB:=hdd hw1.size;have hb3:Below w1 w1 ((w1.alloc (.cells #[u.x,u.y,x.x,x.y] 100)).alloc (.cells (cT T).toArray 45)):=by go_grown
    have own3:=(own1.alloc (.cells #[u.x,u.y,x.x,x.y] 100)).alloc (.cells (cT T).toArray 45);have HO3:=hdd own3;clear hA;go_wp2_with (at_builtin;refine yJ rfl _ _ rfl w.heap.size _ (heads yes D) rfl (own3.alloc _) (w1.heap.size+1+1) T rfl (Box.new (by simp)) hle (by have:=HB.o;simp;omega) ?_;intro w4 v4 hown4 hg4)
    have hR3:=(HR1.ee hb3).kept (World.grownBy_alloc _ (.cells (cT T).toArray 45) none) (by simp) (by simp);have hR4:=hR3.kept hg4 (yF (own3.alloc _) hR3.holds) (zw (own3.alloc _) hR3);have hw4:=((((upB hw1 hb3)).alloc (by have:=HB.o;simp;omega) (.cells (cT T).toArray 45))).grown hg4 (by have:=HB.o;simp;omega) (λk hk=>((own3.alloc (.cells (cT T).toArray 45)).lt k hk).1)
    go_roundw
    case rel=>exact ⟨D ++ [((u,x),T)],R',hD2,by rw [HH.o];exact hown4,hR4,hw4⟩
    case measure=>rw [zT hR4,<-zT HR1];exact HL.o
   ·have hd:peqI u.x u.y T.A.x T.A.y=false:=by rw [<-QO,yo];exact hA
    have HH:=hdd (show heads yes (D ++ [((u,x),T)])=heads yes D by rw [zu,qw (by simp [hA])];simp);clear hA;go_wp2
    go_roundw
    case rel=>exact ⟨D ++ [((u,x),T)],R',hD2,by rw [HH.o];exact (own1.alloc _).alloc _,HR1.ext (by go_grown) rfl,by have:=hw1.size;go_grown⟩
    case measure=>exact hnx.o _ (by go_grown)
theorem rtris_cap (mb b:Nat) (E:Es) (hE:E.length<=1000000) (w:World) (Bm:Box w mb [.map (some b)] 98) (Hm:Hs w b E):Calls prog 22 #[pt0 mb] w λe w'=>∃ a cap,e=.returned (.slice a (srt cmpT (heads (λ_=>true) E)).length cap)/\(srt cmpT (heads (λ_=>true) E)).length<=cap/\RowAt cT 6 w' a (srt cmpT (heads (λ_=>true) E))/\Below w w w':=
 (rtris_own mb b E hE w Bm Hm).mono λ_ _ ⟨a,cap,h1,h2,h3,_,h4⟩=>⟨a,cap,h1,h2,h3,h4⟩
theorem rtris_any (mb b:Nat) (E:Es) (hE:E.length<=1000000) (w:World) (Bm:Box w mb [.map (some b)] 98) (Hm:Hs w b E):Calls prog 22 #[pt0 mb] w λe w'=>∃ a cap,e=.returned (.slice a (srt cmpT (heads (λ_=>true) E)).length cap)/\RowAt cT 6 w' a (srt cmpT (heads (λ_=>true) E))/\Below w w w':=
 (rtris_cap mb b E hE w Bm Hm).mono λ_ _ h=>by
  obtain ⟨a,cap,h1,_,h2⟩:=h;exact ⟨a,cap,h1,h2⟩
theorem yp {w w':World} {B k:Nat} {T:TypeId} {v:Value} {n:Nat} {xs:List Value} (h:w.ownsRow B T k v n xs) (hb:Below w w w'):w'.ownsRow B T k v n xs:=
 h.kept (zM hb none) (by cases v.ownBlock <;> simp)
theorem Box.grown2 {w w':World} {x:Nat} {cs:List Value} {T:TypeId} {r:Option Nat} (h:Box w x cs T) (hg:w.grownBy w' r) (hr:∀ k,r=some k->x < k):Box w' x cs T:=by
 have hl:=h.lt;unfold Box at *;rw [hg.block x hl (λe=>by have:=hr x e.symm;omega)];exact h
theorem Box.grown1 {w w':World} {x r:Nat} {cs:List Value} {T:TypeId} (h:Box w x cs T) (hg:w.grownBy w' (some r)) (hr:x < r:=by omega):Box w' x cs T:=h.grown2 hg (λk hk=>by cases hk;exact hr)
theorem Yq (mb b:Nat) (E:Es) (p:Pt) (hE:E.length<=1000000) (w:World) (Bm:Box w mb [.map (some b)] 98) (Hm:Hs w b E):Calls prog 86 #[pt0 mb,p] w λe w'=>∃ a cap,e=.returned (.slice a (srt cmpT (heads (λT=>hasP T p) E)).length cap)/\RowAt cT 6 w' a (srt cmpT (heads (λT=>hasP T p) E))/\Below w w w':=by
 obtain ⟨f,ef⟩:∃ f:Tri3->Bool,f=λT=>hasP T p:=⟨_,rfl⟩;rw [<-ef];have hf:∀ T,hasP T p=f T:=λT=>by rw [ef]
 clear ef;have cH:∀ (T:Tri3) (W:World),Calls prog 136 #[T,p] W λe w'=>e=.returned (.bool (f T))/\Below W W w':=λT W=>by rw [<-hf];exact qZ T p W
 clear hf;have Fm:=Bm.f
 go_enter func86,ntmps86
 go_wp2_with (at_range;refine yK _ rfl _ rfl kvR rfl (Hm.alloc _) ?_)
 intro w0 HR0 hw0 hs0;have Bp0:Box w0 w [p.x,p.y] 34:=(Box.new rfl).ext hw0 (by simp);replace hw0:Below w w w0:=((Below.refl w.heap.size w).alloc (JJ _) _).trans (hw0.mono (by simp));clear Fm;go_wp2
 go_loopw [5] (λv wr=>∃ D R:Es,Hi ((D ++ R).Perm E)/\wr.ownsRow (w.heap.size+1) 45 6 v (heads f D).length ((heads f D).flatMap cT)/\Ranging eW eT okW wr b (w.heap.size+1) E R/\Box wr w [p.x,p.y] 34/\Below w w wr) (λ_ wr=>wr.rangeLeft b (w.heap.size+1))
 case atStart=>exact ⟨[],E,hdd (by simp),World.ownsRow_nil _ _ _ _,by simpa using HR0,Bp0,hw0⟩
 case round=>
  clear HR0 hw0 Bp0;obtain ⟨D,R,hD,hown,HR,Bp,hw⟩:=hrel;go_wp2_with (at_next;refine yN _ rfl _ rfl rfl HR ?_ ?_)
  ·intro hR;subst hR;have hp0:(heads f D).Perm (heads f E):=xf (by simpa using hD.o);have hle:(heads f D).length<=1000000:=by have:=hp0.length_eq;have:=yw f E;omega
   have HS:=hdd (wholeT.srt_of_perm hp0);obtain ⟨a1,c1,rfl,hc1,hr1⟩:=zx ks hown;have hlen:=hdd (show (heads f D).length=(srt cmpT (heads f E)).length by rw [<-HS.o];exact (zU _).length_eq.symm);go_wp2_with fail;refine (xY _ _ _ _ (hdd rfl) hle hc1 _ hr1).mono ?_;rintro e w2 ⟨a,cap,rfl,hr,hb⟩;go_wp2
   go_ret
   rw [HS.o] at hr;exact ⟨a,cap,by rw [hlen.o];rfl,hr,(upB hw hb)⟩
  ·intro u x T R' w1 hperm HR1 hg1 hs1 hen;have hD2:=hdd (show ((D ++ [((u,x),T)]) ++ R').Perm E by have:=(hperm.append_left D).symm.trans hD.o;simpa using this);have own1:=hown.kept hg1 (.inr (λe=>zw hown HR e.symm));have Bp1:=Bp.grown1 hg1;have hw1:=hw.grown hg1 hw.size (λk hk=>by cases hk;omega);have HL:=hdd (show w1.rangeLeft b (w.heap.size+1) < wr.rangeLeft b (w.heap.size+1) by rw [zT HR1,zT HR,hperm.length_eq];simp);have hen2:(Instr.entry (.pointer (some ⟨w+1,0,none⟩))).run prog w1=.ok (.tuple #[.agg #[u.x,u.y,x.x,x.y],T]) w1:=hen;have hle:(heads f D).length<=1000000:=by have:=hD2.o.length_eq;have:=yw f D;simp at *;omega
   have HB:=hdd hw1.size;clear hown HR hg1 hs1 hen hperm hw Bp;by_cases hA:u=T.A
   ·have hd:peqI u.x u.y T.A.x T.A.y=true:=yo.2 hA;have HHt:=hdd (λ(hf:f T)=>show heads f (D ++ [((u,x),T)])=heads f D ++ [T] by rw [zu,jJ hA hf]);have HHf:=hdd (λ(hf:f T=false)=>show heads f (D ++ [((u,x),T)])=heads f D by rw [zu,qw (by simp [hf])];simp);clear hA;have Fp:=Bp1.f;have e1:(w.heap.size=w1.heap.size+1)=False:=by have:=Bp1.lt;simp;omega
    go_wp2_with fail;refine zI λW2 hW=>?_;have Bt:Box W2 (w1+1) [T.A.x,T.A.y,T.B.x,T.B.y,T.C.x,T.C.y] 45:=by rw [hW];exact Box.new (by simp)
    have Bp2:Box W2 w [p.x,p.y] 34:=by rw [hW];exact (Bp1.old _).old _
    have own2:W2.ownsRow (w.heap.size+1) 45 6 u5 (heads f D).length ((heads f D).flatMap cT):=by rw [hW];exact (own1.alloc _).alloc _
    have hw2:Below w1 w1 W2:=by rw [hW];go_grown
    have HR2:=HR1.ee hw2;clear hW Fp e1 Bp1 own1;refine (cH T _).mono ?_;rintro e w3 ⟨rfl,hb⟩;replace Bt:=Bt.ee hb;replace Bp2:=Bp2.ee hb;replace own2:=yp own2 hb;replace HR2:=HR2.ee hb;have hw3:=hw1.trans (((upB hw2 hb)).mono hw1.size);have HL3:=hdd (show w3.rangeLeft b (w.heap.size+1) < wr.rangeLeft b (w.heap.size+1) by rw [zT HR2,<-zT HR1];exact HL.o);have HB3:=hdd hw3.size;clear hb hw2;cases hf:f T with
    | true=>
     have HH:=hdd (HHt.o hf);clear HHt HHf hf;have Ft:=Bt.f;go_wp2_with (at_builtin;refine yJ rfl _ _ rfl (w.heap.size+1) _ (heads f D) rfl (own2.alloc _) w3.heap.size T rfl (Box.new (by simp)) hle (by have:=HB3.o;simp;omega) ?_;intro w4 v4 hown4 hg4)
     have hR3:=HR2.kept (World.grownBy_alloc _ (.cells (cT T).toArray 45) none) (by simp) (by simp);have hR4:=hR3.kept hg4 (yF (own2.alloc _) hR3.holds) (zw (own2.alloc _) hR3);have hw4:=((hw3.alloc (by have:=HB3.o;omega) (.cells (cT T).toArray 45))).grown hg4 (by have:=HB3.o;simp;omega) (λk hk=>by have:=((own2.alloc (.cells (cT T).toArray 45)).lt k hk).1;omega);have Bp4:=(Bp2.old (.cells (cT T).toArray 45)).grown2 hg4 (λk hk=>by have:=((own2.alloc (.cells (cT T).toArray 45)).lt k hk).1;omega)
     go_roundw
     case rel=>exact ⟨D ++ [((u,x),T)],R',hD2,by rw [HH.o];exact hown4,hR4,Bp4,hw4⟩
     case measure=>rw [zT hR4,<-zT HR2];exact HL3.o
    | false=>
     have HH:=hdd (HHf.o hf);clear HHt HHf hf;go_wp2
     go_roundw
     case rel=>exact ⟨D ++ [((u,x),T)],R',hD2,by rw [HH.o];exact own2,HR2,Bp2,hw3⟩
     case measure=>exact HL3.o
   ·have hd:peqI u.x u.y T.A.x T.A.y=false:=by rw [<-QO,yo];exact hA
    have HH:=hdd (show heads f (D ++ [((u,x),T)])=heads f D by rw [zu,qw (by simp [hA])];simp);clear hA;go_wp2
    go_roundw
    case rel=>exact ⟨D ++ [((u,x),T)],R',hD2,by rw [HH.o];exact (own1.alloc _).alloc _,HR1.ext (by go_grown) rfl,(Bp1.old _).old _,by have:=hw1.size;go_grown⟩
    case measure=>rw [zT ((HR1.ext (w':=(w1.alloc _).alloc _) (by go_grown) rfl)),<-zT HR1];exact HL.o
end
section
open Go.RowKit Go.Sort
attribute [local go_sem] rOper rAt rUpon cell_set sg_i64 sg_u64 alloc_cell alloc_frozen
attribute [local go_sem 10000] pt_eql pt_neq wal_eql wal_neq
attribute [local irreducible] rWalk
theorem mw_a (a b:Pt) (k:Int) (ha:vld a=false) (w:World):Calls prog 41 #[a,b,k] w (Rt w (.tuple #[.agg #[(),(),(),(),()],.bool false])):=by
 have c1:=z7 a;rw [ha] at c1;clear ha
 go_enter func41,ntmps41
 go_wp2_with fail;refine qE3 λW1 Ba Bb Br hw=>?_;refine qK3 (c1 _) Ba Bb Br hw λw2 Ba Bb Br hw=>?_;have Fa:=Ba.f;have Fb:=Bb.f;have Fr:=Br.f;go_wp2_with fail;refine bodyPost_ret (v:=.tuple #[.agg #[(),(),(),(),()],.bool false]) (by simp [results,results41,go_sem,Fr]) rfl ⟨rfl,by have hl:=hw.size;go_grown⟩
theorem mw_b (a b:Pt) (k:Int) (ha:vld a) (hb:vld b=false) (w:World):Calls prog 41 #[a,b,k] w (Rt w (.tuple #[.agg #[(),(),(),(),()],.bool false])):=by
 have c1:=z7 a;rw [ha] at c1;have c2:=z7 b;rw [hb] at c2;clear ha hb
 go_enter func41,ntmps41
 go_wp2_with fail;refine qE3 λW1 Ba Bb Br hw=>?_;refine qC3 (c1 _) Ba Bb Br hw λw2 Ba Bb Br hw Gv=>?_;go_wp2_with fail;clear Gv;refine qK3 (c2 _) Ba Bb Br hw λw3 Ba Bb Br hw=>?_;have Fa:=Ba.f;have Fb:=Bb.f;have Fr:=Br.f;go_wp2_with fail;refine bodyPost_ret (v:=.tuple #[.agg #[(),(),(),(),()],.bool false]) (by simp [results,results41,go_sem,Fr]) rfl ⟨rfl,by have hl:=hw.size;go_grown⟩
theorem mw_e (a b:Pt) (k:Int) (ha:vld a) (hb:vld b) (e:peqI a.x a.y b.x b.y) (w:World):Calls prog 41 #[a,b,k] w (Rt w (.tuple #[.agg #[(),(),(),(),()],.bool false])):=by
 have c1:=z7 a;rw [ha] at c1;have c2:=z7 b;rw [hb] at c2;clear ha hb
 go_enter func41,ntmps41
 go_wp2_with fail;refine qE3 λW1 Ba Bb Br hw=>?_;refine qC3 (c1 _) Ba Bb Br hw λw2 Ba Bb Br hw Gv=>?_;go_wp2_with fail;clear Gv;refine qK3 (c2 _) Ba Bb Br hw λw3 Ba Bb Br hw=>?_;have Fa:=Ba.f;have Fb:=Bb.f;have Fr:=Br.f;go_wp2_with fail;refine bodyPost_ret (v:=.tuple #[.agg #[(),(),(),(),()],.bool false]) (by simp [results,results41,go_sem,Fr]) rfl ⟨rfl,by have hl:=hw.size;go_grown⟩
theorem mw_k (a b:Pt) (k:Int) (ha:vld a) (hb:vld b) (e:peqI a.x a.y b.x b.y=false) (e1:(k != 1)=true) (e2:(k != 2)=true) (w:World):Calls prog 41 #[a,b,k] w (Rt w (.tuple #[.agg #[(),(),(),(),()],.bool false])):=by
 have c1:=z7 a;rw [ha] at c1;have c2:=z7 b;rw [hb] at c2;clear ha hb
 go_enter func41,ntmps41
 go_wp2_with fail;refine qE3 λW1 Ba Bb Br hw=>?_;refine qC3 (c1 _) Ba Bb Br hw λw2 Ba Bb Br hw Gv=>?_;go_wp2_with fail;clear Gv;refine qK3 (c2 _) Ba Bb Br hw λw3 Ba Bb Br hw=>?_;have Fa:=Ba.f;have Fb:=Bb.f;have Fr:=Br.f;go_wp2_with fail;refine bodyPost_ret (v:=.tuple #[.agg #[(),(),(),(),()],.bool false]) (by simp [results,results41,go_sem,Fr]) rfl ⟨rfl,by have hl:=hw.size;go_grown⟩
theorem mw_o1 (a b:Pt) (k:Int) (ha:vld a) (hb:vld b) (e:peqI a.x a.y b.x b.y=false) (e1:(k != 1)=false) (w:World):Calls prog 41 #[a,b,k] w (Rt w (.tuple #[.agg #[.int .i64 (rl a b).x,.int .i64 (rl a b).y,.int .i64 (rg a b).x,.int .i64 (rg a b).y,k],.bool true])):=by
 have c1:=z7 a;rw [ha] at c1;have c2:=z7 b;rw [hb] at c2;have c3:=ju a b;have c4:=jv a b;clear ha hb;generalize rl a b=p at *
 generalize rg a b=q at *
 go_enter func41,ntmps41
 go_wp2_with fail;refine qE3 λW1 Ba Bb Br hw=>?_;refine qC3 (c1 _) Ba Bb Br hw λw2 Ba Bb Br hw Gv=>?_;go_wp2_with fail;clear Gv;refine qK3 (c2 _) Ba Bb Br hw λw3 Ba Bb Br hw=>?_;have Fa:=Ba.f;have Fb:=Bb.f;have Fr:=Br.f;go_wp2_with fail;have Rq:=J3 Ba.cells Bb.cells Br.cells;refine rgn 8 (λw4 hb=>?_);clear Rq;clear Fa Fb Fr;obtain ⟨Ba,Bb,Br,hw,-⟩:=qX3 Ba Bb Br hw hb;have Fa:=Ba.f;have Fb:=Bb.f;have Fr:=Br.f;go_wp2_with fail;refine bodyPost_ret (v:=.tuple #[.agg #[p.x,p.y,q.x,q.y,k],.bool true]) (by simp [results,results41,go_sem,Fr]) rfl ⟨rfl,by have hl:=hw.size;go_grown⟩
theorem mw_o2 (a b:Pt) (k:Int) (ha:vld a) (hb:vld b) (e:peqI a.x a.y b.x b.y=false) (e1:(k != 1)=true) (e2:(k != 2)=false) (w:World):Calls prog 41 #[a,b,k] w (Rt w (.tuple #[.agg #[.int .i64 (rl a b).x,.int .i64 (rl a b).y,.int .i64 (rg a b).x,.int .i64 (rg a b).y,k],.bool true])):=by
 have c1:=z7 a;rw [ha] at c1;have c2:=z7 b;rw [hb] at c2;have c3:=ju a b;have c4:=jv a b;clear ha hb;generalize rl a b=p at *
 generalize rg a b=q at *
 go_enter func41,ntmps41
 go_wp2_with fail;refine qE3 λW1 Ba Bb Br hw=>?_;refine qC3 (c1 _) Ba Bb Br hw λw2 Ba Bb Br hw Gv=>?_;go_wp2_with fail;clear Gv;refine qK3 (c2 _) Ba Bb Br hw λw3 Ba Bb Br hw=>?_;have Fa:=Ba.f;have Fb:=Bb.f;have Fr:=Br.f;go_wp2_with fail;have Rq:=J3 Ba.cells Bb.cells Br.cells;refine rgn 8 (λw4 hb=>?_);clear Rq;clear Fa Fb Fr;obtain ⟨Ba,Bb,Br,hw,-⟩:=qX3 Ba Bb Br hw hb;have Fa:=Ba.f;have Fb:=Bb.f;have Fr:=Br.f;go_wp2_with fail;refine bodyPost_ret (v:=.tuple #[.agg #[p.x,p.y,q.x,q.y,k],.bool true]) (by simp [results,results41,go_sem,Fr]) rfl ⟨rfl,by have hl:=hw.size;go_grown⟩
theorem rl_lo {a b:Pt} (h:a≠b):rl a b=lo2 a b/\rg a b=hi2 a b:=by
 have h1:=zl a b;have h2:¬ cmpP a b=0:=λe=>h (zP.1 e);unfold rl rg lo2 hi2;constructor <;> (split <;> split <;> first | rfl | (exfalso;omega))
theorem kx (a b:Pt) (k:Int) (w:World):Calls prog 41 #[a,b,k] w (Rt w (.tuple #[.agg #[.int .i64 (mkW a b k).A.x,.int .i64 (mkW a b k).A.y,.int .i64 (mkW a b k).B.x,.int .i64 (mkW a b k).B.y,.int .i64 (mkW a b k).K],.bool (mkOk a b k)])):=by
 have hz:∀ e,mkOk a b k=e->e=false->mkW a b k=⟨⟨0,0⟩,⟨0,0⟩,0⟩:=λe h1 h2=>by unfold mkW;rw [h1,h2];rfl
 cases ha:vld a with
 | false=>
  have h:mkOk a b k=false:=by unfold mkOk;rw [ha];simp
  rw [hz _ h rfl,h];exact mw_a a b k ha w
 | true=>
  cases hb:vld b with
  | false=>
   have h:mkOk a b k=false:=by unfold mkOk;rw [hb];simp
   rw [hz _ h rfl,h];exact mw_b a b k ha hb w
  | true=>
   cases e:peqI a.x a.y b.x b.y with
   | true=>
    have h:mkOk a b k=false:=by rw [zq] at e;unfold mkOk;rw [e];simp
    rw [hz _ h rfl,h];exact mw_e a b k ha hb e w
   | false=>
    have hab:a≠b:=by rw [zq] at e;simpa using e
    have h0:mkOk a b k=mkK k:=by rw [zq] at e;unfold mkOk;rw [e,ha,hb];simp
    have hy:mkOk a b k=true->mkW a b k=⟨rl a b,rg a b,k⟩:=λh=>by unfold mkW;rw [h,(rl_lo hab).1,(rl_lo hab).2];rfl
    cases e1:(k != 1) with
    | false=>
     have h:mkOk a b k=true:=by rw [h0];simp at e1;simp [mkK,e1]
     rw [hy h,h];exact mw_o1 a b k ha hb e e1 w
    | true=>
     cases e2:(k != 2) with
     | false=>
      have h:mkOk a b k=true:=by rw [h0];simp at e2;simp [mkK,e2]
      rw [hy h,h];exact mw_o2 a b k ha hb e e1 e2 w
     | true=>
      have h:mkOk a b k=false:=by rw [h0];simp at e1 e2;simp [mkK,e1,e2]
      rw [hz _ h rfl,h];exact mw_k a b k ha hb e e1 e2 w
section
open Go.Lib
theorem grownBy_drew {w W:World} {r:Option Nat} (h:w.grownBy W r):w.grownBy W.drew r:=⟨h.1,h.2,h.3,h.4,h.5⟩
theorem info_wall5:(prog.info? 71).map (·.size)=some 5:=by kernel_rfl
theorem uk {w:World} (ty:TypeId) (g o dLen dCap:Nat) (a:Addr) (sLen sCap:Nat) (C cs:List Value) (T:TypeId) (hg:Box w g C T) (hn:cs.length=Nat.min sLen dLen * 5) (hsrc:∀ j v,cs[j]? = some v->w.cell? (a.add j)=some v) (hfit:o+cs.length<=C.length) (h1:∀ v∈cs,v.oneCell'=true):(Builtin.copy_ #[41,41] ty #[.slice (some ⟨g,o,none⟩) dLen dCap,.slice (some a) sLen sCap]).run prog w=.ok (goInt (Nat.min sLen dLen)) (w.setRow g (C.take o ++ cs ++ C.drop (o+cs.length)).toArray):=by
 have hl:=run_loadCells_list (P:=prog) w a cs hsrc;have hst:=run_storeCells_at prog g o T cs 0 C.toArray w hg (by simpa using hfit) h1;have hs:=info_wall5;cases hq:prog.info? 71 with
 | none=>simp [hq] at hs
 | some i=>
  have hi:i.size=5:=by simpa [hq] using hs
  simp only [Nat.add_zero] at hst;simp [Builtin.copy_,run_underlying underlying41,Builtin.lenOf,Builtin.firstCells,sizeOf,typeInfo,hq,hi,<-hn,hl,hst]
theorem Box.setRow {w:World} {g:Nat} {C D:List Value} {T:TypeId} (h:Box w g C T):Box (w.setRow g D.toArray) g D T:=setRow_heap w g _ _ T _ h
theorem Zc {w:World} {g:Nat} {C:List Value} {T:TypeId} (h:Box w g C T):w.shape? g=some (T,C.length):=by
 unfold Box at h;simp [World.shape?,h]
theorem apart_run {w:World} {bx g:Nat} {X:Wl} {C:List Value} (hbx:Box w bx (cW X) 71) (hg:Box w g C 71) (hne:bx≠g) (hC:C.length≠0) (k la ca lb cb:Nat):(callFunc 155 #[.slice (some ⟨bx,0,none⟩) la ca,.slice (some ⟨g,k,none⟩) lb cb]).run prog w=.ok (.value (.bool false)) w:=by
 rw [run_callFunc_extern func155 (by kernel_rfl) (by kernel_rfl) (by kernel_rfl) (e:=Extern.SlicesOverlaps.overlaps #[41,41] #[4]) (by kernel_rfl),
  Lib.run_overlaps_apart w 41 4 71 underlying41 5 Tryz.sizeOf71 ⟨bx,0,none⟩ ⟨g,k,none⟩ la ca lb cb hne _ _ _ _ (Zc hbx) (Zc hg) hC (hbx.f.2.1 _) (hbx.f.2.1 _)]
 rfl
theorem ins_room (g n c k bx:Nat) (L:List Wl) (X:Wl) (tl:List Value) (w:World) (hn:L.length=n) (hk:k < n) (hc:n+1<=c) (hc2:c<=maxLen) (htl:tl.length=(c - n) * 5) (hg:Box w g (L.flatMap cW ++ tl) 71) (hbx:Box w bx (cW X) 71) (hne:bx≠g):Calls prog 111 #[.slice (some ⟨g,0,none⟩) n c,.int .i64 k,.slice (some ⟨bx,0,none⟩) 1 1] w λe w'=>e=.returned (.slice (some ⟨g,0,none⟩) (n+1) c)/\w.grownBy w' (some g)/\Box w' g ((L.take k ++ X :: L.drop k).flatMap cW ++ tl.drop 5) 71:=by
 have hov:=apart_run hbx hg hne (by rw [JC,zS yS];omega);have hmx:c<=9223372036854775807:=by unfold maxLen at hc2;omega
 have hz1:¬ ((k:Int)=(n:Int)):=by omega
 have hA:((L.take k).flatMap cW).length=k * 5:=by rw [zS yS,Jc];omega
 have hD:((L.drop k).flatMap cW).length=(n - k) * 5:=by rw [zS yS,Ja,hn]
 have hC:L.flatMap cW=(L.take k).flatMap cW ++ (L.drop k).flatMap cW:=by rw [<-Je,Jj]
 have hR:(L.take k ++ X :: L.drop k).flatMap cW ++ tl.drop 5=(L.take k).flatMap cW ++ (cW X ++ ((L.drop k).flatMap cW ++ tl.drop 5)):=by
  rw [Je,JE];simp only [JL]
 have h1D:∀ v∈(L.drop k).flatMap cW,v.oneCell'=true:=λu hu=>by
  obtain ⟨x,_,hx⟩:=JO.1 hu;exact jA x u hx
 rw [hR];rw [hC,JL] at hg;clear hR hC;generalize (L.take k).flatMap cW=A at *
 generalize (L.drop k).flatMap cW=D at *
 have hmin:Nat.min (n+1 - k) (n - k)=n - k:=by simp only [Nat.min_def];split <;> omega
 have e1:(A ++ (D ++ tl)).take ((k+1) * 5) ++ D ++ (A ++ (D ++ tl)).drop ((k+1) * 5+D.length)=A ++ ((D ++ tl).take 5 ++ (D ++ tl.drop 5)):=by
  rw [show (k+1) * 5=A.length+5 by omega,List.take_length_add_append,show A.length+5+D.length=A.length+(D.length+5) by omega,QR,QR];simp only [JL]
 have hY:((D ++ tl).take 5).length=5:=by rw [Jc,JC];omega
 generalize hYe:(D ++ tl).take 5=Y at *
 have e2:(A ++ (Y ++ (D ++ tl.drop 5))).take (k * 5) ++ cW X ++ (A ++ (Y ++ (D ++ tl.drop 5))).drop (k * 5+(cW X).length)=A ++ (cW X ++ (D ++ tl.drop 5)):=by
  rw [<-hA,Vh,yS,QR,<-hY,List.drop_left];simp only [JL]
 have hcp1:=λ(ty:TypeId) (dc sc:Nat)=>uk (w:=w.drew) ty g ((k+1) * 5) (n - k) dc ⟨g,k * 5,none⟩ (n+1 - k) sc _ D _ hg.drew (by rw [hmin,hD]) (λj v hj=>by
  rw [Addr.add_lit,hg.drew.f.1,<-hA,V3 (by omega),show A.length+j - A.length=j by omega,Qa (JR.1 hj).1];exact hj)
  (by simp only [JC];omega) h1D
 rw [e1,hmin] at hcp1;have hg1:Box (w.drew.setRow g (A ++ (Y ++ (D ++ tl.drop 5))).toArray) g (A ++ (Y ++ (D ++ tl.drop 5))) 71:=hg.drew.setRow;have hbx1:Box (w.drew.setRow g (A ++ (Y ++ (D ++ tl.drop 5))).toArray) bx (cW X) 71:=by
  unfold Box;rw [setRow_other _ _ _ _ hne];exact hbx
 have hgr:w.grownBy (w.drew.setRow g (A ++ (Y ++ (D ++ tl.drop 5))).toArray) (some g):=⟨rfl,rfl,rfl,by simp [World.setRow],λq _ hq=>setRow_other _ _ _ _ (λe=>hq (by rw [e]))⟩;have hcp2:=λ(W:World) (h1:Box W g (A ++ (Y ++ (D ++ tl.drop 5))) 71) (h2:Box W bx (cW X) 71) (ty:TypeId) (dc:Nat)=>uk (w:=W) ty g (k * 5) (n+1 - k) dc ⟨bx,0,none⟩ 1 1 _ (cW X) _ h1 (by rw [yS,show Nat.min 1 (n+1 - k)=1 by simp only [Nat.min_def];split <;> omega]) (λj v hj=>by
  rw [Addr.add_lit,h2.f.1,QJ];exact hj) (by simp only [JC,yS];omega) (jA X)
 rw [e2] at hcp2;have hfin:∀ W:World,Box W g (A ++ (Y ++ (D ++ tl.drop 5))) 71->w.grownBy W (some g)->w.grownBy (W.setRow g (A ++ (cW X ++ (D ++ tl.drop 5))).toArray) (some g)/\Box (W.setRow g (A ++ (cW X ++ (D ++ tl.drop 5))).toArray) g (A ++ (cW X ++ (D ++ tl.drop 5))) 71:=λW h1 h2=>
  let ⟨a1,a2,a3,a4,a5⟩:=h2
  ⟨⟨a1,a2,a3,by simpa [World.setRow] using a4,λq hq hne2=>by rw [setRow_other _ _ _ _ (λe=>hne2 (by rw [e]))];exact a5 q hq hne2⟩,h1.setRow⟩
 obtain ⟨R1,hR1⟩:∃ R:Array Value,R=(A ++ (Y ++ (D ++ tl.drop 5))).toArray:=⟨_,rfl⟩;obtain ⟨R2,hR2⟩:∃ R:Array Value,R=(A ++ (cW X ++ (D ++ tl.drop 5))).toArray:=⟨_,rfl⟩;rw [<-hR1] at hcp1 hg1 hbx1 hgr;rw [<-hR2] at hcp2 hfin;clear hR1 hR2;have HF:=hdd hfin;have HG:=hdd hgr;have H1:=hdd hg1;have HB:=hdd hbx1;clear hg hbx hfin hgr hg1 hbx1 e1 e2 hYe hA hD hY h1D htl;have mixed:prog.follows .mixedOrders=true:=by kernel_rfl
 have hw1:IntKind.i64.wrap ((k:Int)+1)=(k:Int)+1:=by rw [IntKind.wrap_i64];omega
 have hb1:(0:Int)<=(k:Int)+1:=by omega
 have htn:((k:Int)+1).toNat=k+1:=by omega
 have hb2:¬ (c=k+1):=by omega
 have hb3:(k:Int)<=(n:Int)+1:=by omega
 have hb4:¬ (c=k):=by omega
 have hb5:k<=n:=by omega
 have hb6:(k:Int)+1<=(n:Int)+1:=by omega
 go_enter func111,ntmps111
 go_wp2_with (simp only [hov])
 go_region_law_o (refine step_copy_runI rfl _ _ 41 41 rfl _ _ (by simp [Act.eval,Act.put]) (by simp [Act.eval,Act.put]) (hcp1 _ _ _) ?_)
 go_wp2_with (refine wpList_copy_runI _ rfl _ _ 41 41 rfl _ _ rfl rfl (hcp2 _ H1.o HB.o _ _) ?_)
 go_ret
 exact ⟨rfl,HF.o _ H1.o HG.o⟩
theorem ins_grow (g n c k bx:Nat) (L:List Wl) (X:Wl) (tl:List Value) (w:World) (hn:L.length=n) (hk:k < n) (hc:c < n+1) (hc2:n<=c) (hL:n<=1000000) (hg:Box w g (L.flatMap cW ++ tl) 71) (hbx:Box w bx (cW X) 71):Calls prog 111 #[.slice (some ⟨g,0,none⟩) n c,.int .i64 k,.slice (some ⟨bx,0,none⟩) 1 1] w λe w'=>∃ G tl',e=.returned (.slice (some ⟨w,0,none⟩) (n+1) G)/\w.grownBy w' none/\n+1<=G/\G<=maxLen/\tl'.length=(G - (n+1)) * 5/\Box w' w.heap.size ((L.take k ++ X :: L.drop k).flatMap cW ++ tl') 71:=by
 obtain ⟨i0,hi0,hz0,hzs,hzb⟩:=info_parts xT;have hA:((L.take k).flatMap cW).length=k * 5:=by rw [zS yS,Jc];omega
 have hD:((L.drop k).flatMap cW).length=(n - k) * 5:=by rw [zS yS,Ja,hn]
 have hC:L.flatMap cW=(L.take k).flatMap cW ++ (L.drop k).flatMap cW:=by rw [<-Je,Jj]
 have hR:∀ tl',(L.take k ++ X :: L.drop k).flatMap cW ++ tl'=(L.take k).flatMap cW ++ (cW X ++ ((L.drop k).flatMap cW ++ tl')):=λtl'=>by
  rw [Je,JE];simp only [JL]
 have h1D:∀ v∈(L.drop k).flatMap cW,v.oneCell'=true:=λu hu=>by
  obtain ⟨x,_,hx⟩:=JO.1 hu;exact jA x u hx
 simp only [hR];rw [hC,JL] at hg;clear hR hC;generalize (L.take k).flatMap cW=A at *
 generalize (L.drop k).flatMap cW=D at *
 have hgw:=hg.lt;have hbw:=hbx.lt;have hik:k+(n+1 - k)=n+1:=by omega
 have hold:(Builtin.firstCells i0.size k (.slice (some ⟨g,0,none⟩) k c)).run prog w.drew=.ok A.toArray w.drew:=by
  rw [hzs];exact run_firstCells_some w.drew 5 k ⟨g,0,none⟩ k c A hA (λj v hj=>by
   rw [Addr.add_lit,hg.drew.f.1,QJ,Qa (JR.1 hj).1];exact hj)
 obtain ⟨G,hG⟩:∃ G,G=grownCap w (n+1) c 71:=⟨_,rfl⟩;have hGn:n+1<=G:=by rw [hG];exact grownCap_ge w _ _ _
 have hGm:G<=maxLen:=by rw [hG];exact grownCap_le_maxLen w _ _ _ (by unfold maxLen;omega)
 obtain ⟨Z,hZ⟩:∃ Z,Z=(Builtin.zeroCells (Value.agg #[(),(),(),(),()]).cells (n+1 - k)).toList ++ (Builtin.zeroCells (Value.agg #[(),(),(),(),()]).cells (G - (n+1))).toList:=⟨_,rfl⟩;have hZl:Z.length=(G - k) * 5:=by
  rw [hZ];simp only [JC,Vf,size_zeroCells,Value.cells];simp;omega
 have hrz : ∀ ty, (Builtin.append_ #[41, 3] ty #[.slice (some ⟨g, 0, none⟩) k c, .int .i64 ((n : Int) + 1 - (k : Int))]).run prog w =
     .ok (.slice (some ⟨w,0,none⟩) (n+1) G) (w.drew.alloc (.cells (A ++ Z).toArray 71)):=λty=>by
  have h:=Lib.run_append_grow_zeros w 41 3 ty 71 i0 _ .i64 .i64 underlying41 underlying3 hi0 hz0 (some ⟨g,0,none⟩) k c A hold (n+1 - k) (by omega) (by omega) (by omega) (by omega) (by rw [hzb];omega) (by rw [hzb,hik];exact growslice_fits hc (by omega));rw [hik,<-hG] at h;rw [show (n:Int)+1 - (k:Int)=((n+1 - k:Nat):Int) by omega,hZ];rw [h];congr 3
  apply Array.ext';simp
 obtain ⟨R0,hR0⟩:∃ R:Array Value,R=(A ++ Z).toArray:=⟨_,rfl⟩;have e1:(A ++ Z).take (k * 5) ++ cW X ++ (A ++ Z).drop (k * 5+(cW X).length)=A ++ (cW X ++ Z.drop 5):=by
  rw [<-hA,Vh,QR,yS];simp only [JL]
 have e2:(A ++ (cW X ++ Z.drop 5)).take ((k+1) * 5) ++ D ++ (A ++ (cW X ++ Z.drop 5)).drop ((k+1) * 5+D.length)=A ++ (cW X ++ (D ++ (Z.drop 5).drop D.length)):=by
  rw [<-JL,show (k+1) * 5=(A ++ cW X).length by rw [JC,yS];omega,Vh,QR];simp only [JL]
 have hb0:Box (w.drew.alloc (.cells R0 71)) w.heap.size (A ++ Z) 71:=by rw [hR0];exact Box.new rfl
 have hbx0:=(hbx.drew).old (.cells R0 71);have hg0:=(hg.drew).old (.cells R0 71);rw [<-hR0] at hrz;have hcpA:=λ(W:World) (h1:Box W w (A ++ Z) 71) (h2:Box W bx (cW X) 71) (ty:TypeId) (dc:Nat)=>uk (w:=W) ty w.heap.size (k * 5) (n+1 - k) dc ⟨bx,0,none⟩ 1 1 _ (cW X) _ h1 (by rw [yS,show Nat.min 1 (n+1 - k)=1 by simp only [Nat.min_def];split <;> omega]) (λj v hj=>by
  rw [Addr.add_lit,h2.f.1,QJ];exact hj) (by simp only [JC,yS];omega) (jA X)
 rw [e1] at hcpA;have hcpB:=λ(W:World) (h1:Box W w (A ++ (cW X ++ Z.drop 5)) 71) (h2:Box W g (A ++ (D ++ tl)) 71) (ty:TypeId) (dc sc:Nat)=>uk (w:=W) ty w.heap.size ((k+1) * 5) (n - k) dc ⟨g,k * 5,none⟩ (n - k) sc _ D _ h1 (by rw [hD,show Nat.min (n - k) (n - k)=n - k by simp]) (λj v hj=>by
  rw [Addr.add_lit,h2.f.1,<-hA,V3 (by omega),show A.length+j - A.length=j by omega,Qa (JR.1 hj).1];exact hj) (by simp only [JC,Ja,yS];omega) h1D
 rw [e2] at hcpB;obtain ⟨R1,hR1⟩:∃ R:Array Value,R=(A ++ (cW X ++ Z.drop 5)).toArray:=⟨_,rfl⟩;obtain ⟨R2,hR2⟩:∃ R:Array Value,R=(A ++ (cW X ++ (D ++ (Z.drop 5).drop D.length))).toArray:=⟨_,rfl⟩;rw [<-hR1] at hcpA;rw [<-hR2] at hcpB;have hset1:∀ W:World,Box W w (A ++ Z) 71->Box (W.setRow w.heap.size R1) w.heap.size (A ++ (cW X ++ Z.drop 5)) 71:=λW h=>by rw [hR1];exact h.setRow
 have hset2:∀ W:World,Box W w (A ++ (cW X ++ Z.drop 5)) 71->Box (W.setRow w.heap.size R2) w.heap.size (A ++ (cW X ++ (D ++ (Z.drop 5).drop D.length))) 71:=λW h=>by rw [hR2];exact h.setRow
 have hne:g≠w.heap.size:=by omega
 have hkeep:∀ (W:World) (R:Array Value),Box W g (A ++ (D ++ tl)) 71->Box (W.setRow w.heap.size R) g (A ++ (D ++ tl)) 71:=λW R h=>by
  unfold Box;rw [setRow_other _ _ _ _ hne];exact h
 have hgrow:∀ (W:World) (R:Array Value),w.grownBy W none->w.grownBy (W.setRow w.heap.size R) none:=λW R ⟨a1,a2,a3,a4,a5⟩=>
  ⟨a1,a2,a3,by simpa [World.setRow] using a4,λq hq hq2=>by rw [setRow_other _ _ _ _ (by omega)];exact a5 q hq hq2⟩
 have hgr0:w.grownBy (w.drew.alloc (.cells R0 71)) none:=⟨rfl,rfl,rfl,by simp,λq hq _=>(by first | exact heap_alloc_old w.drew _ q hq | exact heap_alloc_old w.drew _ hq)⟩;have htl:((Z.drop 5).drop D.length).length=(G - (n+1)) * 5:=by rw [Ja,Ja];omega
 have HF:=hdd (And.intro hset1 (And.intro hset2 (And.intro hkeep hgrow)));have H0:=hdd (And.intro hb0 (And.intro hbx0 (And.intro hg0 hgr0)));have HT:=hdd htl;have HGm:=hdd hGm;have hG63:G<=9223372036854775807:=by unfold maxLen at hGm;omega
 have hGi:¬ (G=k):=by omega
 have hGim:¬ (G=k+1):=by omega
 have hci:¬ (c=k):=by omega
 have hw1:IntKind.i64.wrap ((k:Int)+1)=(k:Int)+1:=by rw [IntKind.wrap_i64];omega
 have hb1:(0:Int)<=(k:Int)+1:=by omega
 have htn:((k:Int)+1).toNat=k+1:=by omega
 have hb3:(k:Int)<=(n:Int)+1:=by omega
 have hb5:k<=n:=by omega
 have hb6:(k:Int)+1<=(n:Int)+1:=by omega
 have hb7:(k:Int)<=(n:Int):=by omega
 have hz1:¬ ((k:Int)=(n:Int)):=by omega
 have hz2:(c:Int) < (n:Int)+1:=by omega
 have mixed:prog.follows .mixedOrders=true:=by kernel_rfl
 clear hR0 hR1 hR2 hG hZ hset1 hset2 hkeep hgrow hgr0 hb0 hbx0 hg0 htl hGm hg hbx e1 e2 hA hD h1D hZl hold hi0 hz0 hzs hzb i0
 go_enter func111,ntmps111
 go_wp2_with (first
  | (at_builtin;refine Lib.wpList_append_run _ rfl _ _ _ _ rfl _ _ rfl rfl _ _ (hrz _) ?_)
  | (refine wpList_copy_runI _ rfl _ _ 41 41 rfl _ _ rfl rfl (hcpA _ H0.o.1 H0.o.2.1 _ _) ?_))
 go_region_law_o (refine step_copy_runI rfl _ _ 41 41 rfl (.slice (some ⟨w.heap.size,(k+1) * 5,none⟩) (n - k) (G - (k+1))) (.slice (some ⟨g,k * 5,none⟩) (n - k) (c - k)) (by simp [Act.eval,Act.put]) (by simp [Act.eval,Act.put]) (hcpB _ (HF.o.1 _ H0.o.1).drew (HF.o.2.2.1 _ _ H0.o.2.2.1).drew 3 (G - (k+1)) (c - k)) ?_)
 go_wp2
 go_ret
 exact ⟨G,_,rfl,HF.o.2.2.2 _ _ (grownBy_drew (HF.o.2.2.2 _ _ H0.o.2.2.2)),hGn,HGm.o,HT.o,HF.o.2.1 _ (HF.o.1 _ H0.o.1)⟩
end
section
open Go.Lib
def Fresh (v v':Value) (n:Nat):Prop:=∀ g,v'.ownBlock=some g->v.ownBlock=some g\/n<=g
theorem jr {w:World} {ops:Array Oper} {rest:List Oper} {o:Oper} {a:Act} {Q:Exit->Act->World->Prop} (hgd:o.guard=none) (s x:Operand) (ho:o.op=.call { callee:=.builtin .append,args:=#[s,x],argTypes:=#[41,41] }) (B:Nat) (v:Value) (L:List Wl) (hs:a.eval s=v) (hown:WRow w B v L) (bx:Nat) (X:Wl) (hx:a.eval x=.slice (some ⟨bx,0,none⟩) 1 1) (hbx:Box w bx (cW X) 71) (hn:L.length<=1000000) (hbase:B<=w.heap.size) (h:∀ w' v',WRow w' B v' (L ++ [X])->w.grownBy w' v.ownBlock->Fresh v v' w.heap.size->wpList prog ops Q rest (a.put o.dst v') w'):wpList prog ops Q (o :: rest) a w:=by
 obtain ⟨i0,hi,hz0,hz1,hz2⟩:=info_parts xT;refine wpList_append_lies w hgd s x 41 ho B 71 i0 _ 5 40 underlying41 hi hz0 hz1 hz2 rfl (by decide) v L.length _ hs hown ⟨bx,0,none⟩ 1 1 (cW X) hx rfl ?_ (jA X) (by decide) ?_ ?_ hbase _ rfl ?_
 ·intro j u hj;have:=hbx.f.1 j;rw [hj] at this;rw [Addr.add_lit,QJ];exact this
 ·unfold maxLen;omega
 ·omega
 ·intro g cap w' hown' hg hf _;refine h w' _ ?_ hg (λg' e=>?_)
  ·unfold WRow;rw [JC,QB,Je]
   simpa using hown'
  ·simp only [Value.ownBlock,Qi] at e;subst e;rcases hf with hf | hf
   ·exact .inl hf
   ·exact .inr (by omega)
theorem ins_end0 (B bx:Nat) (X:Wl) (w:World) (hB:B<=w.heap.size) (hbx:Box w bx (cW X) 71):Calls prog 111 #[.slice none 0 0,(),.slice (some ⟨bx,0,none⟩) 1 1] w λe w'=>∃ v',e=.returned v'/\WRow w' B v' [X]/\w.grownBy w' none/\Fresh (.slice none 0 0) v' w.heap.size:=by
 have hown:=WRow.nil0 w B
 go_enter func111,ntmps111
 go_wp2_with (at_builtin;refine jr rfl _ _ rfl B _ [] rfl hown bx X rfl hbx (Jl _) hB ?_;intro w4 v4 hown4 hg4 hf4)
 go_ret
 exact ⟨_,rfl,hown4,hg4,hf4⟩
theorem ins_end (B g n c bx:Nat) (L:List Wl) (X:Wl) (w:World) (hn:L.length=n) (hL:n<=1000000) (hc:n<=c) (hown:WRow w B (.slice (some ⟨g,0,none⟩) n c) L) (hB:B<=w.heap.size) (hbx:Box w bx (cW X) 71):Calls prog 111 #[.slice (some ⟨g,0,none⟩) n c,n,.slice (some ⟨bx,0,none⟩) 1 1] w λe w'=>∃ v',e=.returned v'/\WRow w' B v' (L ++ [X])/\w.grownBy w' (some g)/\Fresh (.slice (some ⟨g,0,none⟩) n c) v' w.heap.size:=by
 have hL2:L.length<=1000000:=by omega
 have hcap:c<=9223372036854775807:=by
  rcases hown.box with ⟨h,_⟩ | ⟨_,_,_,h,_,_,_,h2,_⟩
  ·cases h
  ·simp only [Value.slice.injEq] at h;unfold maxLen at h2;omega
 by_cases hcn:c=n
 ·subst hcn
  go_enter func111,ntmps111
  go_wp2_with (at_builtin;refine jr rfl _ _ rfl B _ L rfl hown bx X rfl hbx hL2 hB ?_;intro w4 v4 hown4 hg4 hf4)
  go_ret
  exact ⟨_,rfl,hown4,hg4,hf4⟩
 ·go_enter func111,ntmps111
  go_wp2_with (at_builtin;refine jr rfl _ _ rfl B _ L rfl hown bx X rfl hbx hL2 hB ?_;intro w4 v4 hown4 hg4 hf4)
  go_ret
  exact ⟨_,rfl,hown4,hg4,hf4⟩
theorem insW_any (B:Nat) (v:Value) (k bx:Nat) (L:List Wl) (X:Wl) (w:World) (hk:k<=L.length) (hL:L.length<=1000000) (hown:WRow w B v L) (hB:B<=w.heap.size) (hbx:Box w bx (cW X) 71) (hne:v.ownBlock≠some bx):Calls prog 111 #[v,k,.slice (some ⟨bx,0,none⟩) 1 1] w λe w'=>∃ v',e=.returned v'/\WRow w' B v' (L.take k ++ X :: L.drop k)/\w.grownBy w' v.ownBlock/\Fresh v v' w.heap.size:=by
 have hlen:k<=L.length->(L.take k ++ X :: L.drop k).length=L.length+1:=λh=>by simp only [JC,JW,Jc,Ja];omega
 rcases hown.box with ⟨rfl,rfl⟩ | ⟨g,cap,tl,rfl,hBg,hg,h1,h2,h3⟩
 ·obtain rfl:k=0:=by simpa using hk
  exact ins_end0 B bx X w hB hbx
 ·rcases Nat.eq_or_lt_of_le hk with rfl | hk2
  ·rw [List.take_length,List.drop_length];exact ins_end B g L.length cap bx L X w rfl hL h1 hown hB hbx
  ·rcases Qb cap (L.length+1) with hc | hc
   ·refine (ins_grow g L.length cap k bx L X tl w rfl hk2 hc h1 hL hg hbx).mono ?_;rintro e w' ⟨G,tl',rfl,hgr,hG1,hG2,hG3,hb⟩;refine ⟨_,rfl,?_,⟨hgr.1,hgr.2,hgr.3,hgr.4,λq hq _=>hgr.5 q hq (by simp)⟩,λq e=>.inr (by simp only [Value.ownBlock,Qi] at e;omega)⟩;have:=WRow.of_box hB hb (by rw [hlen hk];exact hG1) hG2 (by rw [hlen hk];exact hG3)
    rwa [hlen hk] at this
   ·refine (ins_room g L.length cap k bx L X tl w rfl hk2 hc h2 h3 hg hbx (λe=>hne (by rw [e];rfl))).mono ?_;rintro e w' ⟨rfl,hgr,hb⟩;refine ⟨_,rfl,?_,hgr,λq e=>.inl e⟩;have:=WRow.of_box hBg hb (by rw [hlen hk];exact hc) h2 (by rw [hlen hk,Ja,h3];omega)
    rwa [hlen hk] at this
end
section
open Go.Lib
theorem step_append_run {P:Program} {ops:Array Oper} {o:Oper} {a:Act} {w:World} {K:Act->World->Prop} {Q:Exit->Act->World->Prop} {E:Prop} (hg:o.guard=none) (d x:Operand) (dT sT:TypeId) (hop:o.op=Op.call { callee:=Callee.builtin Builtin.append,args:=#[d,x],argTypes:=#[dT,sT] }) (v u:Value) (hd:a.eval d=v) (hx:a.eval x=u) {v':Value} {w':World} (hr:(Builtin.append_ #[dT,sT] o.type #[v,u]).run P w=.ok v' w') (hK:K (a.put o.dst v') w'):if Region.wanted o (yielded ops a.tmps)=true then Oper.wp P o a w K Q else E:=by
 have hw:Region.wanted o (yielded ops a.tmps)=true:=by simp [Region.wanted,hg]
 rw [JH hw];unfold Oper.wp;simp [execOp,hop,resolve,invoke,builtin,hd,hx,hr,Result.andThen];exact hK
def z5:List Value:=[(),(),(),(),()]
def zN:Nat->List Value
 | 0=>[]
 | n+1=>z5 ++ zN n
theorem tx:∀ n,(zN n).length=n * 5
 | 0=>rfl
 | n+1=>by rw [zN,JC,tx n];simp [z5];omega
theorem Kn:∀ n i,i < n * 5->(zN n)[i]? = some (.int .i64 0)
 | 0,i,h=>by omega
 | n+1,i,h=>by
  rw [zN];by_cases hi:i < 5
  ·rw [Qa (by simpa [z5] using hi)];have:i=0\/i=1\/i=2\/i=3\/i=4:=by omega
   rcases this with rfl | rfl | rfl | rfl | rfl <;> rfl
  ·rw [V3 (by simp [z5];omega)];exact Kn n _ (by simp [z5];omega)
theorem zeros_wl (n:Nat):(Builtin.zeroCells #[(),(),(),(),()] n).toList=zN n:=by
 apply VI;intro i;by_cases h:i < n * 5
 ·rw [Kn n i h,Array.getElem?_toList];have:i % 5=0\/i % 5=1\/i % 5=2\/i % 5=3\/i % 5=4:=by omega
  simp only [Builtin.zeroCells];rcases this with e | e | e | e | e <;> simp [h,e]
 ·rw [Qo (by rw [Vf,size_zeroCells];simp;omega),Qo (by rw [tx];omega)]
theorem YN {w:World} (ty:TypeId) (g o n c:Nat) (C:List Value) (hn:0 < n) (hg:Box w g C 71) (hfit:o+n * 5<=C.length):(Builtin.clear_ #[41] ty #[.slice (some ⟨g,o,none⟩) n c]).run prog w=.ok (.tuple #[]) (w.setRow g (C.take o ++ zN n ++ C.drop (o+n * 5)).toArray):=by
 have hst:=run_storeCells_at prog g o 71 (zN n) 0 C.toArray w hg (by rw [tx];simpa using hfit) (by
  intro v hv;obtain ⟨i,hi,rfl⟩:=QD.1 hv;have:=Kn n i (by rwa [tx] at hi);rw [JG hi] at this;simp at this;rw [this];rfl)
 simp only [Nat.add_zero,tx] at hst;obtain ⟨m,rfl⟩:∃ m,n=m+1:=⟨n - 1,by omega⟩;have hz:=zeros_wl (m+1);simp [Builtin.clear_,run_underlying underlying41,Value.cells,hz,hst]
theorem room_run {w:World} (ty:TypeId) (g n c:Nat) (a:Addr) (m cs:Nat) (C news:List Value) (hg:Box w g C 71) (hl:news.length=m * 5) (hnews:∀ j u,news[j]? = some u->w.cell? (a.add j)=some u) (h1:∀ u∈news,u.oneCell'=true) (hroom:n+m<=c) (hfit:n * 5+news.length<=C.length):(Builtin.append_ #[41,41] ty #[.slice (some ⟨g,0,none⟩) n c,.slice (some a) m cs]).run prog w=.ok (.slice (some ⟨g,0,none⟩) (n+m) c) (w.setRow g (C.take (n * 5) ++ news ++ C.drop (n * 5+news.length)).toArray):=by
 obtain ⟨i0,hi0,hz0,hzs,hzb⟩:=info_parts xT;have:=run_append_room (P:=prog) w 41 ty 71 i0 underlying41 hi0 g n c C.toArray hg a m cs news (by rw [hzs];exact hl) hnews h1 hroom (by rw [hzs];simpa using hfit);rw [hzs] at this
 simpa using this
theorem del_some (g n c k:Nat) (L:List Wl) (tl:List Value) (w:World) (hn:L.length=n) (hk:k < n) (hc:n<=c) (hc2:c<=maxLen) (htl:tl.length=(c - n) * 5) (hg:Box w g (L.flatMap cW ++ tl) 71):Calls prog 109 #[.slice (some ⟨g,0,none⟩) n c,.int .i64 k,.int .i64 ((k:Int)+1)] w λe w'=>∃ tl',e=.returned (.slice (some ⟨g,0,none⟩) (n - 1) c)/\w.grownBy w' (some g)/\tl'.length=(c - (n - 1)) * 5/\Box w' g ((L.take k ++ L.drop (k+1)).flatMap cW ++ tl') 71:=by
 have hmx:c<=9223372036854775807:=by unfold maxLen at hc2;omega
 have hkL:k < L.length:=by omega
 have hA:((L.take k).flatMap cW).length=k * 5:=by rw [zS yS,Jc];omega
 have hD:((L.drop (k+1)).flatMap cW).length=(n - (k+1)) * 5:=by rw [zS yS,Ja,hn]
 have hC:L.flatMap cW=(L.take k).flatMap cW ++ (cW L[k] ++ (L.drop (k+1)).flatMap cW):=by
  rw [<-JE,<-Je,VN hkL,Jj]
 have h1D:∀ v∈(L.drop (k+1)).flatMap cW,v.oneCell'=true:=λu hu=>by
  obtain ⟨x,_,hx⟩:=JO.1 hu;exact jA x u hx
 simp only [Je,JL];rw [hC] at hg;simp only [JL] at hg;clear hC;generalize (L.take k).flatMap cW=A at *
 generalize (L.drop (k+1)).flatMap cW=D at *
 have hX:(cW L[k]).length=5:=rfl;generalize cW L[k]=X at *
 obtain ⟨Y,hY⟩:∃ Y,Y=(X ++ D).drop D.length:=⟨_,rfl⟩;have hYl:Y.length=5:=by rw [hY,Ja,JC];omega
 have e1:(A ++ (X ++ (D ++ tl))).take (k * 5) ++ D ++ (A ++ (X ++ (D ++ tl))).drop (k * 5+D.length)=A ++ (D ++ (Y ++ tl)):=by
  rw [<-hA,Vh,QR,<-JL X D tl,List.drop_append_of_le_length (by rw [JC];omega),<-hY];simp only [JL]
 have e2:(A ++ (D ++ (Y ++ tl))).take ((n - 1) * 5) ++ zN 1 ++ (A ++ (D ++ (Y ++ tl))).drop ((n - 1) * 5+1 * 5)=A ++ (D ++ (zN 1 ++ tl)):=by
  rw [<-JL A D,show (n - 1) * 5=(A ++ D).length by rw [JC];omega,Vh,QR,show 1 * 5=Y.length by omega,List.drop_left];simp only [JL]
 obtain ⟨ad,had,hsrc⟩:∃ ad:Addr,(if c=k+1 then some (⟨g,0,none⟩:Addr) else some ⟨g,(k+1) * 5,none⟩)=some ad/\∀ W,Box W g (A ++ (X ++ (D ++ tl))) 71->∀ j u,D[j]? = some u->W.cell? (ad.add j)=some u:=by
  by_cases h:c=k+1
  ·refine ⟨⟨g,0,none⟩,by simp [h],λW _ j u hu=>?_⟩;have h0:D=[]:=QW (by rw [hD];omega);rw [h0] at hu;simp at hu
  ·refine ⟨⟨g,(k+1) * 5,none⟩,by simp [h],λW hW j u hu=>?_⟩;rw [Addr.add_lit,hW.f.1,<-JL,show (k+1) * 5=(A ++ X).length by rw [JC];omega,V3 (by omega),Nat.add_sub_cancel_left,Qa (JR.1 hu).1];exact hu
 have hap:=λ(W:World) (h:Box W g (A ++ (X ++ (D ++ tl))) 71) (ty:TypeId) (cs:Nat)=>room_run ty g k c ad (n - (k+1)) cs _ D h hD (hsrc W h) h1D (by omega) (by simp only [JC];omega);rw [e1,show k+(n - (k+1))=n - 1 by omega] at hap;have hcl:=λ(W:World) (h:Box W g (A ++ (D ++ (Y ++ tl))) 71) (ty:TypeId) (cs:Nat)=>YN ty g ((n - 1) * 5) 1 cs _ (by omega) h (by simp only [JC];omega);rw [e2] at hcl;obtain ⟨R1,hR1⟩:∃ R:Array Value,R=(A ++ (D ++ (Y ++ tl))).toArray:=⟨_,rfl⟩;obtain ⟨R2,hR2⟩:∃ R:Array Value,R=(A ++ (D ++ (zN 1 ++ tl))).toArray:=⟨_,rfl⟩;rw [<-hR1] at hap;rw [<-hR2] at hcl;have hset1:∀ W:World,Box W g (A ++ (X ++ (D ++ tl))) 71->Box (W.setRow g R1) g (A ++ (D ++ (Y ++ tl))) 71:=λW h=>by rw [hR1];exact h.setRow
 have hset2:∀ W:World,Box W g (A ++ (D ++ (Y ++ tl))) 71->Box (W.setRow g R2) g (A ++ (D ++ (zN 1 ++ tl))) 71:=λW h=>by rw [hR2];exact h.setRow
 have hgrow:∀ (W:World) (R:Array Value),w.grownBy W (some g)->w.grownBy (W.setRow g R) (some g):=λW R ⟨a1,a2,a3,a4,a5⟩=>
  ⟨a1,a2,a3,by simpa [World.setRow] using a4,λq hq hq2=>by rw [setRow_other _ _ _ _ (λe=>hq2 (by rw [e]))];exact a5 q hq hq2⟩
 have hgr0:w.grownBy w.drew (some g):=⟨rfl,rfl,rfl,JJ _,λ_ _ _=>rfl⟩;have HF:=hdd (And.intro hset1 (And.intro hset2 hgrow));have H0:=hdd (And.intro hg hgr0);obtain ⟨q,hq⟩:∃ q,n - 1=q:=⟨_,rfl⟩;rw [hq] at hcl hap ⊢;have hq1:(q:Int)<=(n:Int):=by omega
 have hq2:n - q=1:=by omega
 have hq3:¬ (c=q):=by omega
 have hq4:q<=n:=by omega
 have hq5:q<=c:=by omega
 have hq6:(n:Int)<=(c:Int):=by omega
 have hcl2:=hcl _ (hset1 _ hg.drew);have hcl3:=hcl _ (hset1 _ hg.drew).drew;have hap2:=hap _ hg.drew;have HT:=hdd (show (zN 1 ++ tl).length=(c - q) * 5 by rw [JC,tx,htl];omega);have hw1:IntKind.i64.wrap ((k:Int)+1)=(k:Int)+1:=by rw [IntKind.wrap_i64];omega
 have hb1:(0:Int)<=(k:Int)+1:=by omega
 have htn:((k:Int)+1).toNat=k+1:=by omega
 have hb3:(k:Int)+1<=(n:Int):=by omega
 have hb4:(k:Int)<=(k:Int)+1:=by omega
 have hb5:k<=n:=by omega
 have hb6:(k:Int)<=(n:Int):=by omega
 have hb7:¬ ((k:Int)=(k:Int)+1):=by omega
 have hb8:(k:Int)<=(c:Int):=by omega
 have hb9:¬ (n=k):=by omega
 have mixed:prog.follows .mixedOrders=true:=by kernel_rfl
 clear hR1 hR2 hset1 hset2 hgrow hgr0 hg e1 e2 hA hD h1D hap hcl hsrc htl hX hYl hY hc2 hkL hn hq
 go_enter func109,ntmps109
 go_wp2
 go_region_law_o (refine step_append_run rfl _ _ 41 41 rfl (.slice (some ⟨g,0,none⟩) k c) (.slice (some ad) (n - (k+1)) (c - (k+1))) (by simp [Act.eval,Act.put]) (by simp [Act.eval,Act.put]) (hap2 _ _) ?_)
 go_wp2
 go_ret
 exact ⟨_,rfl,HF.o.2.2 _ _ (HF.o.2.2 _ _ H0.o.2),HT.o,HF.o.2.1 _ (HF.o.1 _ H0.o.1.drew)⟩
theorem del_any (B:Nat) (v:Value) (k:Nat) (L:List Wl) (w:World) (hk:k < L.length) (hown:WRow w B v L):Calls prog 109 #[v,.int .i64 k,.int .i64 ((k:Int)+1)] w λe w'=>∃ v',e=.returned v'/\WRow w' B v' (L.take k ++ L.drop (k+1))/\w.grownBy w' v.ownBlock/\Fresh v v' w.heap.size:=by
 have hlen:(L.take k ++ L.drop (k+1)).length=L.length - 1:=by simp only [JC,Jc,Ja];omega
 rcases hown.box with ⟨rfl,rfl⟩ | ⟨g,cap,tl,rfl,hBg,hg,h1,h2,h3⟩
 ·simp at hk
 ·refine (del_some g L.length cap k L tl w rfl hk h1 h2 h3 hg).mono ?_;rintro e w' ⟨tl',rfl,hgr,ht,hb⟩;refine ⟨_,rfl,?_,hgr,λq e=>.inl e⟩;have:=WRow.of_box hBg hb (by rw [hlen];omega) h2 (by rw [hlen];exact ht)
  rwa [hlen] at this
end
structure Frm (w w':World) (p:Nat->Prop):Prop where
 os:w'.os=w.os
 tape:w'.tape=w.tape
 output:w'.output=w.output
 size:w.heap.size<=w'.heap.size
 block:∀ k,k < w.heap.size->¬ p k->w'.heap[k]? = w.heap[k]?
theorem Frm.of_below {w w':World} {p:Nat->Prop} (h:Below w w w'):Frm w w' p:=⟨h.1,h.2,h.3,h.4,λk hk _=>h.block k hk⟩
theorem Frm.of_grown {w w':World} {p:Nat->Prop} {r:Option Nat} (h:w.grownBy w' r) (hr:∀ g,r=some g->p g):Frm w w' p:=⟨h.1,h.2,h.3,h.4,λk hk hn=>h.block k hk (λe=>hn (hr k e.symm))⟩
theorem Frm.trans {w w' w2:World} {p:Nat->Prop} (h:Frm w w' p) (h2:Frm w' w2 p):Frm w w2 p:=⟨h2.os.trans h.os,h2.tape.trans h.tape,h2.output.trans h.output,JY h.size h2.size,λk hk hn=>(h2.block k (QN hk h.size) hn).trans (h.block k hk hn)⟩
theorem Frm.trans2 {w w' w2:World} {p q:Nat->Prop} (h:Frm w w' p) (h2:Frm w' w2 q) (hq:∀ k,q k->k < w.heap.size->p k):Frm w w2 p:=⟨h2.os.trans h.os,h2.tape.trans h.tape,h2.output.trans h.output,JY h.size h2.size,λk hk hn=>(h2.block k (QN hk h.size) (λhh=>hn (hq k hh hk))).trans (h.block k hk hn)⟩
theorem Frm.setCell {w w':World} {p:Nat->Prop} (h:Frm w w' p) (q:Addr) (hq:p q.block) (v:Value):Frm w (w'.setCell q v) p:=
 ⟨h.os,h.tape,h.output,by simpa using h.size,λk hk hn=>by
  have hne:¬ q.block=k:=λe=>hn (e▸hq);simp only [World.setCell,V8,J0 hne];exact h.block k hk hn⟩
theorem Frm.below {w w':World} {p:Nat->Prop} {n:Nat} (h:Frm w w' p) (hp:∀ k,p k->n<=k) (hn:n<=w.heap.size):Below n w w':=⟨h.os,h.tape,h.output,h.size,λk hk=>h.block k (by omega) (λe=>by have:=hp k e;omega)⟩
theorem Frm.box {w w':World} {p:Nat->Prop} {b:Nat} {cs:List Value} {T:TypeId} (h:Frm w w' p) (hb:Box w b cs T) (hn:¬ p b):Box w' b cs T:=by
 have hl:=hb.lt;unfold Box at *;rw [h.block b hl hn];exact hb
theorem Frm.row {w w':World} {p:Nat->Prop} {B:Nat} {v:Value} {L:List Wl} (h:Frm w w' p) (hr:WRow w B v L) (hn:∀ g,v.ownBlock=some g->¬ p g):WRow w' B v L:=by
 refine ⟨hr.1,?_⟩;rcases hr.2 with h' | ⟨g,cap,cur,h0,h1,h2,h3⟩
 ·exact .inl h'
 ·refine .inr ⟨g,cap,cur,h0,h1,?_,h3⟩;have hl:g < w.heap.size:=(Q8.1 h2).1;rw [h.block g hl (hn g (by rw [h0];rfl))];exact h2
structure SetAt (w:World) (sb:Nat) (v:Value) (L:List Wl):Prop where
 box:Box w sb [v] 74
 row:WRow w 0 v L
 ne:v.ownBlock≠some sb
 le:L.length<=1000000
 ris:Ris L
 good:∀ x∈L,GoodW x
theorem SetAt.rd {w:World} {sb:Nat} {v:Value} {L:List Wl} (S:SetAt w sb v L):∃ a c,v=.slice a L.length c/\SetRd w sb a c L.length L:=by
 obtain ⟨a,c,h1,h2,h3⟩:=S.row.row;refine ⟨a,c,h1,h1▸S.box,h2,rfl,S.le,?_,h3,λe=>?_,S.ris,S.good⟩
 ·rcases S.row.box with ⟨e,e2⟩ | ⟨_,_,_,e,_,_,h,_⟩
  ·rw [e2];exact Jl _
  ·rw [h1] at e;simp only [Value.slice.injEq] at e;omega
 ·rcases S.row.box with ⟨_,e2⟩ | ⟨_,_,_,e2,_⟩
  ·exact e2
  ·rw [h1,e] at e2;simp at e2
theorem WRow.drew {w:World} {B:Nat} {v:Value} {L:List Wl} (h:WRow w B v L):WRow w.drew B v L:=h
theorem WRow.form {w:World} {B:Nat} {v:Value} {L:List Wl} (h:WRow w B v L):∃ a n c,v=.slice a n c:=by
 obtain ⟨a,c,h1,_⟩:=h.row;exact ⟨a,_,c,h1⟩
theorem SetAt.rdx {w:World} {sb:Nat} {L:List Wl} (v:Value) (c:Nat) (a0:Option Addr) (hv:v=.slice a0 L.length c) (S:SetAt w sb v L):SetRd w sb a0 c L.length L:=by
 obtain ⟨a,c',h1,h2⟩:=S.rd;rw [hv] at h1;simp only [Value.slice.injEq,true_and] at h1;obtain ⟨rfl,rfl⟩:=h1;exact h2
theorem SetAt.keep {w w':World} {sb:Nat} {v:Value} {L:List Wl} {p:Nat->Prop} (S:SetAt w sb v L) (h:Frm w w' p) (h1:¬ p sb) (h2:∀ g,v.ownBlock=some g->¬ p g):SetAt w' sb v L:=
 ⟨h.box S.box h1,h.row S.row h2,S.ne,S.le,S.ris,S.good⟩
theorem SetAt.ext {w w':World} {sb:Nat} {v:Value} {L:List Wl} {n:Nat} (S:SetAt w sb v L) (hb:Below n w w') (hn:n=w.heap.size):SetAt w' sb v L:=
 ⟨S.box.ext hb hn,S.row.ext hb hn,S.ne,S.le,S.ris,S.good⟩
theorem SetAt.ee {w w':World} {sb:Nat} {v:Value} {L:List Wl} (S:SetAt w sb v L) (hb:Below w w w'):SetAt w' sb v L:=S.ext hb rfl
def Foot (sb:Nat) (v:Value) (k:Nat):Prop:=k=sb\/v.ownBlock=some k
theorem mkOk_good {X:Wl} (h:unm X=false):GoodW X:=by
 unfold unm at h;simp only [Bool.or_eq_false_iff,Bool.not_eq_false',JA] at h;obtain ⟨h1,h2⟩:=h;have h3:=h1;unfold mkOk mkK at h3;simp only [JB,V0,JA,V4,QF] at h3;obtain ⟨hk,hab,ha,hb⟩:=h3;unfold mkW at h2;rw [JH h1] at h2;have hA:lo2 X.A X.B=X.A:=congrArg Wl.A h2;refine ⟨ha,hb,?_,hk⟩;have hn:¬ cmpP X.B X.A < 0:=λe=>by unfold lo2 at hA;rw [JH e] at hA;exact hab hA.symm
 have h0:cmpP X.A X.B≠0:=λe=>hab (zP.1 e);rw [zl] at hn;omega
theorem XL {X:Wl} (h:GoodW X):unm X=false:=by
 have hab:X.A≠X.B:=λe=>by have:=h.ab;rw [e,zP.2 rfl] at this;omega
 have hk:mkOk X.A X.B X.K=true:=by unfold mkOk mkK;simp [h.va,h.vb,hab];exact h.k
 have hn:¬ cmpP X.B X.A < 0:=by have:=h.ab;rw [zl];omega
 unfold unm mkW;rw [hk];simp [lo2,hi2,hn]
theorem vS {X:Wl} (h:GoodW X):lo2 X.A X.B=X.A/\hi2 X.A X.B=X.B:=by
 have hn:¬ cmpP X.B X.A < 0:=by have:=h.ab;rw [zl];omega
 exact ⟨by unfold lo2;rw [J0 hn],by unfold hi2;rw [J0 hn]⟩
def addE (L:List Wl) (X:Wl):Int:=if unm X=true then 2 else clashW L X.A X.B
def addL (L:List Wl) (X:Wl):List Wl:=if unm X=false/\clashW L X.A X.B=0 then L.take (posW L X.A X.B) ++ X :: L.drop (posW L X.A X.B) else L
theorem Frm.refl (w:World) (p:Nat->Prop):Frm w w p:=⟨rfl,rfl,rfl,JJ _,λ_ _ _=>rfl⟩
theorem add_end {w w4 wq:World} {sb:Nat} {v v':Value} {L L':List Wl} {o:Obj} (S:SetAt w sb v L) (hw:Below w w w4) (hgr:(w4.alloc o).drew.grownBy wq v.ownBlock) (hf:Fresh v v' (w4.alloc o).drew.heap.size) (hown:WRow wq 0 v' L'):Box (wq.setCell ⟨sb,0,none⟩ v') sb [v'] 74/\WRow (wq.setCell ⟨sb,0,none⟩ v') 0 v' L'/\Frm w (wq.setCell ⟨sb,0,none⟩ v') (Foot sb v)/\Fresh v v' (w.heap.size+1)/\v'.ownBlock≠some sb:=by
 have hs:=hw.size;have hsb:=S.box.lt;have hsz:(w4.alloc o).drew.heap.size=w4.heap.size+1:=by show (w4.alloc o).heap.size=_;simp
 have hne:v'.ownBlock≠some sb:=λe=>by
  rcases hf _ e with h | h
  ·exact S.ne h
  ·rw [hsz] at h;omega
 have BQ:Box wq sb [v] 74:=Box.grownBy ((S.box.ee hw).old o).drew hgr (λe=>S.ne e.symm);have f1:Frm w wq (Foot sb v):=(Frm.of_below ((hw.alloc hs o).drew)).trans (Frm.of_grown hgr λg e=>.inr e);refine ⟨BQ.set 0 v',((Frm.refl wq (· = sb)).setCell ⟨sb,0,none⟩ rfl v').row hown (λg e=>λh=>hne (by rw [e,h])),f1.setCell ⟨sb,0,none⟩ (.inl rfl) v',λg e=>?_,hne⟩;rcases hf g e with h | h
 ·exact .inl h
 ·rw [hsz] at h;exact .inr (by omega)
theorem add_u (s:Value) (X:Wl) (hu:unm X) (w:World):Calls prog 58 #[s,.agg #[X.A.x,X.A.y,X.B.x,X.B.y,X.K]] w (Rt w (.int .i64 2)):=by
 go_enter func58,ntmps58
 have c1:=ZU X;rw [hu] at c1;go_wp2_with fail;refine qE1 λW1 Bx hw=>?_;refine qC1 (c1 _) Bx hw λw2 Bx hw Fx=>?_;go_wp2
 go_ret
 exact ⟨rfl,by have hl:=hw.size;go_grown⟩
theorem add_c (sb:Nat) (a0:Option Addr) (c n:Nat) (L:List Wl) (X:Wl) (z:Int) (hu:unm X=false) (hc:clashW L X.A X.B=z) (hz:z≠0) (w:World) (S:SetRd w sb a0 c n L):Calls prog 58 #[pt0 sb,.agg #[X.A.x,X.A.y,X.B.x,X.B.y,X.K]] w (Rt w (.int .i64 z)):=by
 go_enter func58,ntmps58
 have hsb:=S.box.lt;have c1:=ZU X;rw [hu] at c1;have hd:(z != 0)=true:=by simpa using hz
 go_wp2_with fail;refine qE1 λW1 Bx hw=>?_;refine qC1 (c1 _) Bx hw λw2 Bx hw Fx=>?_;go_wp2_with fail;have c2:=YO sb a0 c n L X.A X.B w2 (S.ee hw);rw [hc] at c2;clear Fx;refine qC1 (c2) Bx hw λw3 Bx hw Fx=>?_;go_wp2
 go_ret
 exact ⟨rfl,by have hl:=hw.size;go_grown⟩
theorem add_ok (sb:Nat) (a0:Option Addr) (c:Nat) (v:Value) (L:List Wl) (hv:v=.slice a0 L.length c) (X:Wl) (hu:unm X=false) (hc:clashW L X.A X.B=0) (hA:lo2 X.A X.B=X.A) (hB:hi2 X.A X.B=X.B) (m:Nat) (hm0:posW L X.A X.B=m) (w:World) (S:SetAt w sb v L):Calls prog 58 #[pt0 sb,.agg #[X.A.x,X.A.y,X.B.x,X.B.y,X.K]] w λe w'=>∃ v',e=.returned (.int .i64 0)/\Box w' sb [v'] 74/\WRow w' 0 v' (L.take m ++ X :: L.drop m)/\Frm w w' (Foot sb v)/\Fresh v v' (w.heap.size+1)/\v'.ownBlock≠some sb:=by
 go_enter func58,ntmps58
 have hsb:=S.box.lt;have c1:=ZU X;rw [hu] at c1;go_wp2_with fail;refine qE1 λW1 Bx hw=>?_;refine qC1 (c1 _) Bx hw λw2 Bx hw Fx=>?_;go_wp2_with fail;have SS:=S.rdx v c a0 hv;have c2:=YO sb a0 c L.length L X.A X.B w2 (SS.ee hw);rw [hc] at c2;clear Fx;refine qC1 (c2) Bx hw λw3 Bx hw Fx=>?_;go_wp2_with fail;have c3:=jh sb a0 c L.length L X.A X.B w3 (SS.ee hw);rw [hA,hB,hm0] at c3;generalize fnd L m X.A X.B=bb at *
 clear Fx;refine qK1 (c3) Bx hw λw4 Bx hw=>?_;have hown:=S.row.ee hw;have BS:=S.box.ee hw;have hne:=S.ne;have hle:=S.le;have hm:=(jV S.ris X.A X.B).2;rw [hm0] at hm;have Fx:=Bx.f;have FS:=BS.f;go_wp2_with fail;have nxb:v.ownBlock≠some w.heap.size:=λe=>by have:=(S.row.lt _ e).2;omega
 have nnb:v.ownBlock≠some w4.heap.size:=λe=>by have:=(S.row.lt _ e).2;have:=hw.size;omega
 have hz:=hw.size;clear c1 c2 c3 SS hv
 go_region_with (go_at_call 111;refine (insW_any 0 v m w4.heap.size L X _ hm hle (by first | exact (hown.alloc _).drew | exact hown.alloc _) (Jl _) (by first | exact Box.drew (Box.new rfl) | exact Box.new rfl) nnb).mono ?_;rintro e wq ⟨v',rfl,hown',hgr,hfr⟩;have BQ:=Box.grownBy (BS.old _).drew hgr (λe=>hne e.symm);obtain ⟨q0,q1,q2,q3⟩:=BQ.f;obtain ⟨aq,nq,cq,rfl⟩:=hown'.form)
 all_goals
  go_wp2
  go_ret
  obtain ⟨r1,r2,r3,r4,r5⟩:=add_end S hw hgr hfr hown';exact ⟨_,rfl,r1,r2,r3,r4,r5⟩
theorem ins_mem {L:List Wl} {X x:Wl} {m:Nat}:x∈L.take m ++ X :: L.drop m↔x=X\/x∈L:=by
 rw [JM,J1,or_left_comm,<-JM,Jj]
theorem Xw (sb:Nat) (v:Value) (L:List Wl) (X:Wl) (hL:L.length < 1000000) (w:World) (S:SetAt w sb v L):Calls prog 58 #[pt0 sb,.agg #[X.A.x,X.A.y,X.B.x,X.B.y,X.K]] w λe w'=>∃ v',e=.returned (.int .i64 (addE L X))/\SetAt w' sb v' (addL L X)/\Frm w w' (Foot sb v)/\Fresh v v' (w.heap.size+1):=by
 unfold addE addL;cases hu:unm X with
 | true=>
  rw [JH rfl,J0 (by simp)];refine (add_u _ X hu w).mono ?_;rintro e w' ⟨rfl,hb⟩;exact ⟨v,rfl,S.ee hb,Frm.of_below hb,λg e=>.inl e⟩
 | false=>
  rw [J0 (by simp)];have hg:=mkOk_good hu;obtain ⟨hA,hB⟩:=vS hg;by_cases hz:clashW L X.A X.B=0
  ·rw [JH ⟨rfl,hz⟩,hz];obtain ⟨a0,c,hv,_⟩:=S.rd;refine (add_ok sb a0 c v L hv X hu hz hA hB _ rfl w S).mono ?_;rintro e w' ⟨v',rfl,h1,h2,h3,h4,h5⟩;obtain ⟨p1,p2⟩:=jV S.ris X.A X.B;refine ⟨v',rfl,⟨h1,h2,h5,?_,?_,?_⟩,h3,h4⟩
   ·simp only [JC,JW,Jc,Ja];omega
   ·have hK:∀ x∈L,0 < x.K:=λx hx=>by have:=(S.good x hx).k;omega
    have hf:fnd L (posW L X.A X.B) X.A X.B=false:=by
     cases hf:fnd L (posW L X.A X.B) X.A X.B with
     | false=>rfl
     | true=>
      obtain ⟨hm,hfi,_⟩:=je S.ris hf hK;have:=tO S.ris hf hK hm;have h0:=hK _ (JX hm);have hz2:=hz;unfold clashW at hz2;rw [hA,hB] at hz2;split at hz2
      ·rw [J0 (by omega)] at hz2;cases hz2
      ·cases hz2
    have hno:=ub S.ris hf hK;rw [QH] at hno;have hne:∀ x∈L,x.A≠X.A\/x.B≠X.B:=λx hx=>by
     have:=hno x hx;rw [xK] at this;by_cases h:x.A=X.A
     ·exact .inr λh2=>this ⟨h,h2⟩
     ·exact .inl h
    have key:∀ x,(x.A≠X.A\/x.B≠X.B)->(cmpW x X < 0↔cmpW x ⟨X.A,X.B,0⟩ < 0):=λx hx=>by
     rw [jn,jn];constructor
     ·rintro (h | ⟨h,h2 | ⟨h2,h3⟩⟩)
      ·exact .inl h
      ·exact .inr ⟨h,.inl h2⟩
      ·rcases hx with hx | hx
       ·exact absurd h hx
       ·exact absurd h2 hx
     ·rintro (h | ⟨h,h2 | ⟨h2,h3⟩⟩)
      ·exact .inl h
      ·exact .inr ⟨h,.inl h2⟩
      ·rcases hx with hx | hx
       ·exact absurd h hx
       ·exact absurd h2 hx
    refine (xR wholeW S.ris p2 (λi hi=>(key _ (hne _ (JX _))).2 ((p1 i (by omega)).2 hi)) (λi hi h2=>?_)).1;have n1:¬ cmpW L[i] X < 0:=λh=>by have:=(p1 i h2).1 ((key _ (hne _ (JX _))).1 h);omega
    have n2:cmpW L[i] X≠0:=λh=>by
     have e:=ul.1 h;rcases hne _ (JX h2) with h | h
     ·exact h (by rw [e])
     ·exact h (by rw [e])
    omega
   ·intro x hx;rcases ins_mem.1 hx with rfl | hx
    ·exact hg
    ·exact S.good x hx
  ·rw [J0 (λh=>hz h.2)];obtain ⟨a0,c,hv,R⟩:=S.rd;refine (add_c sb a0 c L.length L X _ hu rfl hz w R).mono ?_;rintro e w' ⟨rfl,hb⟩;exact ⟨v,rfl,S.ee hb,Frm.of_below hb,λg e=>.inl e⟩
theorem rem_0 (sb:Nat) (a0:Option Addr) (c n:Nat) (L:List Wl) (a b:Pt) (hf:(fnd L (posW L (lo2 a b) (hi2 a b)) (lo2 a b) (hi2 a b))=false) (w:World) (S:SetRd w sb a0 c n L):Calls prog 57 #[pt0 sb,a,b] w (Rt w (.int .i64 16)):=by
 go_enter func57,ntmps57
 have hsb:=S.box.lt;go_wp2_with fail;refine qE2 λW1 Ba Bb hw=>?_;have cf:=jh sb a0 c n L a b W1 (S.ee hw);rw [hf] at cf;refine qC2 (cf) Ba Bb hw λw2 Ba Bb hw Gq=>?_;go_wp2
 go_ret
 exact ⟨rfl,by have hl:=hw.size;go_grown⟩
theorem rem_end {w w4 wq:World} {sb:Nat} {v v':Value} {L L':List Wl} (S:SetAt w sb v L) (hw:Below w w w4) (hgr:w4.grownBy wq v.ownBlock) (hf:Fresh v v' w4.heap.size) (hown:WRow wq 0 v' L'):Box (wq.setCell ⟨sb,0,none⟩ v') sb [v'] 74/\WRow (wq.setCell ⟨sb,0,none⟩ v') 0 v' L'/\Frm w (wq.setCell ⟨sb,0,none⟩ v') (Foot sb v)/\Fresh v v' w.heap.size/\v'.ownBlock≠some sb:=by
 have hs:=hw.size;have hsb:=S.box.lt;have hne:v'.ownBlock≠some sb:=λe=>by
  rcases hf _ e with h | h
  ·exact S.ne h
  ·omega
 have BQ:Box wq sb [v] 74:=Box.grownBy (S.box.ee hw) hgr (λe=>S.ne e.symm);have f1:Frm w wq (Foot sb v):=(Frm.of_below hw).trans (Frm.of_grown hgr λg e=>.inr e);refine ⟨BQ.set 0 v',((Frm.refl wq (· = sb)).setCell ⟨sb,0,none⟩ rfl v').row hown (λg e=>λh=>hne (by rw [e,h])),f1.setCell ⟨sb,0,none⟩ (.inl rfl) v',λg e=>?_,hne⟩;rcases hf g e with h | h
 ·exact .inl h
 ·exact .inr (by omega)
theorem rem_1 (sb:Nat) (a0:Option Addr) (c:Nat) (v:Value) (L:List Wl) (hv:v=.slice a0 L.length c) (a b:Pt) (hf:(fnd L (posW L (lo2 a b) (hi2 a b)) (lo2 a b) (hi2 a b))=true) (m:Nat) (hm0:posW L (lo2 a b) (hi2 a b)=m) (hm:m < L.length) (w:World) (S:SetAt w sb v L):Calls prog 57 #[pt0 sb,a,b] w λe w'=>∃ v',e=.returned (.int .i64 0)/\Box w' sb [v'] 74/\WRow w' 0 v' (L.take m ++ L.drop (m+1))/\Frm w w' (Foot sb v)/\Fresh v v' w.heap.size/\v'.ownBlock≠some sb:=by
 go_enter func57,ntmps57
 have hsb:=S.box.lt;go_wp2_with fail;refine qE2 λW1 Ba Bb hw=>?_;have SS:=S.rdx v c a0 hv;have cf:=jh sb a0 c L.length L a b W1 (SS.ee hw);rw [hf,hm0] at cf;clear hv SS;refine qK2 (cf) Ba Bb hw λw2 Ba Bb hw=>?_;have BS:=S.box.ee hw;have hown:=S.row.ee hw;have hne:=S.ne;have e1:IntKind.i64.wrap ((m:Int)+1)=(m:Int)+1:=by rw [IntKind.wrap_i64];have:=S.le;omega
 have e2:wrap64 ((m:Int)+1)=(m:Int)+1:=by rw [w64];have:=S.le;omega
 have Rj:=J3 Ba.f Bb.f BS.f;go_wp2_with fail;refine (del_any 0 v m L _ hm hown).mono ?_;rintro e wq ⟨v',rfl,hown',hgr,hfr⟩;have BQ:=Box.grownBy BS hgr (λe=>hne e.symm);obtain ⟨q0,q1,q2,q3⟩:=BQ.f;obtain ⟨aq,nq,cq,rfl⟩:=hown'.form;go_wp2
 go_ret
 obtain ⟨r1,r2,r3,r4,r5⟩:=rem_end S hw hgr hfr hown';exact ⟨_,rfl,r1,r2,r3,r4,r5⟩
def remE (L:List Wl) (p q:Pt):Int:=if fnd L (posW L p q) p q=true then 0 else 16
def remL (L:List Wl) (p q:Pt):List Wl:=if fnd L (posW L p q) p q=true then L.take (posW L p q) ++ L.drop (posW L p q+1) else L
theorem cut_sub (L:List Wl) (m:Nat):(L.take m ++ L.drop (m+1)).Sublist L:=by
 induction L generalizing m with
 | nil=>simp
 | cons x L ih=>
  cases m with
  | zero=>simp
  | succ m=>simpa using ih m
theorem rem_any (sb:Nat) (v:Value) (L:List Wl) (a b:Pt) (w:World) (S:SetAt w sb v L):Calls prog 57 #[pt0 sb,a,b] w λe w'=>∃ v',e=.returned (.int .i64 (remE L (lo2 a b) (hi2 a b)))/\SetAt w' sb v' (remL L (lo2 a b) (hi2 a b))/\Frm w w' (Foot sb v)/\Fresh v v' w.heap.size:=by
 unfold remE remL;obtain ⟨a0,c,hv,R⟩:=S.rd;have hK:∀ x∈L,0 < x.K:=λx hx=>by have:=(S.good x hx).k;omega
 cases hf:(fnd L (posW L (lo2 a b) (hi2 a b)) (lo2 a b) (hi2 a b)) with
 | false=>
  rw [J0 (by simp),J0 (by simp)];refine (rem_0 sb a0 c L.length L a b hf w R).mono ?_;rintro e w' ⟨rfl,hb⟩;exact ⟨v,rfl,S.ee hb,Frm.of_below hb,λg e=>.inl e⟩
 | true=>
  rw [JH rfl,JH rfl];obtain ⟨hm,_⟩:=je S.ris hf hK;refine (rem_1 sb a0 c v L hv a b hf _ rfl hm w S).mono ?_;rintro e w' ⟨v',rfl,h1,h2,h3,h4,h5⟩;have hs:=cut_sub L (posW L (lo2 a b) (hi2 a b));exact ⟨v',rfl,⟨h1,h2,h5,JY hs.length_le S.le,S.ris.sublist hs,λx hx=>S.good x (hs.subset hx)⟩,h3,h4⟩
end
end Go.Proofs.YthhcehmmglmlfaaGreat
namespace Go.Proofs.YthhcehmmglmlfaaGreat.FT
open Go.RowKit Go.Sort
section
variable {P:Program} {ops:Array Oper} {md:Region.Mode} {Q:Exit->Act->World->Prop} {n:Nat}
inductive Plan where
 | run (i:Nat) (rest:Plan)
 | alt (h:Nat) (after other:Plan)
 | stop
 | tail
def flow (P:Program) (ops:Array Oper) (n:Nat) (Q:Exit->Act->World->Prop):Plan->(World->Prop)->Act->World->Prop
 | .run i rest,C,a,w=>∃ o,ops[i]? = some o/\if Region.wanted o (yielded ops a.tmps) then rOper P o a C (λa'=>flow P ops n Q rest C a' w) else flow P ops n Q rest C (a.put o.dst undef) w
 | .alt h after other, C, a, w => (∃ o, ops[h]? = some o /\ ∀ w', Ext w w' -> if Region.wanted o (yielded ops a.tmps) then
       o.wp P a w' (λa' w2=>∃ C':World->Prop,(∀ x,C' x->C x)/\(∀ x y,Ext x y->C' x->C' y)/\C' w2/\flow P ops n Q after C' a' w2) Q
     else ∃ C':World->Prop,(∀ x,C' x->C x)/\(∀ x y,Ext x y->C' x->C' y)/\C' w'/\flow P ops n Q after C' (a.put o.dst undef) w')/\flow P ops n Q other C a w
 | .stop,_,_,_=>True
 | .tail,_,a,w=>∀ w',Ext w w'->wpList P ops Q (ops.toList.drop n) a w'
theorem flow_run {i:Nat} {rest:Plan} {C:World->Prop} {a:Act} {w:World} {o:Oper} (ho:ops[i]? = some o) (h:∀ K:Act->Prop,(∀ a,flow P ops n Q rest C a w->K a)->if Region.wanted o (yielded ops a.tmps) then rOper P o a C K else K (a.put o.dst undef)):flow P ops n Q (.run i rest) C a w:=
 ⟨o,ho,h _ (λ_ h=>h)⟩
def Plan.runs:Plan->List Nat
 | .run i r=>i :: r.runs
 | _=>[]
def Plan.drop (i:Nat):Plan->Plan
 | .run j r=>if j=i then r else .run j (r.drop i)
 | p=>p
def Plan.goto (h:Nat):Plan->Plan
 | .run j r=>.run j (r.goto h)
 | .alt k a o=>if k=h then a else o.goto h
 | p=>p
def planB (md:Region.Mode) (n:Nat) (ops:Array Oper):List Nat->Plan->Array Bool->Bool
 | seen,.run i r,l=>decide (i < n) && seen.isEmpty && (Region.ready md ops l).contains i && Region.free md ops l i && planB md n ops [] r (l.setIfInBounds i true)
 | seen,.alt h a o,l=>decide (h < n) && (Region.ready md ops l).contains h && planB md n ops [] a (l.setIfInBounds h true) && planB md n ops (h :: seen) o l
 | seen,.stop,l => !seen.isEmpty && (Region.ready md ops l).all seen.contains
 | seen,.tail,l=>seen.isEmpty && Region.seqB md ops (ops.size - n) n l
theorem Y6 {l:Array Bool} {i j:Nat} (h:Region.free md ops l j):Region.free md ops (l.setIfInBounds i true) j=true:=by
 unfold Region.free at *;cases ho:ops[j]? with
 | none=>rw [ho] at h;cases h
 | some oj=>
  rw [ho] at h;simp only [Qg,Q7,V0,beq_iff_eq] at h ⊢;intro k hk;rcases h k hk with (h1 | h1) | h1
  ·exact .inl (.inl h1)
  ·by_cases hik:i=k
   ·subst hik;refine .inl (.inr ?_);rcases Qb i l.size with h' | h'
    ·simp [h']
    ·simp [h']
   ·exact .inl (.inr (by rw [getD_set_ne true hik];exact h1))
  ·exact .inr h1
theorem Xq {l:Array Bool} {i j:Nat} {oi oj:Oper} (hj:ops[j]? = some oj) (hf:Region.free md ops l j) (hji:j≠i) (hun:l.getD j true=false) (hi:ops[i]? = some oi) (hr:i∈Region.ready md ops l):oj.apart ops oi=true:=by
 obtain ⟨h0,o,ho,hall⟩:=mem_ready.1 hr;have:o=oi:=JU (ho.symm.trans hi);subst this;refine Region.free_spec hj hf i o hi (Ne.symm hji) h0 λe he hb heq=>?_;have h1:=hall e he hb;rw [heq,getD_both hun] at h1;cases h1
theorem wpOp_putR {C:World->Prop} {j:Nat} {oi oj:Oper} {v:Value} (hj:ops[j]? = some oj) (hap:oi.apart ops oj) (hsi:∀ cs b,oi.op≠.select cs b) (hsj:∀ cs b,oj.op≠.select cs b) (hQ:∀ c x v a w,Q (.panic c) (Act.put a x v) w->Q (.panic c) a w) {K:Act->World->Prop} {a:Act} {w:World} (hy:rYields P ops C oi v a) (h:wpOp P ops Q j K (a.put oi.dst v) w):wpOp P ops Q j (λa' w'=>rYields P ops C oi v a'/\K (a'.put oi.dst v) w') a w:=by
 obtain ⟨g1,g2,g3⟩:=Oper.apart_spec hap;have e1:=execOp_put (ops:=ops) oj hsj a oi.dst v g1;have e2:=wanted_put oj a oi.dst v g1;have kp:∀ b u,rYields P ops C oi v b->rYields P ops C oi v (b.put oj.dst u):=λb u hb=>hb.same (execOp_put (ops:=ops) oi hsi b oj.dst u g3) (wanted_put oi b oj.dst u g3);have kd:∀ d,rYields P ops C oi v { a with defers:=d :: a.defers }:=λd=>hy.same rfl rfl;have cm:∀ (b:Act) u,(b.put oi.dst v).put oj.dst u=(b.put oj.dst u).put oi.dst v:=λb u=>Act.put_comm b v u g2;unfold wpOp at h ⊢;simp only [hj,e2] at h ⊢;cases hw:Region.wanted oj (yielded ops a.tmps) with
 | false=>
  simp only [hw,QA,VT] at h ⊢;exact ⟨kp a _ hy,by rw [<-cm];exact h⟩
 | true=>
  simp only [hw,VZ] at h ⊢;rcases h with h | ⟨h,hl⟩
  ·left
   unfold Oper.wp at h ⊢;rw [e1] at h;generalize (execOp a.eval oj).run P w=r at h ⊢
   cases r with
   | halt x w'=>cases x <;> first | exact hQ _ _ _ _ _ h | exact h
   | ok n w'=>
    cases n <;> simp only [Oper.upon] at h ⊢
    case value u=>exact ⟨kp a u hy,by rw [<-cm];exact h⟩
    case skip=>exact ⟨kp a _ hy,by rw [<-cm];exact h⟩
    case defer d=>exact ⟨kp _ _ (kd d),by rw [<-cm,<-Act.put_defers];exact h⟩
    case enter f args=>
     refine Calls.mono h λe w2 he=>?_;cases e with
     | returned u=>exact ⟨kp a u hy,by rw [<-cm];exact he⟩
     | panicked c=>exact hQ _ _ _ _ _ he
     | outgrown=>exact he
    case row row args=>exact Rows.mono h λu w2 he=>⟨kp a u hy,by rw [<-cm];exact he⟩
  ·right
   exact ⟨by unfold Oper.asks at h ⊢;rw [e1] at h;exact h,hl⟩
theorem rYields.sub {C C':World->Prop} {o:Oper} {v:Value} {a:Act} (h:rYields P ops C o v a) (hs:∀ x,C' x->C x):rYields P ops C' o v a:=
 h.imp (λ⟨h1,h2⟩=>⟨h1,λw hw=>h2 w (hs w hw)⟩) id
theorem kN {i:Nat} {o:Oper} {rest:Plan} {C:World->Prop} {v:Value} {a:Act} {w:World} (ho:ops[i]? = some o) (hy:rYields P ops C o v a) (h:flow P ops n Q rest C (a.put o.dst v) w):flow P ops n Q (.run i rest) C a w:=by
 refine ⟨o,ho,?_⟩;rcases hy with ⟨h1,h2⟩ | ⟨h1,rfl⟩
 ·rw [JH h1];exact ⟨v,h2,h⟩
 ·rw [J0 (by rw [h1];simp)];exact h
theorem qy {i:Nat} {rest:Plan} {C:World->Prop} {a:Act} {w:World} (h:flow P ops n Q (.run i rest) C a w):∃ o v,ops[i]? = some o/\rYields P ops C o v a/\flow P ops n Q rest C (a.put o.dst v) w:=by
 obtain ⟨o,ho,h⟩:=h;cases hw:Region.wanted o (yielded ops a.tmps) with
 | true=>
  rw [JH hw] at h;obtain ⟨v,h1,h2⟩:=h;exact ⟨o,v,ho,.inl ⟨hw,h1⟩,h2⟩
 | false=>
  rw [J0 (by rw [hw];simp)] at h;exact ⟨o,undef,ho,.inr ⟨hw,rfl⟩,h⟩
theorem Y7 (hsel : Region.noSelect ops = true) {C : World -> Prop} {i : Nat} {w : World} : ∀ (pl : Plan) (l : Array Bool) (a : Act), planB md n ops [] pl l = true -> i ∈ Region.ready md ops l -> i ∈ pl.runs -> flow P ops n Q pl C a w ->
    ∃ o v,ops[i]? = some o/\rYields P ops C o v a/\flow P ops n Q (pl.drop i) C (a.put o.dst v) w/\planB md n ops [] (pl.drop i) (l.setIfInBounds i true)=true
 | .run j r,l,a,hB,hr,hm,hf=>by
  simp only [planB,JB,U6,Vs] at hB;obtain ⟨⟨⟨hjn,hjr⟩,hfr⟩,hB⟩:=hB;have hjr':j∈Region.ready md ops l:=by simpa using hjr
  obtain ⟨oj,u,hoj,hyj,hf⟩:=qy hf;by_cases hji:j=i
  ·subst hji;simp only [Plan.drop,VZ];exact ⟨oj,u,hoj,hyj,hf,hB⟩
  ·have hm' : i ∈ r.runs := by
     simp only [Plan.runs,J1] at hm;rcases hm with hm | hm
     ·exact absurd hm.symm hji
     ·exact hm
   obtain ⟨oi,v,hoi,hyi,hfi,hBi⟩:=Y7 hsel r _ _ hB (ready_mono hr (Ne.symm hji)) hm' hf;obtain ⟨g1,g2,g3⟩:=Oper.apart_spec (Xq hoj hfr hji (mem_ready.1 hjr').1 hoi hr);have s:=λk o (ho:ops[k]? = some o) cs b=>Region.noSelect_spec hsel k o cs b ho;have hyi':rYields P ops C oi v a:=hyi.same (execOp_put (ops:=ops) oi (s i oi hoi) a oj.dst u g1).symm (wanted_put oi a oj.dst u g1).symm;have hyj':rYields P ops C oj u (a.put oi.dst v):=hyj.same (execOp_put (ops:=ops) oj (s j oj hoj) a oi.dst v g3) (wanted_put oj a oi.dst v g3);refine ⟨oi,v,hoi,hyi',?_,?_⟩
   ·simp only [Plan.drop,J0 hji];refine kN hoj hyj' ?_;rw [<-Act.put_comm a u v g2];exact hfi
   ·simp only [Plan.drop,J0 hji,planB,JB,U6,Vs];refine ⟨⟨⟨hjn,by simpa using ready_mono hjr' hji⟩,Y6 hfr⟩,?_⟩;rw [QS _ _ (Ne.symm hji)];exact hBi
 | .alt _ _ _,_,_,_,_,hm,_=>by cases hm
 | .stop,_,_,_,_,hm,_=>by cases hm
 | .tail,_,_,_,_,hm,_=>by cases hm
theorem jN (hsel : Region.noSelect ops = true) (hQ : ∀ c x v a w, Q (.panic c) (Act.put a x v) w -> Q (.panic c) a w) {C : World -> Prop} {i : Nat} {w0 w : World} (hw : Ext w0 w) : ∀ (pl : Plan) (seen : List Nat) (l : Array Bool) (a : Act), planB md n ops seen pl l = true -> i ∈ Region.ready md ops l ->
    i ∉ pl.runs->i ∉ seen->i < n->flow P ops n Q pl C a w0 ->
    wpOp P ops Q i (λa' w'=>∃ C':World->Prop,(∀ x,C' x->C x)/\(∀ x y,Ext x y->C' x->C' y)/\C' w'/\flow P ops n Q (pl.goto i) C' a' w') a w/\planB md n ops [] (pl.goto i) (l.setIfInBounds i true)=true
 | .run j r,seen,l,a,hB,hr,hm,_,hin,hf=>by
  simp only [planB,JB] at hB;obtain ⟨⟨⟨⟨hjn,_⟩,hjr⟩,hfr⟩,hB⟩:=hB;have hjr':j∈Region.ready md ops l:=by simpa using hjr
  have hji:j≠i:=λe=>hm (by rw [e];exact JT);obtain ⟨oj,u,hoj,hyj,hf⟩:=qy hf;obtain ⟨h1,h2⟩:=jN hsel hQ hw r [] _ _ hB (ready_mono hr (Ne.symm hji)) (λh=>hm (JN _ h)) (by simp) hin hf;obtain ⟨_,oi,hoi,_⟩:=mem_ready.1 hr;have s:=λk o (ho:ops[k]? = some o) cs b=>Region.noSelect_spec hsel k o cs b ho;have hap:=Xq hoj hfr hji (mem_ready.1 hjr').1 hoi hr;refine ⟨wpOp_mono (λa' w' h=>?_) (wpOp_putR hoi hap (s j oj hoj) (s i oi hoi) hQ hyj h1),?_⟩
  ·obtain ⟨hy,C',hs,hc,hC,hf⟩:=h;exact ⟨C',hs,hc,hC,kN hoj (rYields.sub hy hs) hf⟩
  ·simp only [Plan.goto,planB,JB,U6,Vs];refine ⟨⟨⟨hjn,by simpa using ready_mono hjr' hji⟩,Y6 hfr⟩,?_⟩;rw [QS _ _ (Ne.symm hji)];exact h2
 | .alt k a2 o,seen,l,a,hB,hr,hm,hs,hin,hf=>by
  simp only [planB,JB] at hB;obtain ⟨⟨⟨_,_⟩,hB1⟩,hB2⟩:=hB;obtain ⟨⟨ok,hok,h1⟩,h2⟩:=hf;by_cases hki:k=i
  ·subst hki;simp only [Plan.goto,VZ];refine ⟨?_,hB1⟩;have:=h1 w hw;unfold wpOp;simp only [hok];split
   ·rename_i hwt;rw [JH hwt] at this;exact .inl this
   ·rename_i hwt;rw [J0 hwt] at this;exact this
  ·simp only [Plan.goto,J0 hki];have hs':i ∉ k :: seen:=λh=>by
    rcases J1.1 h with h | h
    ·exact hki h.symm
    ·exact hs h
   cases o with
   | run j r=>simp [planB] at hB2
   | alt k2 a3 o2=>exact jN hsel hQ hw (.alt k2 a3 o2) _ _ _ hB2 hr (by simp [Plan.runs]) hs' hin h2
   | stop=>exact jN hsel hQ hw .stop _ _ _ hB2 hr (by simp [Plan.runs]) hs' hin h2
   | tail=>simp [planB] at hB2
 | .stop,seen,l,a,hB,hr,_,hs,_,_=>by
  simp only [planB,JB] at hB;have:=Qg.1 hB.2 i hr;exact absurd (by simpa using this) hs
 | .tail,seen,l,a,hB,hr,_,hs,hin,_=>by
  simp only [planB,JB] at hB;have:=seqB_ready hB.2 i hr;omega
def undone (n:Nat) (l:Array Bool):Nat:=((List.range n).filter λi => !l.getD i true).length
theorem vT {p q:Nat->Bool} {x:Nat}:∀ {l:List Nat},(∀ y,q y=true->p y=true)->x∈l->p x=true->q x=false->(l.filter q).length < (l.filter p).length
 | [],_,hx,_,_=>by cases hx
 | y :: l,h,hx,hp,hq=>by
  have le:∀ l:List Nat,(l.filter q).length<=(l.filter p).length:=λl=>by
   induction l with
   | nil=>simp
   | cons z l ih=>
    cases hz:q z with
    | true=>rw [Jo hz,Jo (h z hz)];simpa using ih
    | false=>
     rw [Jv (by rw [hz];simp)];cases hz2:p z with
     | true=>rw [Jo hz2,JW];omega
     | false=>rw [Jv (by rw [hz2];simp)];exact ih
  rcases J1.1 hx with rfl | hx
  ·rw [Jo hp,Jv (by rw [hq];simp),JW];have:=le l;omega
  ·have ih:=vT h hx hp hq;cases hz:q y with
   | true=>rw [Jo hz,Jo (h y hz)];simpa using ih
   | false=>
    rw [Jv (by rw [hz];simp)];cases hz2:p y with
    | true=>rw [Jo hz2,JW];omega
    | false=>rw [Jv (by rw [hz2];simp)];exact ih
theorem undone_set {l:Array Bool} {i:Nat} (hi:i < n) (hs:l.size=ops.size) (hi2:i < ops.size) (hu:l.getD i true=false):undone n (l.setIfInBounds i true) < undone n l:=by
 refine vT (x:=i) (λy hy=>?_) (Q7.2 hi) (by rw [hu];rfl) (by simp [hs,hi2]);by_cases hiy:i=y
 ·subst hiy;rw [hu];rfl
 ·rw [getD_set_ne true hiy] at hy;exact hy
theorem uu:∀ (f:Nat) (l:Array Bool) (a:Act) (w:World),wpAny P md ops Q f l a w->wpAny P md ops Q (f+1) l a w
 | 0,l,a,w,h=>⟨λ_=>h.2,λi hi=>by rw [h.1] at hi;cases hi⟩
 | f+1,l,a,w,h=>⟨h.1,λi hi=>wpOp_mono (λa' w' h'=>uu f _ a' w' h') (h.2 i hi)⟩
theorem wpAny_le {f g:Nat} (hfg:f<=g) {l:Array Bool} {a:Act} {w:World} (h:wpAny P md ops Q f l a w):wpAny P md ops Q g l a w:=by
 induction hfg with
 | refl=>exact h
 | step _ ih=>exact uu _ _ _ _ ih
theorem tW (hsel:Region.noSelect ops) (hn:n < ops.size) (hsk:Region.sinkB md ops n) (hch:Region.chainB md ops n) (hQ:∀ c x v a w,Q (.panic c) (Act.put a x v) w->Q (.panic c) a w):∀ (f:Nat) (pl:Plan) (C:World->Prop) (l:Array Bool) (a:Act) (w0 w:World),planB md n ops [] pl l=true->HeadInv md ops n l->undone n l+(ops.size - n)<=f->(∀ x y,Ext x y->C x->C y)->C w->Ext w0 w->flow P ops n Q pl C a w0->wpAny P md ops Q f l a w:=by
 intro f;induction f with
 | zero=>intro pl C l a w0 w hB hs hu _ _ hw hf;omega
 | succ f ih=>
  intro pl C l a w0 w hB inv hu hc hC hw hf;by_cases hnt:pl=.tail
  ·subst hnt;simp only [planB,JB,U6,true_and] at hB;have hl:(ops.toList.drop n).length=ops.size - n:=by simp
   refine wpAny_le (f:=ops.size - n) (by omega) ?_;rw [<-hl];exact wpAny_of_seq _ n l a w (λj=>by simp [Qr]) (by rw [hl];exact hB) (hf w hw)
  have hne:Region.ready md ops l≠[]:=λhr=>by
   cases pl with
   | run i r=>simp [planB,hr] at hB
   | alt h a2 o=>simp [planB,hr] at hB
   | stop=>simp [planB] at hB
   | tail=>exact hnt rfl
  refine ⟨λhr=>absurd hr hne,λi hi=>?_⟩;obtain ⟨h0,o,ho,_⟩:=mem_ready.1 hi;have hisz:=(Q8.1 ho).1;rcases Qb i n with hin | hin
  ·have hlt:=undone_set (ops:=ops) hin inv.size hisz h0;by_cases hm:i∈pl.runs
   ·obtain ⟨oi,v,hoi,hy,hf2,hB2⟩:=Y7 hsel pl l a hB hi hm hf;exact yA hoi hC hy λw' hw'=>ih _ C _ _ w0 w' hB2 (inv.set hi hin) (by omega) hc (hc _ _ hw' hC) (Ext.trans hw hw') hf2
   ·obtain ⟨h1,hB2⟩:=jN hsel hQ hw pl [] l a hB hi hm (by simp) hin hf;refine wpOp_mono (λa' w' h=>?_) h1;obtain ⟨C',_,hc',hC',hf2⟩:=h;exact ih _ C' _ _ w' w' hB2 (inv.set hi hin) (by omega) hc' hC' (Below.refl _ _) hf2
  ·exfalso
   have hdone:∀ j,j < n->l.getD j true=true:=λj hj=>by
    cases h:l.getD j true with
    | true=>rfl
    | false=>exact absurd hi (tail_waits hsk hch hn inv _ j rfl hj h i hin)
   cases pl with
   | run j r=>
    simp only [planB,JB,JA] at hB;have h1:j∈Region.ready md ops l:=by simpa using hB.1.1.2
    have:=(mem_ready.1 h1).1;rw [hdone j hB.1.1.1.1] at this;cases this
   | alt h a2 o=>
    simp only [planB,JB,JA] at hB;have h1:h∈Region.ready md ops l:=by simpa using hB.1.1.2
    have:=(mem_ready.1 h1).1;rw [hdone h hB.1.1.1] at this;cases this
   | stop=>simp [planB] at hB
   | tail=>exact hnt rfl
theorem wp_region_flow {id:Nat} {a:Act} {w:World} {l:List Oper} (n:Nat) (pl:Plan) (hm:P.follows .mixedOrders) (hB:(Region.noSelect l.toArray && decide (n < l.toArray.size) && Region.sinkB .any l.toArray n && Region.chainB .any l.toArray n && planB .any n l.toArray [] pl (Array.replicate l.toArray.size false))=true) (hQ:∀ c x v a w,Q (.panic c) (Act.put a x v) w->Q (.panic c) a w) {C:World->Prop} (hC:∀ w',Below w w w'->C w') (hc:∀ w',C w'->Below w w w') (h:flow P l.toArray n Q pl C a w):(Code.region id l.toArray true).wp P Q a w:=by
 simp only [JB,JA] at hB;obtain ⟨⟨⟨⟨h1,h2⟩,h3⟩,h4⟩,h5⟩:=hB;refine wp_region_any hm ?_;have hx:Ext w { w with drawn:=w.drawn+1 }:=⟨rfl,rfl,rfl,JJ _,λ_ _=>rfl⟩;exact tW h1 h2 h3 h4 hQ _ pl C _ a w _ h5 headInv0 (by
  have:=Qn (λi => !(Array.replicate l.toArray.size false).getD i true) (List.range n);rw [Vc] at this;unfold undone;omega) (λx y hxy hx=>hC _ (Ext.trans (a:=w) (hc _ hx) hxy)) (hC _ hx) hx h
theorem flow_at {k:Nat} {after other:Plan} {C:World->Prop} {a:Act} {w:World} {o:Oper} (hC:∀ x y,Ext x y->C x->C y) (ho:ops[k]? = some o) (h2:flow P ops n Q other C a w) (h:∀ w',Ext w w'->∀ K:Act->World->Prop,(∀ a' w2,C w2->flow P ops n Q after C a' w2->K a' w2)->if Region.wanted o (yielded ops a.tmps) then o.wp P a w' K Q else K (a.put o.dst undef) w'):flow P ops n Q (.alt k after other) C a w:=
 ⟨⟨o,ho,λw' hw'=>h w' hw' _ λ_ _ h1 h2=>⟨C,λ_ h=>h,hC,h1,h2⟩⟩,h2⟩
end
end Go.Proofs.YthhcehmmglmlfaaGreat.FT
namespace Go.Proofs.YthhcehmmglmlfaaGreat
open _root_.Go.Proofs.Tryz
section
open Go.RowKit Go.Sort
attribute [local go_sem] rOper rAt rUpon cell_set sg_i64 sg_u64 alloc_cell alloc_frozen
attribute [local go_sem 10000] pt_eql pt_neq wal_eql wal_neq
attribute [local irreducible] rWalk
section
open Go.Lib
def adjB (x y:Wl):Bool:=decide (x.A=y.A) && decide (x.B=y.B)
theorem adjB_eq (x y:Wl):adjB x y=(peqI x.A.x x.A.y y.A.x y.A.y && peqI x.B.x x.B.y y.B.x y.B.y):=by rw [zq,zq];rfl
theorem twice_any (a:Option Addr) (c:Nat) (L:List Wl) (hL:L.length<=1000000) (b:Bool) (hb:b=true↔∃ (i:Nat) (h:i+1 < L.length),adjB L[i] L[i+1]=true) (w:World) (h:RowAt cW 5 w a L):Calls prog 52 #[.slice a L.length c] w (Rt w (.bool b)):=by
 obtain ⟨n,hn1⟩:∃ n,L.length=n:=⟨_,rfl⟩;have hn:n<=1000000:=hn1▸hL;have H1:=hdd hn1;have HB:=hdd hb;rw [hn1];clear hL hb hn1
 go_enter func52,ntmps52
 go_wp2
 go_loopw [3] (λvi wr=>∃ k:Nat,vi=.int .i64 ((k:Int)+1)/\(k=0\/k+1<=n)/\Hi (∀ (i:Nat) (hi:i+1 < L.length),i < k->adjB L[i] L[i+1]=false)/\Below w w wr) (λvi _=>n - (intOf vi).toNat)
 case atStart=>exact ⟨0,by first | rfl | simp,.inl rfl,hdd (λi _ h=>absurd h (Nat.not_lt_zero _)),Below.refl _ _⟩
 case round=>
  obtain ⟨k,rfl,hk,HF,hwr⟩:=hrel;by_cases hlt:k+1 < n
  ·have hk0:k < L.length:=by rw [H1.o];omega
   have hk1:k+1 < L.length:=by rw [H1.o];exact hlt
   obtain ⟨ad1,A1,ea1,eA1,hA1⟩:=(h.ee hwr).five (j:=k) hk0;obtain ⟨ad2,A2,ea2,eA2,hA2⟩:=(h.ee hwr).five (j:=k+1) hk1;have HY:Hi (adjB L[k] L[k+1]=(peqI L[k].A.x L[k].A.y L[k+1].A.x L[k+1].A.y && peqI L[k].B.x L[k].B.y L[k+1].B.x L[k+1].B.y)):=hdd (adjB_eq _ _);have HYes:adjB L[k] L[k+1]=true->b=true:=λe=>HB.o.2 ⟨k,hk1,e⟩;have HNo:adjB L[k] L[k+1]=false->∀ (i:Nat) (hi:i+1 < L.length),i < k+1->adjB L[i] L[i+1]=false:=λe i hi hik=>by
    by_cases ek:i=k
    ·subst ek;exact e
    ·exact HF.o i hi (by omega)
   have HYH:=hdd HYes;have HNH:=hdd HNo;clear HYes HNo;generalize adjB L[k] L[k+1]=z at *
   generalize L[k]=X at *
   generalize L[k+1]=Y at *
   subst ea1;simp only [Qi] at ea2;subst ea2;obtain ⟨s0,s1,s2,s3,s4⟩:=hA1.cells;obtain ⟨r0,r1,r2,r3,r4⟩:=hA2.cells;have q1:IntKind.i64.wrap ((k:Int)+1 - 1)=k:=by rw [IntKind.wrap_i64];omega
   have q1b:IntKind.i64.wrap (k:Int)=k:=by rw [IntKind.wrap_i64];omega
   have q2:(k:Int) < (n:Int):=by omega
   have q3:(k:Int)+1 < (n:Int):=by omega
   have q4:((k:Int)+1).toNat=k+1:=by omega
   have q5:k < n:=by omega
   have q6:(0:Int)<=(k:Int)+1:=by omega
   cases e1:peqI X.A.x X.A.y Y.A.x Y.A.y with
   | false=>
    have HZ:Hi (z=false):=hdd (by rw [HY.o,e1];rfl);clear HY hA1 hA2;go_wp2_with fail;refine (wp_region_tail 25 (by kernel_rfl) (by kernel_rfl) (C:=λw'=>∃ p:Regrown,w'=grow (redrawn wr p.d) p.os) rgB ?_);simp only [tK1,tK0,dP1,dP0];repeat (first | (refine zK (Eq.refl false) ?_;simp only [Act.put,sT2,sT1,sT0]) | (refine rWalk_step (λK hK=>?_);go_simp;refine hK _ ?_;clear hK K))
    refine rWalk_nil ?_;intro w2 hb2;have hw2:=(upB hwr hb2);go_wp2
    go_roundw
    case rel=>exact ⟨k+1,by go_num,.inr (by omega),hdd (HNH.o HZ.o),hw2⟩
    case measure=>simp [intOf];omega
   | true=>
    cases e2:peqI X.B.x X.B.y Y.B.x Y.B.y with
    | false=>
     have HZ:Hi (z=false):=hdd (by rw [HY.o,e1,e2];rfl);clear HY hA1 hA2;go_wp2_with fail;refine (wp_region_tail 25 (by kernel_rfl) (by kernel_rfl) (C:=λw'=>∃ p:Regrown,w'=grow (redrawn wr p.d) p.os) rgB ?_);simp only [tK1,tK0,dP1,dP0];repeat (first | (refine zK (Eq.refl false) ?_;simp only [Act.put,sT2,sT1,sT0]) | (refine rWalk_step (λK hK=>?_);go_simp;refine hK _ ?_;clear hK K))
     refine rWalk_nil ?_;intro w2 hb2;have hw2:=(upB hwr hb2);go_wp2
     go_roundw
     case rel=>exact ⟨k+1,by go_num,.inr (by omega),hdd (HNH.o HZ.o),hw2⟩
     case measure=>simp [intOf];omega
    | true=>
     have HZ:Hi (z=true):=hdd (by rw [HY.o,e1,e2];rfl);clear HY hA1 hA2;go_wp2_with fail;refine (wp_region_tail 25 (by kernel_rfl) (by kernel_rfl) (C:=λw'=>∃ p:Regrown,w'=grow (redrawn wr p.d) p.os) rgB ?_);simp only [tK1,tK0,dP1,dP0];repeat (first | (refine zK (Eq.refl false) ?_;simp only [Act.put,sT2,sT1,sT0]) | (refine rWalk_step (λK hK=>?_);go_simp;refine hK _ ?_;clear hK K))
     refine rWalk_nil ?_;intro w2 hb2;have hw2:=(upB hwr hb2);have HT:=hdd (HYH.o HZ.o);go_wp2
     go_ret
     exact ⟨by rw [HT.o];rfl,hw2⟩
  ·have HT : Hi (b = false) := hdd (by
     cases hb:b with
     | false=>rfl
     | true=>
      obtain ⟨i,hi,e⟩:=HB.o.1 hb;have:=HF.o i hi (by rw [H1.o] at hi;omega);rw [e] at this;cases this)
   have q3:¬ ((k:Int)+1 < (n:Int)):=by omega
   go_wp2
   go_ret
   exact ⟨by rw [HT.o];rfl,hwr⟩
end
section
open Go.Lib
def PredFrm (g:Nat) (lb:Array Value) (p:Wl->Bool) (w:World) (b:Nat):Prop:=
 ∀ (W:World) (x:Wl),Frm w W (· = b)->Calls prog g (#[.agg (cW x).toArray] ++ lb) W λe w'=>e=.returned (.bool (p x))/\Below W W w'
theorem PredFrm.below {g:Nat} {lb:Array Value} {p:Wl->Bool} {w:World} {b:Nat} (h:PredFrm g lb p w b):PredBelow prog g lb (λx=>.agg (cW x).toArray) p w:=λW x hb=>
 (h W x (Frm.of_below hb)).mono λ_ _ ⟨he,hx⟩=>⟨he,(upB hb hx)⟩
theorem KX (p:Wl->Bool) (g:Nat) (lb:Array Value) (eg:∀ args w,(callFunc g args).run prog w=.ok (.enter g args) w) (a:Option Addr) (c:Nat) (L:List Wl) (hL:L.length<=1000000) (w:World) (h:RowAt cW 5 w a L) (hf:Flat a) (hp:PredBelow prog g lb (λx=>.agg (cW x).toArray) p w) (h0:0 < L.length):Calls prog 98 #[.slice a L.length c,.func (.func g) #[] lb] w (Rt w (.int .i64 (Lib.idxBy (λ_ y=>p y) L default))):=by
 rcases uc hf with rfl | ⟨b,off,rfl⟩
 ·obtain ⟨ad,h1,_⟩:=h 0 L[0] (JG h0);cases h1
 ·have hb:b < w.heap.size:=by obtain ⟨ad,h1,h2,_⟩:=h 0 L[0] (JG h0);cases h1;exact h2
  have hc:=AnyQ.slices_IndexFunc idxWl 5 Tryz.isAgg71 Tryz.sizeOf71 cW yS p g lb eg b off L.length c L w hp (JJ _) (by omega) hb (λj hj i v hv=>by
   rw [getElem!_pos L j hj] at hv;obtain ⟨ad,h1,_,h3⟩:=h j L[j] (JG hj);cases h1
   have:=h3 i v hv
   simpa only [Addr.add_lit] using this)
  change Calls prog 98 _ _ _ at hc
  rwa [JV (JJ _)] at hc
theorem Y9 (tl:List Value):∀ (S:List Wl) (j:Nat) (p:Wl),j < S.length->(((((S.flatMap cW ++ tl).set (j * 5) (.int .i64 p.A.x)).set (j * 5+1) (.int .i64 p.A.y)).set (j * 5+2) (.int .i64 p.B.x)).set (j * 5+3) (.int .i64 p.B.y)).set (j * 5+4) (.int .i64 p.K)=(S.set j p).flatMap cW ++ tl
 | q :: S,0,p,_=>by simp [cW]
 | q :: S,j+1,p,h=>by
  have ih:=Y9 tl S j p (by simpa using h);simp only [JE,cW,Jw,Jz,VU] at ih ⊢;rw [show (j+1) * 5=j * 5+1+1+1+1+1 by omega];simp only [VU];rw [<-ih]
theorem box_putW {w:World} {g:Nat} {S:List Wl} {tl:List Value} (h:Box w g (S.flatMap cW ++ tl) 71) {j:Nat} (hj:j < S.length) (p:Wl):Box (((((w.setCell ⟨g,j * 5,none⟩ (.int .i64 p.A.x)).setCell ⟨g,j * 5+1,none⟩ (.int .i64 p.A.y)).setCell ⟨g,j * 5+2,none⟩ (.int .i64 p.B.x)).setCell ⟨g,j * 5+3,none⟩ (.int .i64 p.B.y)).setCell ⟨g,j * 5+4,none⟩ (.int .i64 p.K)) g ((S.set j p).flatMap cW ++ tl) 71:=by
 rw [<-Y9 tl S j p hj];exact ((((h.set _ _).set _ _).set _ _).set _ _).set _ _
theorem ZR {w:World} {g:Nat} {S:List Wl} {tl:List Value} (h:Box w g (S.flatMap cW ++ tl) 71) {j:Nat} (hj:j < S.length):w.cell? ⟨g,j * 5,none⟩=some (.int .i64 S[j].A.x)/\w.cell? ⟨g,j * 5+1,none⟩=some (.int .i64 S[j].A.y)/\w.cell? ⟨g,j * 5+2,none⟩=some (.int .i64 S[j].B.x)/\w.cell? ⟨g,j * 5+3,none⟩=some (.int .i64 S[j].B.y)/\w.cell? ⟨g,j * 5+4,none⟩=some (.int .i64 S[j].K)/\w.frozen? ⟨g,j * 5,none⟩=false/\w.frozen? ⟨g,j * 5+1,none⟩=false/\w.frozen? ⟨g,j * 5+2,none⟩=false/\w.frozen? ⟨g,j * 5+3,none⟩=false/\w.frozen? ⟨g,j * 5+4,none⟩=false/\(w.cell? ⟨g,j * 5,none⟩).isSome=true/\(w.cell? ⟨g,j * 5+1,none⟩).isSome=true/\(w.cell? ⟨g,j * 5+2,none⟩).isSome=true/\(w.cell? ⟨g,j * 5+3,none⟩).isSome=true/\(w.cell? ⟨g,j * 5+4,none⟩).isSome=true:=by
 have hf:=h.f;have e:∀ i,i < 5->w.cell? ⟨g,j * 5+i,none⟩=(cW S[j])[i]? := λi hi=>by
  rw [hf.1,Qa (by rw [zS yS];omega)];exact yL yS S j i S[j] (JG hj) hi
 have e0:=e 0 (by omega);have e1:=e 1 (by omega);have e2:=e 2 (by omega);have e3:=e 3 (by omega);have e4:=e 4 (by omega);refine ⟨e0,e1,e2,e3,e4,hf.2.1 _,hf.2.1 _,hf.2.1 _,hf.2.1 _,hf.2.1 _,by rw [show j * 5=j * 5+0 from rfl,e0];rfl,by rw [e1];rfl,by rw [e2];rfl,by rw [e3];rfl,by rw [e4];rfl⟩
theorem XV (p:Wl->Bool):∀ L:List Wl,(∀ x∈L,p x=false)\/∃ (k:Nat) (hk:k < L.length),p L[k]=true/\∀ (j:Nat) (hj:j < k),p (L[j]'(by omega))=false
 | []=>.inl (by simp)
 | x :: L=>by
  cases hx:p x with
  | true=>exact .inr ⟨0,by simp,hx,λj hj=>absurd hj (Nat.not_lt_zero _)⟩
  | false=>
   rcases XV p L with h | ⟨k,hk,h1,h2⟩
   ·exact .inl (by intro y hy;exact (J1.1 hy).elim (λe=>e▸hx) (h y))
   ·refine .inr ⟨k+1,by simpa using hk,h1,λj hj=>?_⟩;cases j with
    | zero=>exact hx
    | succ j=>exact h2 j (by omega)
theorem idx_miss (p:Wl->Bool) (L:List Wl) (h:∀ x∈L,p x=false):Lib.idxBy (λ_ y=>p y) L default = -1:=by
 have:=Lib.idxBy_miss (λ_ y=>p y) L L.length default (λj hj=>by rw [getElem!_pos L j hj];exact h _ (JX hj))
 rwa [JV (JJ _)] at this
theorem idx_hit (p:Wl->Bool) (L:List Wl) (k:Nat) (hk:k < L.length) (h1:p L[k]=true) (h2:∀ (j:Nat) (hj:j < k),p (L[j]'(by omega))=false):Lib.idxBy (λ_ y=>p y) L default=k:=by
 have:=Lib.idxBy_hit (λ_ y=>p y) L L.length k default hk (JJ _) (by rw [getElem!_pos L k hk];exact h1) (λj hj=>by rw [getElem!_pos L j (by omega)];exact h2 j hj)
 rwa [JV (JJ _)] at this
theorem df_none (p:Wl->Bool) (f:Nat) (lb:Array Value) (eg:∀ args w,(callFunc f args).run prog w=.ok (.enter f args) w) (a:Option Addr) (c:Nat) (L:List Wl) (hL:L.length<=1000000) (hf:Flat a) (hno:∀ x∈L,p x=false) (w:World) (h:RowAt cW 5 w a L) (hp:PredBelow prog f lb (λx=>.agg (cW x).toArray) p w):Calls prog 102 #[.slice a L.length c,.func (.func f) #[] lb] w (Rt w (.slice a L.length c)):=by
 have c1:Calls prog 98 #[.slice a L.length c,.func (.func f) #[] lb] w (Rt w (.int .i64 (-1))):=by
  rcases VS L.length with h0 | h0
  ·rw [h0];exact Xc a c _ w
  ·have:=KX p f lb eg a c L hL w h hf hp h0
   rwa [idx_miss p L hno] at this
 generalize L.length=n at *
 clear hp h hno
 go_enter func102,ntmps102
 go_wp2_with fail;refine c1.mono ?_;rintro e w1 ⟨rfl,hb⟩;go_wp2
 go_ret
 exact ⟨rfl,hb⟩
theorem df_some (p:Wl->Bool) (f:Nat) (lb:Array Value) (eg:∀ args w,(callFunc f args).run prog w=.ok (.enter f args) w) (g n c:Nat) (L:List Wl) (tl:List Value) (hn:L.length=n) (hL:n<=1000000) (hc:n<=c) (hc2:c<=maxLen) (k0:Nat) (hk0:k0 < n) (h1:p (L[k0]'(by omega))=true) (h2:∀ (j:Nat) (hj:j < k0),p (L[j]'(by omega))=false) (w:World) (hg:Box w g (L.flatMap cW ++ tl) 71) (hr:RowAt cW 5 w (some ⟨g,0,none⟩) L) (hp:PredFrm f lb p w g):Calls prog 102 #[.slice (some ⟨g,0,none⟩) n c,.func (.func f) #[] lb] w λe w'=>∃ m,m<=n/\e=.returned (.slice (some ⟨g,0,none⟩) m c)/\m=(L.filter λx => !p x).length/\Box w' g ((L.filter λx => !p x).flatMap cW ++ (zN (n - m) ++ tl)) 71/\Frm w w' (· = g):=by
 have c1:Calls prog 98 #[.slice (some ⟨g,0,none⟩) n c,.func (.func f) #[] lb] w (Rt w (.int .i64 (k0:Int))):=by
  have:=KX p f lb eg (some ⟨g,0,none⟩) c L (by omega) w hr (λad e=>by cases e;rfl) hp.below (by omega)
  rwa [idx_hit p L k0 (by omega) h1 h2,hn] at this
 have hmx:c<=9223372036854775807:=by unfold maxLen at hc2;omega
 have hst:(L.take (k0+1)).filter (λx => !p x)=L.take k0:=by
  rw [JK (by omega),Qf,Jv (by rw [h1];simp),Qv.2]
  ·simp
  ·intro x hx;obtain ⟨j,hj,rfl⟩:=VX.1 hx;rw [h2 j (by omega)];rfl
 have HST:=hdd hst;have HN:=hdd hn;have HP:=hdd hp;have e0:¬ ((k0:Int) = -1):=by omega
 clear hst hn hr h1 h2 hp
 go_enter func102,ntmps102
 go_wp2_with fail;refine c1.mono ?_;rintro e w1 ⟨rfl,hb⟩;have hg1:=hg.ee hb;have hf1:Frm w w1 (· = g):=Frm.of_below hb;clear hb c1 hg;go_wp2_with fail
 go_loopw [5,6,7] (λvi vj _ wr=>∃ (i j:Nat) (S:List Wl),vi=.int .i64 i/\vj=.int .i64 j/\i < j/\j<=n/\Hi (S.length=n/\S.take i=(L.take j).filter (λx => !p x)/\S.drop j=L.drop j)/\Box wr g (S.flatMap cW ++ tl) 71/\Frm w wr (· = g)) (λ_ vj _ _=>n - (intOf vj).toNat)
 case atStart=>exact ⟨k0,k0+1,L,rfl,by go_num,by omega,hk0,hdd ⟨HN.o,HST.o.symm,rfl⟩,hg1,hf1⟩
 case round=>
  clear hg1 hf1;obtain ⟨i,j,S,rfl,rfl,hij,hj,HS,hg,hfr⟩:=hrel;by_cases hlt:j < n
  ·obtain ⟨hSl,hSt,hSd⟩:=HS.o;have hjS:j < S.length:=by omega
   have hiS:i < S.length:=by omega
   have hjL:j < L.length:=by rw [HN.o];exact hlt
   have hSX:S[j]=L[j]:=by
    have e1:S[j]? = L[j]? := by
     have:=congrArg (λl=>l[0]?) hSd
     simpa using this
    rw [JG hjS,JG hjL] at e1;exact JU e1
   obtain ⟨X,hX⟩:∃ X,S[j]=X:=⟨_,rfl⟩;have hLT:L.take (j+1)=L.take j ++ [X]:=by rw [JK hjL,<-hSX,hX]
   obtain ⟨u0,u1,u2,u3,u4,_⟩:=ZR hg hjS;rw [hX] at u0 u1 u2 u3 u4;have hdr:S.drop (j+1)=L.drop (j+1):=by
    have:=congrArg (List.drop 1) hSd
    simpa [UO] using this
   have HA:p X=true->Hi (S.length=n/\S.take i=(L.take (j+1)).filter (λx => !p x)/\S.drop (j+1)=L.drop (j+1)):=λhp=>hdd ⟨hSl,by rw [hLT,Qf,<-hSt,Jv (by rw [hp];simp)];simp,hdr⟩;have HB:p X=false->Hi ((S.set i X).length=n/\(S.set i X).take (i+1)=(L.take (j+1)).filter (λx => !p x)/\(S.set i X).drop (j+1)=L.drop (j+1)):=λhp=>hdd ⟨by simpa using hSl,by
    rw [hLT,Qf,<-hSt,Jo (by rw [hp];rfl),JK (by simpa using hiS),List.take_set_of_le (JJ i),List.getElem_set_self];rfl,by rw [List.drop_set_of_lt (by omega)];exact hdr⟩
   have HG:=hdd hg;have HFr:=hdd hfr;have HIS:=hdd hiS;have hput:=λ(W:World) (hB:Box W g (S.flatMap cW ++ tl) 71)=>box_putW hB HIS.o X;have hin:i < n:=by omega
   have HPu:=hdd hput;have HS0:=hdd hfr.size;clear hSl hSt hSd hdr hLT hX hSX hjS hiS hjL HS hg hfr hput;have hcall0:=λ(W:World) (hW:Frm w W (· = g))=>HP.o W X hW;cases hq:p X with
   | true=>
    have hcall:∀ W,Frm w W (· = g)->Calls prog f (#[.agg (cW X).toArray] ++ lb) W λe w'=>e=.returned (.bool true)/\Below W W w':=λW hW=>by have:=hcall0 W hW;rwa [hq] at this
    have HAA:=HA hq;clear HA HB hcall0 hq;go_wp2_with (go_at_fn f;refine (hcall _ (HFr.o.trans (Frm.of_below (by go_grown)))).mono ?_;rintro e w2 ⟨rfl,hb2⟩;have BG:=(HG.o.old _).ee hb2;have BV:Box w2 wr [X.A.x,X.A.y,X.B.x,X.B.y,X.K] 71:=(Box.new rfl).ee hb2;have FR:=HFr.o.trans (Frm.of_below ((by go_grown:Below wr wr (wr.alloc (.cells #[X.A.x,X.A.y,X.B.x,X.B.y,X.K] 71))).trans (hb2.mono (by simp))));clear hb2;obtain ⟨v0,v1,v2,v3⟩:=BV.f;obtain ⟨_,_,_,_,_,f0,f1,f2,f3,f4,i0,i1,i2,i3,i4⟩:=ZR BG HIS.o)
    go_roundw
    case rel=>
     refine ⟨_,_,_,_,_,_,_,_,_,_,_,_,_,_,_,_,_,_,_,_,_,_,_,?_,rfl⟩;exact ⟨i,j+1,S,rfl,by go_num,by omega,hlt,HAA,BG,FR⟩
    case measure=>simp [intOf];omega
   | false=>
    have hcall:∀ W,Frm w W (· = g)->Calls prog f (#[.agg (cW X).toArray] ++ lb) W λe w'=>e=.returned (.bool false)/\Below W W w':=λW hW=>by have:=hcall0 W hW;rwa [hq] at this
    have HBB:=HB hq;clear HA HB hcall0 hq;go_wp2_with (go_at_fn f;refine (hcall _ (HFr.o.trans (Frm.of_below (by go_grown)))).mono ?_;rintro e w2 ⟨rfl,hb2⟩;have BG:=(HG.o.old _).ee hb2;have BV:Box w2 wr [X.A.x,X.A.y,X.B.x,X.B.y,X.K] 71:=(Box.new rfl).ee hb2;have FR:=HFr.o.trans (Frm.of_below ((by go_grown:Below wr wr (wr.alloc (.cells #[X.A.x,X.A.y,X.B.x,X.B.y,X.K] 71))).trans (hb2.mono (by simp))));clear hb2;obtain ⟨v0,v1,v2,v3⟩:=BV.f;obtain ⟨_,_,_,_,_,f0,f1,f2,f3,f4,i0,i1,i2,i3,i4⟩:=ZR BG HIS.o)
    go_roundw
    case rel=>
     refine ⟨_,_,_,_,_,_,_,_,_,_,_,_,_,_,_,_,_,_,_,_,_,_,_,?_,rfl⟩;exact ⟨i+1,j+1,S.set i X,by go_num,by go_num,by omega,hlt,HBB,HPu.o _ BG,((((FR.setCell _ rfl _).setCell _ rfl _).setCell _ rfl _).setCell _ rfl _).setCell _ rfl _⟩
    case measure=>simp [intOf];omega
  ·obtain rfl:j=n:=by omega
   obtain ⟨hSl,hSt,hSd⟩:=HS.o;have hti:((S.take i).flatMap cW).length=i * 5:=by rw [zS yS,Jc];omega
   have hLt:L.take j=L:=JV (by rw [HN.o];omega);rw [hLt] at hSt;have hmi:i=(L.filter (λx => !p x)).length:=by rw [<-hSt,Jc];omega
   have hSf:S.take i=L.filter (λx => !p x):=hSt;have hcl:=λ(ty:TypeId) (cs:Nat)=>YN ty g (i * 5) (j - i) cs _ (by omega) hg (by rw [JC,zS yS];omega);have e2:(S.flatMap cW ++ tl).take (i * 5) ++ zN (j - i) ++ (S.flatMap cW ++ tl).drop (i * 5+(j - i) * 5)=(L.filter (λx => !p x)).flatMap cW ++ (zN (j - i) ++ tl):=by
    have eS:S.flatMap cW ++ tl=(S.take i).flatMap cW ++ ((S.drop i).flatMap cW ++ tl):=by rw [<-JL,<-Je,Jj]
    have eD:((S.drop i).flatMap cW).length=(j - i) * 5:=by rw [zS yS,Ja,hSl]
    rw [eS,<-hSf,<-hti,Vh,QR,<-eD,List.drop_left,JL]
   rw [e2] at hcl;obtain ⟨R,hR⟩:∃ R:Array Value,R=((L.filter (λx => !p x)).flatMap cW ++ (zN (j - i) ++ tl)).toArray:=⟨_,rfl⟩;have hB2:Box (wr.setRow g R) g ((L.filter (λx => !p x)).flatMap cW ++ (zN (j - i) ++ tl)) 71:=by rw [hR];exact hg.setRow
   have hF2:Frm w (wr.setRow g R) (· = g):=⟨hfr.os,hfr.tape,hfr.output,by simpa [World.setRow] using hfr.size,λk hk hn=>by rw [setRow_other _ _ _ _ hn];exact hfr.block k hk hn⟩;rw [<-hR] at hcl;have HE:=hdd (And.intro hmi (And.intro hB2 hF2));clear hR e2 hSf hti hSl hSt hSd HS hg hfr hB2 hF2 hmi;have hci:¬ (c=i):=by omega
   have hin:i<=j:=by omega
   have hic:(i:Int)<=(c:Int):=by omega
   have hin2:(i:Int)<=(j:Int):=by omega
   have hjj:¬ ((j:Int) < (j:Int)):=by omega
   go_wp2
   go_ret
   exact ⟨i,hin,rfl,HE.o⟩
theorem df_any (p:Wl->Bool) (f:Nat) (lb:Array Value) (eg:∀ args w,(callFunc f args).run prog w=.ok (.enter f args) w) (B:Nat) (v:Value) (L:List Wl) (hL:L.length<=1000000) (w:World) (h:WRow w B v L) (hp0:PredBelow prog f lb (λx=>.agg (cW x).toArray) p w) (hp:∀ g,v.ownBlock=some g->PredFrm f lb p w g):Calls prog 102 #[v,.func (.func f) #[] lb] w λe w'=>∃ v',e=.returned v'/\WRow w' B v' (L.filter λx => !p x)/\v'.ownBlock=v.ownBlock/\Frm w w' (λk=>v.ownBlock=some k):=by
 rcases XV p L with hno | ⟨k,hk,h1,h2⟩
 ·obtain ⟨a,c,hv,hr,hf⟩:=h.row;have hfl:L.filter (λx => !p x)=L:=Qv.2 λx hx=>by rw [hno x hx];rfl
  rw [hfl];have:=df_none p f lb eg a c L hL hf hno w hr hp0;rw [<-hv] at this;refine this.mono ?_;rintro e w' ⟨rfl,hb⟩;exact ⟨v,rfl,h.ee hb,rfl,Frm.of_below hb⟩
 ·rcases h.box with ⟨_,e⟩ | ⟨g,c,tl,hv,hB,hg,hc,hc2,htl⟩
  ·subst e;simp at hk
  ·obtain ⟨a,c',hv2,hr,_⟩:=h.row;rw [hv] at hv2;simp only [Value.slice.injEq,true_and] at hv2;obtain ⟨rfl,rfl⟩:=hv2;subst hv;refine (df_some p f lb eg g L.length c L tl rfl hL hc hc2 k hk h1 h2 w hg hr (hp g rfl)).mono ?_;rintro e w' ⟨m,hm,rfl,hmL,hb,hfr⟩;refine ⟨_,rfl,?_,rfl,⟨hfr.os,hfr.tape,hfr.output,hfr.size,λk hk hn=>hfr.block k hk (λe=>hn (by rw [e];rfl))⟩⟩;rw [hmL];refine WRow.of_box hB hb (by omega) hc2 ?_;rw [JC,tx,htl];omega
def gone (V X:Wl):Bool:=decide (cmpP X.B V.A<=0)
theorem XO (X V:Wl) (bv:Nat) (w:World) (Hv:Box w bv [V.A.x,V.A.y,V.B.x,V.B.y,V.K] 71):Calls prog 103 #[.agg #[X.A.x,X.A.y,X.B.x,X.B.y,X.K],pt0 bv] w (Rt w (.bool (gone V X))):=by
 have c1:=zo X.B V.A;unfold gone;generalize cmpP X.B V.A=z at *
 go_enter func103,ntmps103
 have Fh:=Hv.f;go_wp2_with fail;clear Fh;refine qE1 λW1 Bx hw=>?_;have BV:Box W1 bv [V.A.x,V.A.y,V.B.x,V.B.y,V.K] 71:=Hv.ee hw;refine qC2 (c1 _) Bx BV hw λw2 Bx BV hw GY=>?_;go_wp2
 go_ret
 exact ⟨yO rfl,by have hl:=hw.size;go_grown⟩
theorem tT:∀ args w,(callFunc 103 args).run prog w=.ok (.enter 103 args) w:=enters_of func103 (by kernel_rfl) rfl
theorem XN (V:Wl) (bv g:Nat) (w:World) (Hv:Box w bv [V.A.x,V.A.y,V.B.x,V.B.y,V.K] 71) (hne:bv≠g):PredFrm 103 #[pt0 bv] (λx=>gone V x) w g:=λW x hf=>
 XO x V bv W (hf.box Hv hne)
theorem tU (V:Wl) (bv:Nat) (w:World) (Hv:Box w bv [V.A.x,V.A.y,V.B.x,V.B.y,V.K] 71):PredBelow prog 103 #[pt0 bv] (λx=>.agg (cW x).toArray) (λx=>gone V x) w:=λW x hb=>
 (XO x V bv W (Hv.ee hb)).mono λ_ _ ⟨he,hx⟩=>⟨he,(upB hb hx)⟩
end
section
open Go.Lib
def opn (L:List Wl):List Wl:=L.foldl (λo x=>o.filter (λy => !gone x y) ++ [x]) []
theorem opn_snoc (L:List Wl) (x:Wl):opn (L ++ [x])=(opn L).filter (λy => !gone x y) ++ [x]:=by unfold opn;rw [UQ];rfl
theorem Yu:∀ (L o:List Wl),(L.foldl (λo x=>o.filter (λy => !gone x y) ++ [x]) o).length<=o.length+L.length
 | [],o=>by simp
 | x :: L,o=>by
  have h1:=Yu L (o.filter (λy => !gone x y) ++ [x]);have h2:=Qn (λy => !gone x y) o;simp only [List.foldl_cons,JW,JC,Qs] at *;omega
theorem opn_len (L:List Wl):(opn L).length<=L.length:=by have:=Yu L [];simpa [opn] using this
def hitB (L:List Wl) (x:Wl):Bool:=((opn L).filter (λy => !gone x y)).any λy=>bar1 y x
theorem tangled_any (a:Option Addr) (c:Nat) (L:List Wl) (hL:L.length < 1000000) (b:Bool) (hb:b=true↔∃ (k:Nat) (h:k < L.length),hitB (L.take k) L[k]=true) (w:World) (h:RowAt cW 5 w a L):Calls prog 53 #[.slice a L.length c] w (Rt w (.bool b)):=by
 obtain ⟨n,hn1⟩:∃ n,L.length=n:=⟨_,rfl⟩;have hn:n < 1000000:=hn1▸hL;have H1:=hdd hn1;have HB:=hdd hb;rw [hn1];clear hL hb hn1
 go_enter func53,ntmps53
 go_wp2
 go_loopw [3,5,8] (λvl _ vi wr=>∃ k:Nat,vi=.int .i64 k/\k<=n/\Hi (∀ (i:Nat) (hi:i < L.length),i < k->hitB (L.take i) L[i]=false)/\WRow wr w.heap.size vl (opn (L.take k))/\Below w w wr) (λ_ _ vi _=>n - (intOf vi).toNat)
 case atStart=>exact ⟨0,rfl,Jl _,hdd (λi _ h=>absurd h (Nat.not_lt_zero _)),WRow.nil0 _ _,Below.refl _ _⟩
 case round=>
  obtain ⟨k,rfl,hk,HF,hown,hwr⟩:=hrel;by_cases hlt:k < n
  ·have hkL:k < L.length:=by rw [H1.o];exact hlt
   obtain ⟨ad,A,ea,eA,hA⟩:=(h.ee hwr).five (j:=k) hkL;have HY:Hi (hitB (L.take k) L[k]=true->b=true):=hdd (λe=>HB.o.2 ⟨k,hkL,e⟩);have HN:Hi (hitB (L.take k) L[k]=false->∀ (i:Nat) (hi:i < L.length),i < k+1->hitB (L.take i) L[i]=false):=hdd (λe i hi hik=>by
    by_cases ek:i=k
    ·subst ek;exact e
    ·exact HF.o i hi (by omega))
   have HS:Hi (opn (L.take (k+1))=(opn (L.take k)).filter (λy => !gone L[k] y) ++ [L[k]]):=hdd (by rw [JK hkL,opn_snoc]);have hO:(opn (L.take k)).length<=1000000:=JY (opn_len _) (by rw [Jc];omega);have hO3:((opn (L.take k)).filter (λy => !gone L[k] y)).length<=1000000:=JY (Qn _ _) hO;cases hbar:hitB (L.take k) L[k] with
   | true=>
    have HT:=hdd (HY.o hbar);unfold hitB at hbar;generalize opn (L.take k)=O at *
    clear HY HN HS HF;generalize L[k]=X at *
    generalize hO2:O.filter (λy => !gone X y)=O2 at *
    obtain ⟨t0,t1,t2,t3,t4,t5⟩:=hA.f;subst ea;have HO:=hdd hown;have HW:=hdd hwr;have hlt0:=hown.lt;go_wp2_with fail;refine zI λW2 hW=>?_;have BX2:Box W2 wr [X.A.x,X.A.y,X.B.x,X.B.y,X.K] 71:=by rw [hW];exact Box.new rfl
    have hown2:WRow W2 w.heap.size u3 O:=by rw [hW];exact HO.o.alloc _
    have hw2:Below w w W2:=by have hl:=HW.o.size;have hwr:=HW.o;rw [hW];go_grown
    have hs2:W2.heap.size=wr.heap.size+1:=by rw [hW];simp
    clear hW t0 t1 t2 t3 t4 t5 hA;refine (df_any (λx=>gone X x) 103 _ tT w.heap.size u3 O hO W2 hown2 (tU X _ W2 BX2) (λg e=>XN X _ g W2 BX2 (by have:=(hlt0 g e).2;omega))).mono ?_;rintro e w3 ⟨v3,rfl,hown3,hvo,hfr3⟩;have BX3:Box w3 wr [X.A.x,X.A.y,X.B.x,X.B.y,X.K] 71:=hfr3.box BX2 (λe=>by have:=(hlt0 _ e).2;omega);have hw3:Below w w w3:=hw2.trans (hfr3.below (λk e=>(hlt0 k e).1) hw2.size);have hs3:wr.heap.size+1<=w3.heap.size:=by have:=hfr3.size;omega
    have hlt3:∀ q,v3.ownBlock=some q->q < wr.heap.size:=λq hq=>(hlt0 q (by rw [<-hvo];exact hq)).2;obtain ⟨a3,c3,hv3,hr3,hf3⟩:=hown3.row;rw [hO2] at hown3 hr3 hv3;have cb:=uq X a3 c3 O2.length O2 rfl hO3 hf3 w3 hr3;rw [hbar,<-hv3] at cb;clear hfr3 hown2 hw2 BX2 hvo hr3 hf3 hv3 hlt0;obtain ⟨z0,z1,z2,z3⟩:=BX3.f;go_wp2_with fail;refine cb.mono ?_;rintro e w4 ⟨rfl,hb4⟩;have BX4:=BX3.ee hb4;have hw4:=(upB hw3 hb4);have hown4:=hown3.ee hb4;have hs4:=JY hs3 hb4.size;clear hb4 cb BX3 hw3 hown3 z0 z1 z2 z3 hs3;obtain ⟨z0,z1,z2,z3⟩:=BX4.f;go_wp2
    go_ret
    exact ⟨by rw [HT.o];rfl,hw4⟩
   | false=>
    have HNF:=hdd (HN.o hbar);unfold hitB at hbar;generalize opn (L.take k)=O at *
    clear HY HN HF;generalize L[k]=X at *
    generalize hO2:O.filter (λy => !gone X y)=O2 at *
    obtain ⟨t0,t1,t2,t3,t4,t5⟩:=hA.f;subst ea;have HO:=hdd hown;have HW:=hdd hwr;have hlt0:=hown.lt;go_wp2_with fail;refine zI λW2 hW=>?_;have BX2:Box W2 wr [X.A.x,X.A.y,X.B.x,X.B.y,X.K] 71:=by rw [hW];exact Box.new rfl
    have hown2:WRow W2 w.heap.size u3 O:=by rw [hW];exact HO.o.alloc _
    have hw2:Below w w W2:=by have hl:=HW.o.size;have hwr:=HW.o;rw [hW];go_grown
    have hs2:W2.heap.size=wr.heap.size+1:=by rw [hW];simp
    clear hW t0 t1 t2 t3 t4 t5 hA;refine (df_any (λx=>gone X x) 103 _ tT w.heap.size u3 O hO W2 hown2 (tU X _ W2 BX2) (λg e=>XN X _ g W2 BX2 (by have:=(hlt0 g e).2;omega))).mono ?_;rintro e w3 ⟨v3,rfl,hown3,hvo,hfr3⟩;have BX3:Box w3 wr [X.A.x,X.A.y,X.B.x,X.B.y,X.K] 71:=hfr3.box BX2 (λe=>by have:=(hlt0 _ e).2;omega);have hw3:Below w w w3:=hw2.trans (hfr3.below (λk e=>(hlt0 k e).1) hw2.size);have hs3:wr.heap.size+1<=w3.heap.size:=by have:=hfr3.size;omega
    have hlt3:∀ q,v3.ownBlock=some q->q < wr.heap.size:=λq hq=>(hlt0 q (by rw [<-hvo];exact hq)).2;obtain ⟨a3,c3,hv3,hr3,hf3⟩:=hown3.row;rw [hO2] at hown3 hr3 hv3;have cb:=uq X a3 c3 O2.length O2 rfl hO3 hf3 w3 hr3;rw [hbar,<-hv3] at cb;clear hfr3 hown2 hw2 BX2 hvo hr3 hf3 hv3 hlt0;obtain ⟨z0,z1,z2,z3⟩:=BX3.f;go_wp2_with fail;refine cb.mono ?_;rintro e w4 ⟨rfl,hb4⟩;have BX4:=BX3.ee hb4;have hw4:=(upB hw3 hb4);have hown4:=hown3.ee hb4;have hs4:=JY hs3 hb4.size;clear hb4 cb BX3 hw3 hown3 z0 z1 z2 z3 hs3;obtain ⟨z0,z1,z2,z3⟩:=BX4.f;have hbs:w.heap.size<=w4.heap.size:=hw4.size;have hl5:=λq hq=>(hown4.lt q hq).1;have HW4:=hdd hw4;have HB4:=hdd hbs;go_wp2_with (at_builtin;refine jQ rfl _ _ rfl w.heap.size _ O2 rfl (hown4.alloc _) w4.heap.size X rfl (Box.new rfl) hO3 (by have:=HB4.o;simp;omega) ?_;intro w5 v5 hown5 hg5 hn5)
    have hw5:=(HW4.o.alloc HB4.o (.cells #[X.A.x,X.A.y,X.B.x,X.B.y,X.K] 71)).grown hg5 (by have:=HB4.o;simp;omega) hl5;clear hg5 hl5 z0 z1 z2 z3;go_wp2
    go_roundw
    case rel=>exact ⟨k+1,by go_num,hlt,HNF,by rw [HS.o];exact hown5,hw5⟩
    case measure=>simp [intOf];omega
  ·obtain rfl:k=n:=by omega
   have HT:Hi (b=false):=hdd (by
    cases hb:b with
    | false=>rfl
    | true=>
     obtain ⟨i,hi,e⟩:=HB.o.1 hb;have:=HF.o i hi (by rw [H1.o] at hi;exact hi);rw [e] at this;cases this)
   go_wp2
   go_ret
   exact ⟨by rw [HT.o];rfl,hwr⟩
end
section
open Go.Lib
theorem unm_enter:∀ args w,(callFunc 49 args).run prog w=.ok (.enter 49 args) w:=enters_of func49 (by kernel_rfl) rfl
theorem unm_pred (w:World):PredBelow prog 49 #[] (λx=>.agg (cW x).toArray) unm w:=λW x hb=>
 (ZU x W).mono λ_ _ ⟨he,hx⟩=>⟨he,(upB hb hx)⟩
theorem new_ok (a:Option Addr) (c:Nat) (L:List Wl) (hL:L.length < 1000000) (hf:Flat a) (hz:a=none->L=[]) (S:List Wl) (hS:srt cmpW L=S) (b1:Bool) (h1:b1=false) (hb1:b1=true↔∃ (i:Nat) (h:i+1 < S.length),adjB S[i] S[i+1]=true) (b2:Bool) (h2:b2=false) (hb2:b2=true↔∃ (k:Nat) (h:k < S.length),hitB (S.take k) S[k]=true) (hu:L.any unm=false) (w:World) (h:RowAt cW 5 w a L):Calls prog 23 #[.slice a L.length c] w λe w'=>∃ sb v,e=.returned (.tuple #[pt0 sb,()])/\Box w' sb [v] 74/\WRow w' w.heap.size v S/\w.heap.size<=sb/\v.ownBlock≠some sb/\Below w w w':=by
 go_enter func23,ntmps23
 have c1:=Xd unm _ #[] unm_enter a c L (by omega) w h hf (unm_pred w);rw [hu] at c1;have hlen:(srt cmpW L).length=L.length:=(zU (c:=cmpW) L).length_eq;rw [hS] at hlen;have c2:=λ(W:World) (hW:Below w w W)=>tm a c L (by omega) W (h.ee hW) hf hz;have c3:=λ(v:Value) (W:World) (hr:WRow W w.heap.size v L)=>Zb w.heap.size v L (by omega) W hr;rw [hS] at c3;have hSL:S.length < 1000000:=by omega
 have HLE:=hdd hlen;generalize L.length=n at *
 clear hL h hf hz;go_wp2_with fail;refine c1.mono ?_;rintro e w1 ⟨rfl,hw1⟩;go_wp2_with fail;refine (c2 w1 hw1).mono ?_;rintro e w2 ⟨v2,rfl,hr2,hb2'⟩;have hw2:=(upB hw1 hb2');have hr2':=hr2.base hw1.size;go_wp2_with fail;refine (c3 v2 w2 hr2').mono ?_;rintro e w3 ⟨rfl,hg3,hr3⟩;have hw3:Below w w w3:=(Frm.of_below hw2 (p:=λ_=>False)).trans2 (Frm.of_grown hg3 (p:=λk=>v2.ownBlock=some k) (λg e=>e)) (λk e hk=>by have:=(hr2.lt k e).1;have:=hw1.size;omega) |>.below (λk e=>e.elim) (JJ _)
 obtain ⟨a3,n3,hv3,hr3a,hf3⟩:=hr3.row;have c4:=λ(W:World) (hW:Below w3 w3 W)=>twice_any a3 n3 S (by omega) b1 hb1 W (hr3a.ee hW);have c5:=λ(W:World) (hW:Below w3 w3 W)=>tangled_any a3 n3 S (by omega) b2 hb2 W (hr3a.ee hW);simp only [<-hv3] at c4 c5;clear hr2 hr2' hg3 c1 c2 c3 hb2' hr3a hf3;obtain ⟨av,nv,cv,rfl⟩:=hr3.form;clear hv3;go_wp2_with fail;rw [h1] at c4;rw [h2] at c5;refine (c4 w3 (Below.refl _ _)).mono ?_;rintro e w4 ⟨rfl,hb4⟩;go_wp2_with fail;refine (c5 w4 hb4).mono ?_;rintro e w5 ⟨rfl,hb5⟩;have hb35:=(upB hb4 hb5);have hw5:=(upB hw3 hb35);have hr5:=hr3.ee hb35;have hsz:=hw5.size;have hlt5:∀ q,(Value.slice av nv cv).ownBlock=some q->q < w5.heap.size:=λq hq=>(hr5.lt q hq).2;go_wp2_with fail;refine bodyPost_ret (v:=.tuple #[pt0 w5.heap.size,()]) (by simp [results,results23,go_sem]) rfl ⟨w5.heap.size,_,rfl,Box.new rfl,WRow.alloc hr5 _,hsz,λe=>by have:=hlt5 _ e;omega,by have hl:=hw5.size;go_grown⟩
end
section
open Go.Lib
theorem qX {w:World} {b:Nat} {L:List Wl} (h:Box w b (L.flatMap cW) 71):RowAt cW 5 w (some ⟨b,0,none⟩) L:=λj x hj=>by
 have hl:=JR.1 hj;refine ⟨_,rfl,h.lt,λi u hu=>?_⟩;have hi:i < 5:=(JR.1 hu).1;rw [Addr.add_lit,Addr.add_lit,h.f.1,QJ,yL yS L j i x hj hi];exact hu
theorem kn (b o:Nat):Flat (some ⟨b,o,none⟩):=λad e=>by cases e;rfl
theorem iff_no {p:Prop} (h:¬ p):false=true↔p:=⟨λh=>(by cases h),λe=>absurd e h⟩
def pA:Pt:=⟨0,0⟩
def pM:Pt:=⟨1,0⟩
end
end
end Go.Proofs.YthhcehmmglmlfaaGreat
