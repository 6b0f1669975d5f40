/- Put together: TrN, TrR, SortQ. -/
import Derived.Test.YtogffkimgmlilaaGreatPfb20
set_option maxRecDepth 100000
set_option maxHeartbeats 8000000
set_option linter.all false
namespace Go.Proofs.YtogffkimgmlilaaGreat
open _root_.Go.Proofs.Tryz
section
open Go.RowKit
theorem zMq {M:Tri3} {p:Pt} (hM:valT M=true) (vp:vld p=true):hasP M p=true↔0≤det M.A M.B p∧0≤det M.B M.C p∧0≤det M.C M.A p:=by
 obtain ⟨va,vb,vc,hD⟩:=zFk hM;unfold hasP;rw [hM,vp,jCp,jCp];simp only [jA3,jA4,(zOu va vb vp).2.1,(zOu vb vc vp).2.1,(zOu vc va vp).2.1]
end
section
open Go.RowKit Go.Sort
attribute [local go_sem] rOper rAt rUpon cell_set sg_i64 sg_u64 alloc_cell alloc_frozen
attribute [local go_sem 10000] pt_eql pt_neq
attribute [local irreducible] rWalk
theorem zEl:(prog.info? 54).map (fun i=>(i.zero,i.size,i.bytes))=some (some (.agg #[(),()]),2,16):=by kernel_rfl
theorem zH5 {w:World} {B g n cap:Nat} {xs tl:List Value} {T:TypeId} (h:Box w g (xs ++ tl) T) (hB:B≤g) (hl:xs.length=n * 2) (hn:n≤cap) (hc:cap≤maxLen) (ht:tl.length=(cap - n) * 2):w.ownsRow B T 2 (.slice (some ⟨g,0,none⟩) n cap) n xs:=by
 refine ⟨hl,Or.inr ⟨g,cap,(xs ++ tl).toArray,rfl,hB,h,hn,hc,?_,?_⟩⟩
 ·simp [hl,ht];omega
 ·simp [←hl]
theorem zLj {w:World} {ops:Array Oper} {rest:List Oper} {o:Oper} {a:Act} {Q:Exit→Act→World→Prop} (hgd:o.guard=none) (s x:Operand) (ho:o.op=.call { callee:=.builtin .append,args:=#[s,x],argTypes:=#[62,62] }) (B n:Nat) (v:Value) (xs:List Value) (hs:a.eval s=v) (hown:w.ownsRow B 54 2 v n xs) (bx:Nat) (p:Pt) (hx:a.eval x=.slice (some ⟨bx,0,none⟩) 1 1) (hbx:Box w bx [p.x,p.y] 54) (hn:n≤1000000) (hbase:B≤w.heap.size) (h:∀ w' g cap tl,B≤g→Box w' g (xs ++ .int .i64 p.x :: .int .i64 p.y :: tl) 54→n+1≤cap→cap≤maxLen→tl.length=(cap - (n+1)) * 2→w.grownBy w' v.ownBlock→wpList prog ops Q rest (a.put o.dst (.slice (some ⟨g,0,none⟩) (n+1) cap)) w'):wpList prog ops Q (o :: rest) a w:=by
 obtain ⟨i0,hi,hz0,hz1,hz2⟩:=info_parts zEl;refine wpList_append_own w hgd s x 62 ho B 54 i0 _ 2 16 underlying62 hi hz0 hz1 hz2 rfl (by decide) v n xs hs hown ⟨bx,0,none⟩ 1 1 [p.x,p.y] hx rfl ?_ ?_ ?_ ?_ hbase ?_
 ·intro j u hj;have:=hbx.f.1
  match j,hj with
  | 0,hj=>simp at hj;subst hj;simp [Addr.add,this]
  | 1,hj=>simp at hj;subst hj;simp [Addr.add,this]
 ·intro u hu;simp at hu;rcases hu with rfl | rfl <;> rfl
 ·unfold maxLen;omega
 ·omega
 ·intro v' w' hown' hg _;obtain ⟨hl,⟨_,h0⟩ | ⟨g,cap,cur,rfl,hB,hb,h1,h2,h3,h4⟩⟩:=hown'
  ·omega
  ·refine h w' g cap (cur.toList.drop ((n+1) * 2)) hB ?_ h1 h2 ?_ hg
   ·unfold Box;rw [hb];have e:xs ++ .int .i64 p.x :: .int .i64 p.y :: cur.toList.drop ((n+1) * 2)=cur.toList:=by
     rw [show xs ++ .int .i64 p.x :: .int .i64 p.y :: cur.toList.drop ((n+1) * 2)=(xs ++ [.int .i64 p.x,.int .i64 p.y]) ++ cur.toList.drop ((n+1) * 2) by simp,←h4,jBu]
    rw [e]
   ·rw [jBm,jEe,h3,Nat.sub_mul]
end
section
open Go.RowKit Go.Sort
attribute [local go_sem] rOper rAt rUpon cell_set sg_i64 sg_u64 alloc_cell alloc_frozen
attribute [local go_sem 10000] pt_eql pt_neq tri_eql
attribute [local irreducible] rWalk
def Two (w:World) (A:Addr) (p:Pt):Prop:=A.block < w.heap.size∧w.cell? A=some (.int .i64 p.x)∧w.cell? ⟨A.block,A.off+1,none⟩=some (.int .i64 p.y)
theorem RowAt.two {w:World} {a:Option Addr} {L:List Pt} (h:RowAt cP 2 w a L) {j:Nat} (hj:j < L.length):∃ ad A,a=some ad∧ad.add (j * 2)=A∧Two w A L[j]:=by
 obtain ⟨ad,A,h1,h2,_,h4,h5⟩:=h.pt hj;exact ⟨ad,A,h1,h2,h4,h5⟩
theorem Two.ext {w w':World} {A:Addr} {p:Pt} {n:Nat} (h:Two w A p) (hb:Below n w w') (hn:n=w.heap.size):Two w' A p:=by
 obtain ⟨h0,h1,h2⟩:=h;have e:∀ q:Addr,q.block=A.block→w'.cell? q=w.cell? q:=fun q hq=>hb.cell (by rw [hq,hn];exact h0);exact ⟨jBj h0 hb.size,(e A rfl).trans h1,(e ⟨A.block,A.off+1,none⟩ rfl).trans h2⟩
theorem Two.ee {w w':World} {A:Addr} {p:Pt} (h:Two w A p) (hb:Below w w w'):Two w' A p:=h.ext hb rfl
theorem Two.f {w:World} {A:Addr} {p:Pt} (h:Two w A p):(A.block=w.heap.size)=False∧w.cell? A=some (.int .i64 p.x)∧w.cell? ⟨A.block,A.off+1,none⟩=some (.int .i64 p.y):=⟨by simp;have:=h.1;omega,h.2⟩
theorem Two.cells {w:World} {A:Addr} {p:Pt} (h:Two w A p):(∀ d os,(grow (redrawn w d) os).cell? A=some (.int .i64 p.x))∧(∀ d os,(grow (redrawn w d) os).cell? ⟨A.block,A.off+1,none⟩=some (.int .i64 p.y)):=
 ⟨fun d os=>(h.ext (below_regrown w d os) rfl).2.1,fun d os=>(h.ext (below_regrown w d os) rfl).2.2⟩
theorem Two.set {w:World} {A:Addr} {p:Pt} (h:Two w A p) (q:Addr) (v:Value) (hq:q.block≠A.block):Two (w.setCell q v) A p:=by
 obtain ⟨h0,h1,h2⟩:=h;refine ⟨by simpa using h0,?_,?_⟩
 ·rw [World.cell?_setCell_other (h:=fun e=>hq (by rw [e]))];exact h1
 ·rw [World.cell?_setCell_other (h:=fun e=>hq (by rw [e]))];exact h2
theorem zMw (tl:List Value):∀ (S:List Pt) (j:Nat) (p:Pt),j < S.length→((S.flatMap cP ++ tl).set (j * 2) (.int .i64 p.x)).set (j * 2+1) (.int .i64 p.y)=(S.set j p).flatMap cP ++ tl
 | q :: S,0,p,_=>by simp [cP]
 | q :: S,j+1,p,h=>by
  have ih:=zMw tl S j p (by simpa using h);simp only [jA5,cP,jB9,jBd,jDq] at ih ⊢;rw [show (j+1) * 2=j * 2+1+1 by omega];simp only [jDq];rw [ih]
theorem zDo {w:World} {g:Nat} {S:List Pt} {tl:List Value} (h:Box w g (S.flatMap cP ++ tl) 54) {j:Nat} (hj:j < S.length):w.cell? ⟨g,j * 2,none⟩=some (.int .i64 S[j].x)∧w.cell? ⟨g,j * 2+1,none⟩=some (.int .i64 S[j].y)∧w.frozen? ⟨g,j * 2,none⟩=false∧w.frozen? ⟨g,j * 2+1,none⟩=false:=by
 have hf:=h.f;have e:∀ i,i < 2→(S.flatMap cP ++ tl)[j * 2+i]? = (cP S[j])[i]? := fun i hi=>by
  rw [jCu (by rw [zAf zD1];omega)];exact zB6 zD1 S j i S[j] (jA8 hj) hi
 have e0:=e 0 (by omega);have e1:=e 1 (by omega);refine ⟨by rw [hf.1,show j * 2=j * 2+0 from rfl,e0];rfl,by rw [hf.1,e1];rfl,hf.2.1 _,hf.2.1 _⟩
theorem zJb {w:World} {g:Nat} {S:List Pt} {tl:List Value} (h:Box w g (S.flatMap cP ++ tl) 54) {j:Nat} (hj:j < S.length) (p:Pt):Box ((w.setCell ⟨g,j * 2,none⟩ (.int .i64 p.x)).setCell ⟨g,j * 2+1,none⟩ (.int .i64 p.y)) g ((S.set j p).flatMap cP ++ tl) 54:=by
 rw [←zMw tl S j p hj];exact (h.set (j * 2) _).set (j * 2+1) _
theorem zIm (a0:Option Addr) (c0 n:Nat) (L:List Pt) (hL:Hid (L.length=n)) (hn:n≤500000) (w:World) (h0:RowAt cP 2 w a0 L):Calls prog 65 #[.slice a0 n c0] w fun e w'=>∃ (M:List Pt) (a:Option Addr) (cap:Nat),e=.returned (.slice a M.length cap)∧RowAt cP 2 w' a M∧Rising cmpP M∧(∀ p,p∈M↔p∈L)∧Below w w w':=by
 go_enter func65,ntmps65
 go_wp2
 go_loopw [3,4] (fun vo vi wr=>∃ (k:Nat) (M:List Pt),vi=.int .i64 k∧k≤n∧Hid (Rising cmpP M)∧Hid (∀ p,p∈M↔p∈L.take k)∧M.length≤k∧wr.ownsRow w.heap.size 54 2 vo M.length (M.flatMap cP)∧Below w w wr) (fun _ vi _=>n - (intOf vi).toNat)
 case atStart=>exact ⟨0,[],rfl,jAt _,hdd (by simp [Rising]),hdd (by simp),jA9 _,World.ownsRow_nil _ _ _ _,Below.refl _ _⟩
 case round=>
  obtain ⟨k,M,rfl,hk,hR,hM,hMk,hown,hw⟩:=hrel;by_cases hlt:k < n
  case neg=>
   obtain ⟨a,cap,rfl,_,hr⟩:=zAt zD1 hown;have HM:=hdd (show ∀ p,p∈M↔p∈L by intro p;rw [hM.out p,jAe (by rw [hL.out];omega)]);go_wp2
   go_ret
   exact ⟨M,a,cap,rfl,hr,hR.out,HM.out,hw⟩
  case pos=>
   have hlk:k < L.length:=hL.out▸hlt;obtain ⟨ad,A,ea,eA,hA0⟩:=h0.two hlk;have hA:=hA0.ee hw;obtain ⟨a1,c1,rfl,hc1,hr1⟩:=zAt zD1 hown;have hT:=hdd (show L.take (k+1)=L.take k ++ [L[k]] from jAb hlk);generalize L[k]=x at *
   go_wp2;obtain ⟨W0,rfl⟩:∃ W0,W0=wr:=⟨_,rfl⟩
   go_loopw [5] (fun va wr=>∃ a:Nat,va=.int .i64 a∧a≤M.length∧Hid (∀ (i:Nat) (_:a≤i) (h2:i < M.length),0 < cmpP (M[i]'h2) x)∧Below W0 W0 wr) (fun va _=>(intOf va).toNat)
   case atStart=>exact ⟨M.length,rfl,jA9 _,hdd (fun i h1 h2=>by omega),Below.refl _ _⟩
   case round=>
    obtain ⟨a,rfl,haM,hhi,hw1⟩:=hrel;rcases a with _ | j
    ·have hAT:0≤M.length:=jAt _;have hlo:∀ (i:Nat) (hi:i < 0),cmpP (M[i]'(by omega)) x < 0:=fun i hi=>by omega
     have hhi2:∀ (i:Nat) (_:0≤i) (h2:i < M.length),0 < cmpP (M[i]'h2) x:=fun i h1 h2=>hhi.out i h1 h2;have HHI:=hdd hhi2;clear hhi hhi2;go_wp2;refine rgn 14 (fun w2 hb=>?_);have hw2:=(upB hw1 hb);go_wp2;refine rgn 13 (fun w3 hb3=>?_);have hw3:=(upB hw2 hb3);have hhi2:=HHI.out;have HI:=hdd (rising_insert wholeP hR.out (x:=x) (k:=0) hAT hlo hhi2);obtain ⟨z1,t0,t1⟩:=(hA.ee hw3).f;have own3:=hown.kept (zA6 hw3 none) (by cases a1 <;> simp [Value.ownBlock]);have HB:=hdd (jAp hw.size hw3.size);have hMn:M.length≤1000000:=by omega
     have hw3w:=(upB hw hw3);have hlt0:=fun q hq=>(own3.lt q hq).1;clear hlo hhi2;go_wp2_with (at_builtin;refine zLj rfl _ _ rfl w.heap.size M.length _ (M.flatMap cP) rfl (own3.alloc _) w3.heap.size x rfl (Box.new rfl) hMn (by have:=HB.out;simp;omega) ?_;intro w4 g cap tl hg0 hbx hcp1 hcp2 htl hg4)
     have hw4:=(hw3w.alloc HB.out (.cells #[x.x,x.y] 54)).grown hg4 (by have:=HB.out;simp;omega) hlt0;have hbx2:Box w4 g ((M ++ [x]).flatMap cP ++ tl) 54:=by simpa [cP] using hbx
     clear z1 t0 t1 own3 hg4 hlt0 hbx
     go_loopw [6] (fun vk wr=>∃ (q:Nat) (S:List Pt),vk=.int .i64 q∧0≤q∧q≤M.length∧Hid (Moved M S q)∧Box wr g (S.flatMap cP ++ tl) 54∧Below w w wr) (fun vk _=>(intOf vk).toNat)
     case atStart=>exact ⟨M.length,M ++ [x],by first | rfl | go_num,hAT,jA9 _,hdd (zH8 M x),hbx2,hw4⟩
     case round=>
      clear hbx2 hw4;obtain ⟨q,S,rfl,hq1,hq2,hS,hbS,hwS⟩:=hrel;have hSl:=hS.out.len;by_cases hq:0 < q
      ·rcases q with _ | q
       ·omega
       ·have hqM:q < M.length:=hq2;obtain ⟨u0,u1,_,_⟩:=zDo hbS (j:=q) (by omega);obtain ⟨y0,y1,v0,v1,f0,f1⟩:∃ y0 y1,wr.cell? ⟨g,(q+1) * 2,none⟩=some y0∧wr.cell? ⟨g,(q+1) * 2+1,none⟩=some y1∧wr.frozen? ⟨g,(q+1) * 2,none⟩=false∧wr.frozen? ⟨g,(q+1) * 2+1,none⟩=false:=⟨_,_,zDo hbS (j:=q+1) (by omega)⟩;have eg:S[q]=M[q]:=hS.out.get hqM;have hHS:=hdd (hS.out.step hqM);have hbS2:=zJb hbS (j:=q+1) (by omega) (M[q]'hqM);rw [eg] at u0 u1;have n5:q < M.length+1:=by omega
        have n6:q+1 < M.length+1:=by omega
        have HBS:=hdd hbS2;have HW:=hdd hwS;clear eg hbS2 hwS hS;clear hbS hSl;go_wp2;exact ⟨⟨q,S.set (q+1) (M[q]'hqM),rfl,by omega,by omega,hHS,HBS.out,(HW.out.setCell hg0 _).setCell hg0 _⟩,by simp [intOf]⟩
      ·obtain rfl:q=0:=by omega
       obtain ⟨y0,y1,v0,v1,f0,f1⟩:∃ y0 y1,wr.cell? ⟨g,0,none⟩=some y0∧wr.cell? ⟨g,1,none⟩=some y1∧wr.frozen? ⟨g,0,none⟩=false∧wr.frozen? ⟨g,1,none⟩=false:=⟨_,_,zDo hbS (j:=0) (by omega)⟩;have hbS2:=zJb hbS (j:=0) (by omega) x;rw [hS.out.done hAT x] at hbS2;have HBS:=hdd hbS2;have HW:=hdd ((hwS.setCell (p:=⟨g,0,none⟩) hg0 (.int .i64 x.x)).setCell (p:=⟨g,1,none⟩) hg0 (.int .i64 x.y));obtain ⟨z1,t0,t1⟩:=(hA0.ee hwS).f;have n8:0 < M.length+1:=by omega
       have HLn:=hdd (show (M.take 0 ++ x :: M.drop 0).length=M.length+1 by rw [jAa,jAm,jB3,jBm];omega);have HMB:=hdd (show ∀ p,p∈M.take 0 ++ x :: M.drop 0↔p∈L.take (k+1) by intro p;rw [HI.out.2 p,hM.out p,hT.out];simp);clear hbS2 hwS hbS hS hSl hq;go_wp2;try rw [←ea]
       go_roundw
       case rel=>exact ⟨k+1,M.take 0 ++ x :: M.drop 0,by go_num,by omega,hdd HI.out.1,HMB,by rw [HLn.out];omega,by rw [HLn.out];exact zH5 HBS.out hg0 (by rw [zAf zD1,HLn.out]) hcp1 hcp2 htl,HW.out⟩
       case measure=>simp [intOf];omega
    ·obtain ⟨ad1,A1,ea1,eA1,hB0⟩:=hr1.two (j:=j) (by omega);have hB:=hB0.ee hw1;have hA1:=hA.ee hw1;have hjM:j < M.length:=haM;have cc:=zAe (M[j]'(by omega)) x;have e1:IntKind.i64.wrap (j:Int)=j:=by rw [IntKind.wrap_i64];omega
     by_cases hc:0 < cmpP (M[j]'(by omega)) x
     ·have hd:decide (0 < cmpP (M[j]'(by omega)) x)=true:=by simpa using hc
      have HH:=hdd (show ∀ (i:Nat) (_:j≤i) (h2:i < M.length),0 < cmpP (M[i]'h2) x from fun i h1 h2=>by
       by_cases e:i=j
       ·subst e;exact hc
       ·exact hhi.out i (by omega) h2)
      clear hc hhi;generalize cmpP (M[j]'(by omega)) x=q at *
      obtain ⟨t0,t1⟩:=hA1.cells;obtain ⟨s0,s1⟩:=hB.cells;go_wp2;refine rgn 14 (fun w2 hb=>?_);have hw2:=(upB hw1 hb);have e2:wrap64 (((j+1:Nat):Int) - 1)=j:=by rw [w64];omega
      go_wp2;try rw [←ea1]
      try rw [←ea]
      go_roundw
      case rel=>exact ⟨j,by go_num,by omega,HH,hw2⟩
      case measure=>simp [intOf]
     ·have hd:decide (0 < cmpP (M[j]'(by omega)) x)=false:=by simpa using hc
      by_cases hx:M[j]'hjM=x
      ·skip
       have hp:peqI (M[j]'hjM).x (M[j]'hjM).y x.x x.y=true:=zBe.2 hx;have HMB:=hdd (show ∀ p,p∈M↔p∈L.take (k+1) by
        intro p;rw [hT.out,jAg,←hM.out p];constructor
        ·exact .inl
        ·rintro (h | h)
         ·exact h
         ·simp at h;subst h;rw [←hx];exact jAx hjM)
       clear hc hx hhi;generalize cmpP (M[j]'hjM) x=q at *
       obtain ⟨t0,t1⟩:=hA1.cells;obtain ⟨s0,s1⟩:=hB.cells;go_wp2;refine rgn 14 (fun w2 hb=>?_);have hw2:=(upB hw1 hb);clear t0 t1 s0 s1 hd;obtain ⟨t0,t1⟩:=(hA1.ee hb).cells;obtain ⟨s0,s1⟩:=(hB.ee hb).cells;go_wp2;refine rgn 13 (fun w3 hb3=>?_);have hw3:=(upB hw2 hb3);have own3:=hown.kept (zA6 hw3 none) (by cases a1 <;> simp [Value.ownBlock]);have hw3w:=(upB hw hw3);clear t0 t1 s0 s1 hp cc hb3 hw1 hw2;go_wp2;try rw [←ea1]
       try rw [←ea]
       go_roundw
       case rel=>exact ⟨k+1,M,by go_num,by omega,hR,HMB,by omega,own3,hw3w⟩
       case measure=>simp [intOf];omega
      ·have hlt1:cmpP (M[j]'hjM) x < 0:=by have:=cmpP_eq0 (p:=M[j]'hjM) (q:=x);have:cmpP (M[j]'hjM) x≠0:=fun e=>hx (this.1 e);omega
       have hAT:j+1≤M.length:=hjM;have hlo:∀ (i:Nat) (hi:i < j+1),cmpP (M[i]'(by omega)) x < 0:=rising_below wholeP hR.out hjM hlt1;have hhi2:=fun i h1 h2=>hhi.out i h1 h2;have hp:peqI (M[j]'hjM).x (M[j]'hjM).y x.x x.y=false:=by rw [←jBl,zBe];exact hx
       clear hc hx hlt1 hhi;generalize cmpP (M[j]'hjM) x=q at *
       obtain ⟨t0,t1⟩:=hA1.cells;obtain ⟨s0,s1⟩:=hB.cells;go_wp2;refine rgn 14 (fun w2 hb=>?_);have hw2:=(upB hw1 hb);clear t0 t1 s0 s1 hd;obtain ⟨t0,t1⟩:=(hA1.ee hb).cells;obtain ⟨s0,s1⟩:=(hB.ee hb).cells;go_wp2;refine rgn 13 (fun w3 hb3=>?_);have hw3:=(upB hw2 hb3);clear t0 t1 s0 s1 hp cc;have HI:=hdd (rising_insert wholeP hR.out (x:=x) (k:=(j+1)) hAT hlo hhi2);obtain ⟨z1,t0,t1⟩:=(hA.ee hw3).f;have own3:=hown.kept (zA6 hw3 none) (by cases a1 <;> simp [Value.ownBlock]);rw [ea1] at own3;have HB:=hdd (jAp hw.size hw3.size);have hMn:M.length≤1000000:=by omega
       have hw3w:=(upB hw hw3);have hlt0:=fun q hq=>(own3.lt q hq).1;clear hlo hhi2;go_wp2_with (at_builtin;refine zLj rfl _ _ rfl w.heap.size M.length _ (M.flatMap cP) rfl (own3.alloc _) w3.heap.size x rfl (Box.new rfl) hMn (by have:=HB.out;simp;omega) ?_;intro w4 g cap tl hg0 hbx hcp1 hcp2 htl hg4)
       have hw4:=(hw3w.alloc HB.out (.cells #[x.x,x.y] 54)).grown hg4 (by have:=HB.out;simp;omega) hlt0;have hbx2:Box w4 g ((M ++ [x]).flatMap cP ++ tl) 54:=by simpa [cP] using hbx
       clear z1 t0 t1 own3 hg4 hlt0 hbx
       go_loopw [6] (fun vk wr=>∃ (q:Nat) (S:List Pt),vk=.int .i64 q∧(j+1)≤q∧q≤M.length∧Hid (Moved M S q)∧Box wr g (S.flatMap cP ++ tl) 54∧Below w w wr) (fun vk _=>(intOf vk).toNat)
       case atStart=>exact ⟨M.length,M ++ [x],by first | rfl | go_num,hAT,jA9 _,hdd (zH8 M x),hbx2,hw4⟩
       case round=>
        clear hbx2 hw4;obtain ⟨q,S,rfl,hq1,hq2,hS,hbS,hwS⟩:=hrel;have hSl:=hS.out.len;by_cases hq:(j+1) < q
        ·rcases q with _ | q
         ·omega
         ·have hqM:q < M.length:=hq2;obtain ⟨u0,u1,_,_⟩:=zDo hbS (j:=q) (by omega);obtain ⟨y0,y1,v0,v1,f0,f1⟩:∃ y0 y1,wr.cell? ⟨g,(q+1) * 2,none⟩=some y0∧wr.cell? ⟨g,(q+1) * 2+1,none⟩=some y1∧wr.frozen? ⟨g,(q+1) * 2,none⟩=false∧wr.frozen? ⟨g,(q+1) * 2+1,none⟩=false:=⟨_,_,zDo hbS (j:=q+1) (by omega)⟩;have eg:S[q]=M[q]:=hS.out.get hqM;have hHS:=hdd (hS.out.step hqM);have hbS2:=zJb hbS (j:=q+1) (by omega) (M[q]'hqM);rw [eg] at u0 u1;have n5:q < M.length+1:=by omega
          have n6:q+1 < M.length+1:=by omega
          have HBS:=hdd hbS2;have HW:=hdd hwS;clear eg hbS2 hwS hS;clear hbS hSl;go_wp2;exact ⟨⟨q,S.set (q+1) (M[q]'hqM),rfl,by omega,by omega,hHS,HBS.out,(HW.out.setCell hg0 _).setCell hg0 _⟩,by simp [intOf]⟩
        ·obtain rfl:q=(j+1):=by omega
         obtain ⟨y0,y1,v0,v1,f0,f1⟩:∃ y0 y1,wr.cell? ⟨g,(j+1) * 2,none⟩=some y0∧wr.cell? ⟨g,(j+1) * 2+1,none⟩=some y1∧wr.frozen? ⟨g,(j+1) * 2,none⟩=false∧wr.frozen? ⟨g,(j+1) * 2+1,none⟩=false:=⟨_,_,zDo hbS (j:=(j+1)) (by omega)⟩;have hbS2:=zJb hbS (j:=(j+1)) (by omega) x;rw [hS.out.done hAT x] at hbS2;have HBS:=hdd hbS2;have HW:=hdd ((hwS.setCell (p:=⟨g,(j+1) * 2,none⟩) hg0 (.int .i64 x.x)).setCell (p:=⟨g,(j+1) * 2+1,none⟩) hg0 (.int .i64 x.y));obtain ⟨z1,t0,t1⟩:=(hA0.ee hwS).f;have n8:(j+1) < M.length+1:=by omega
         have HLn:=hdd (show (M.take (j+1) ++ x :: M.drop (j+1)).length=M.length+1 by rw [jAa,jAm,jB3,jBm];omega);have HMB:=hdd (show ∀ p,p∈M.take (j+1) ++ x :: M.drop (j+1)↔p∈L.take (k+1) by intro p;rw [HI.out.2 p,hM.out p,hT.out];simp);clear hbS2 hwS hbS hS hSl hq;go_wp2;try rw [←ea]
         go_roundw
         case rel=>exact ⟨k+1,M.take (j+1) ++ x :: M.drop (j+1),by go_num,by omega,hdd HI.out.1,HMB,by rw [HLn.out];omega,by rw [HLn.out];exact zH5 HBS.out hg0 (by rw [zAf zD1,HLn.out]) hcp1 hcp2 htl,HW.out⟩
         case measure=>simp [intOf];omega
end
end Go.Proofs.YtogffkimgmlilaaGreat
