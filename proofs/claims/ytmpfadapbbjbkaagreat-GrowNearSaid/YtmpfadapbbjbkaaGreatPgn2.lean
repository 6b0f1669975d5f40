import Derived.Maps.OwnSet
import Derived.Lib.SliceRun
import Derived.Test.YtmpfadapbbjbkaaGreatPgn1
import Derived.Deep.LoopGhost
set_option maxRecDepth 100000
set_option maxHeartbeats 8000000
set_option linter.all false
namespace Go.Proofs.YtmpfadapbbjbkaaGreat
open _root_.Go.Proofs.Tryz
section
open Go.RowKit
theorem Z7 {M:Tri3} {p:Pt} (hM:valT M=true) (vp:vld p=true):hasP M p=true↔0<=det M.A M.B p/\0<=det M.B M.C p/\0<=det M.C M.A p:=by
 obtain ⟨va,vb,vc,hD⟩:=qW hM;unfold hasP;rw [hM,vp,Qj,Qj];simp only [Ko,Kn,(Ke va vb vp).2.1,(Ke vb vc vp).2.1,(Ke vc va vp).2.1]
open Go.Sort
attribute [local go_sem] rOper rAt rUpon cell_set sg_i64 sg_u64 alloc_cell alloc_frozen
attribute [local go_sem 10000] pt_eql pt_neq
attribute [local irreducible] rWalk
theorem tJ:(prog.info? 26).map (λi=>(i.zero,i.size,i.bytes))=some (some (.agg #[(),()]),2,16):=by kernel_rfl
theorem vJ {w:World} {B g n cap:Nat} {xs tl:List Value} {T:TypeId} (h:Box w g (xs ++ tl) T) (hB:B<=g) (hl:xs.length=n * 2) (hn:n<=cap) (hc:cap<=maxLen) (ht:tl.length=(cap - n) * 2):w.ownsRow B T 2 (.slice (some ⟨g,0,none⟩) n cap) n xs:=by
 refine ⟨hl,Or.inr ⟨g,cap,(xs ++ tl).toArray,rfl,hB,h,hn,hc,?_,?_⟩⟩
 ·simp [hl,ht];omega
 ·simp [<-hl]
theorem YF {w:World} {ops:Array Oper} {rest:List Oper} {o:Oper} {a:Act} {Q:Exit->Act->World->Prop} (hgd:o.guard=none) (s x:Operand) (ho:o.op=.call { callee:=.builtin .append,args:=#[s,x],argTypes:=#[24,24] }) (B n:Nat) (v:Value) (xs:List Value) (hs:a.eval s=v) (hown:w.ownsRow B 26 2 v n xs) (bx:Nat) (p:Pt) (hx:a.eval x=.slice (some ⟨bx,0,none⟩) 1 1) (hbx:Box w bx [p.x,p.y] 26) (hn:n<=1000000) (hbase:B<=w.heap.size) (h:∀ w' g cap tl,B<=g->Box w' g (xs ++ .int .i64 p.x :: .int .i64 p.y :: tl) 26->n+1<=cap->cap<=maxLen->tl.length=(cap - (n+1)) * 2->w.grownBy w' v.ownBlock->wpList prog ops Q rest (a.put o.dst (.slice (some ⟨g,0,none⟩) (n+1) cap)) w'):wpList prog ops Q (o :: rest) a w:=by
 obtain ⟨i0,hi,hz0,hz1,hz2⟩:=info_parts tJ;refine wpList_append_own w hgd s x 24 ho B 26 i0 _ 2 16 underlying24 hi hz0 hz1 hz2 rfl (by decide) v n xs hs hown ⟨bx,0,none⟩ 1 1 [p.x,p.y] hx rfl ?_ ?_ ?_ ?_ hbase ?_
 ·intro j u hj;have:=hbx.f.1
  match j,hj with
  | 0,hj=>simp at hj;subst hj;simp [Addr.add,this]
  | 1,hj=>simp at hj;subst hj;simp [Addr.add,this]
 ·intro u hu;simp at hu;rcases hu with rfl | rfl <;> rfl
 ·unfold maxLen;omega
 ·omega
 ·intro v' w' hown' hg _;obtain ⟨hl,⟨_,h0⟩ | ⟨g,cap,cur,rfl,hB,hb,h1,h2,h3,h4⟩⟩:=hown'
  ·omega
  ·refine h w' g cap (cur.toList.drop ((n+1) * 2)) hB ?_ h1 h2 ?_ hg
   ·unfold Box;rw [hb];have e:xs ++ .int .i64 p.x :: .int .i64 p.y :: cur.toList.drop ((n+1) * 2)=cur.toList:=by
     rw [show xs ++ .int .i64 p.x :: .int .i64 p.y :: cur.toList.drop ((n+1) * 2)=(xs ++ [.int .i64 p.x,.int .i64 p.y]) ++ cur.toList.drop ((n+1) * 2) by simp,<-h4,Ja]
    rw [e]
   ·rw [JR,VW,h3,Nat.sub_mul]
attribute [local go_sem 10000] tri_eql
def Two (w:World) (A:Addr) (p:Pt):Prop:=A.block < w.heap.size/\w.cell? A=some (.int .i64 p.x)/\w.cell? ⟨A.block,A.off+1,none⟩=some (.int .i64 p.y)
theorem RowAt.two {w:World} {a:Option Addr} {L:List Pt} (h:RowAt cP 2 w a L) {j:Nat} (hj:j < L.length):∃ ad A,a=some ad/\ad.add (j * 2)=A/\Two w A L[j]:=by
 obtain ⟨ad,A,h1,h2,_,h4,h5⟩:=h.pt hj;exact ⟨ad,A,h1,h2,h4,h5⟩
theorem Two.ext {w w':World} {A:Addr} {p:Pt} {n:Nat} (h:Two w A p) (hb:Below n w w') (hn:n=w.heap.size):Two w' A p:=by
 obtain ⟨h0,h1,h2⟩:=h;have e:∀ q:Addr,q.block=A.block->w'.cell? q=w.cell? q:=λq hq=>hb.cell (by rw [hq,hn];exact h0);exact ⟨QI h0 hb.size,(e A rfl).trans h1,(e ⟨A.block,A.off+1,none⟩ rfl).trans h2⟩
theorem Two.ee {w w':World} {A:Addr} {p:Pt} (h:Two w A p) (hb:Below w w w'):Two w' A p:=h.ext hb rfl
theorem Two.f {w:World} {A:Addr} {p:Pt} (h:Two w A p):(A.block=w.heap.size)=False/\w.cell? A=some (.int .i64 p.x)/\w.cell? ⟨A.block,A.off+1,none⟩=some (.int .i64 p.y):=⟨by simp;have:=h.1;omega,h.2⟩
theorem Two.cells {w:World} {A:Addr} {p:Pt} (h:Two w A p):(∀ d os,(grow (redrawn w d) os).cell? A=some (.int .i64 p.x))/\(∀ d os,(grow (redrawn w d) os).cell? ⟨A.block,A.off+1,none⟩=some (.int .i64 p.y)):=
 ⟨λd os=>(h.ext (below_regrown w d os) rfl).2.1,λd os=>(h.ext (below_regrown w d os) rfl).2.2⟩
theorem XE (tl:List Value):∀ (S:List Pt) (j:Nat) (p:Pt),j < S.length->((S.flatMap cP ++ tl).set (j * 2) (.int .i64 p.x)).set (j * 2+1) (.int .i64 p.y)=(S.set j p).flatMap cP ++ tl
 | q :: S,0,p,_=>by simp [cP]
 | q :: S,j+1,p,h=>by
  have ih:=XE tl S j p (by simpa using h);simp only [Ks,cP,Jn,Js,VK] at ih ⊢;rw [show (j+1) * 2=j * 2+1+1 by omega];simp only [VK];rw [ih]
theorem vT {w:World} {g:Nat} {S:List Pt} {tl:List Value} (h:Box w g (S.flatMap cP ++ tl) 26) {j:Nat} (hj:j < S.length):w.cell? ⟨g,j * 2,none⟩=some (.int .i64 S[j].x)/\w.cell? ⟨g,j * 2+1,none⟩=some (.int .i64 S[j].y)/\w.frozen? ⟨g,j * 2,none⟩=false/\w.frozen? ⟨g,j * 2+1,none⟩=false:=by
 have hf:=h.f;have e:∀ i,i < 2->(S.flatMap cP ++ tl)[j * 2+i]? = (cP S[j])[i]? := λi hi=>by
  rw [QR (by rw [zR ta];omega)];exact yL ta S j i S[j] (JC hj) hi
 have e0:=e 0 (by omega);have e1:=e 1 (by omega);refine ⟨by rw [hf.1,show j * 2=j * 2+0 from rfl,e0];rfl,by rw [hf.1,e1];rfl,hf.2.1 _,hf.2.1 _⟩
theorem YC {w:World} {g:Nat} {S:List Pt} {tl:List Value} (h:Box w g (S.flatMap cP ++ tl) 26) {j:Nat} (hj:j < S.length) (p:Pt):Box ((w.setCell ⟨g,j * 2,none⟩ (.int .i64 p.x)).setCell ⟨g,j * 2+1,none⟩ (.int .i64 p.y)) g ((S.set j p).flatMap cP ++ tl) 26:=by
 rw [<-XE tl S j p hj];exact (h.set (j * 2) _).set (j * 2+1) _
theorem rsortP_any (a0:Option Addr) (c0 n:Nat) (L:List Pt) (hL:Hi (L.length=n)) (hn:n<=500000) (w:World) (h0:RowAt cP 2 w a0 L):Calls prog 153 #[.slice a0 n c0] w λe w'=>∃ (M:List Pt) (a:Option Addr) (cap:Nat),e=.returned (.slice a M.length cap)/\RowAt cP 2 w' a M/\Rising cmpP M/\(∀ p,p∈M↔p∈L)/\Below w w w':=by
 go_enter func153,ntmps153
 go_wp2
 go_loopw [3,4] (λvo vi wr=>∃ (k:Nat) (M:List Pt),vi=.int .i64 k/\k<=n/\Hi (Rising cmpP M)/\Hi (∀ p,p∈M↔p∈L.take k)/\M.length<=k/\wr.ownsRow w.heap.size 26 2 vo M.length (M.flatMap cP)/\Below w w wr) (λ_ vi _=>n - (intOf vi).toNat)
 case atStart=>exact ⟨0,[],rfl,JZ _,hdd (by simp [Rising]),hdd (by simp),JA _,World.ownsRow_nil _ _ _ _,Below.refl _ _⟩
 case round=>
  obtain ⟨k,M,rfl,hk,hR,hM,hMk,hown,hw⟩:=hrel;by_cases hlt:k < n
  case neg=>
   obtain ⟨a,cap,rfl,_,hr⟩:=zw ta hown;have HM:=hdd (show ∀ p,p∈M↔p∈L by intro p;rw [hM.o p,JM (by rw [hL.o];omega)]);go_wp2
   go_ret
   exact ⟨M,a,cap,rfl,hr,hR.o,HM.o,hw⟩
  case pos=>
   have hlk:k < L.length:=hL.o▸hlt;obtain ⟨ad,A,ea,eA,hA0⟩:=h0.two hlk;have hA:=hA0.ee hw;obtain ⟨a1,c1,rfl,hc1,hr1⟩:=zw ta hown;have hT:=hdd (show L.take (k+1)=L.take k ++ [L[k]] from JD hlk);generalize L[k]=x at *
   go_wp2;obtain ⟨W0,rfl⟩:∃ W0,W0=wr:=⟨_,rfl⟩
   go_loopw [5] (λva wr=>∃ a:Nat,va=.int .i64 a/\a<=M.length/\Hi (∀ (i:Nat) (_:a<=i) (h2:i < M.length),0 < cmpP (M[i]'h2) x)/\Below W0 W0 wr) (λva _=>(intOf va).toNat)
   case atStart=>exact ⟨M.length,rfl,JA _,hdd (λi h1 h2=>by omega),Below.refl _ _⟩
   case round=>
    obtain ⟨a,rfl,haM,hhi,hw1⟩:=hrel;rcases a with _ | j
    ·have hAT:0<=M.length:=JZ _;have hlo:∀ (i:Nat) (hi:i < 0),cmpP (M[i]'(by omega)) x < 0:=λi hi=>by omega
     have hhi2:∀ (i:Nat) (_:0<=i) (h2:i < M.length),0 < cmpP (M[i]'h2) x:=λi h1 h2=>hhi.o i h1 h2;have HHI:=hdd hhi2;clear hhi hhi2;go_wp2;refine rgn 14 (λw2 hb=>?_);have hw2:=(upB hw1 hb);go_wp2;refine rgn 13 (λw3 hb3=>?_);have hw3:=(upB hw2 hb3);have hhi2:=HHI.o;have HI:=hdd (xP wholeP hR.o (x:=x) (k:=0) hAT hlo hhi2);obtain ⟨z1,t0,t1⟩:=(hA.ee hw3).f;have own3:=hown.kept (zM hw3 none) (by cases a1 <;> simp [Value.ownBlock]);have HB:=hdd (JQ hw.size hw3.size);have hMn:M.length<=1000000:=by omega
     have hw3w:=(upB hw hw3);have hlt0:=λq hq=>(own3.lt q hq).1;clear hlo hhi2;go_wp2_with (at_builtin;refine YF rfl _ _ rfl w.heap.size M.length _ (M.flatMap cP) rfl (own3.alloc _) w3.heap.size x rfl (Box.new rfl) hMn (by have:=HB.o;simp;omega) ?_;intro w4 g cap tl hg0 hbx hcp1 hcp2 htl hg4)
     have hw4:=(hw3w.alloc HB.o (.cells #[x.x,x.y] 26)).grown hg4 (by have:=HB.o;simp;omega) hlt0;have hbx2:Box w4 g ((M ++ [x]).flatMap cP ++ tl) 26:=by simpa [cP] using hbx
     clear z1 t0 t1 own3 hg4 hlt0 hbx
     go_loopw [6] (λvk wr=>∃ (q:Nat) (S:List Pt),vk=.int .i64 q/\0<=q/\q<=M.length/\Hi (Moved M S q)/\Box wr g (S.flatMap cP ++ tl) 26/\Below w w wr) (λvk _=>(intOf vk).toNat)
     case atStart=>exact ⟨M.length,M ++ [x],by first | rfl | go_num,hAT,JA _,hdd (vM M x),hbx2,hw4⟩
     case round=>
      clear hbx2 hw4;obtain ⟨q,S,rfl,hq1,hq2,hS,hbS,hwS⟩:=hrel;have hSl:=hS.o.len;by_cases hq:0 < q
      ·rcases q with _ | q
       ·omega
       ·have hqM:q < M.length:=hq2;obtain ⟨u0,u1,_,_⟩:=vT hbS (j:=q) (by omega);obtain ⟨y0,y1,v0,v1,f0,f1⟩:∃ y0 y1,wr.cell? ⟨g,(q+1) * 2,none⟩=some y0/\wr.cell? ⟨g,(q+1) * 2+1,none⟩=some y1/\wr.frozen? ⟨g,(q+1) * 2,none⟩=false/\wr.frozen? ⟨g,(q+1) * 2+1,none⟩=false:=⟨_,_,vT hbS (j:=q+1) (by omega)⟩;have eg:S[q]=M[q]:=hS.o.get hqM;have hHS:=hdd (hS.o.step hqM);have hbS2:=YC hbS (j:=q+1) (by omega) (M[q]'hqM);rw [eg] at u0 u1;have n5:q < M.length+1:=by omega
        have n6:q+1 < M.length+1:=by omega
        have HBS:=hdd hbS2;have HW:=hdd hwS;clear eg hbS2 hwS hS;clear hbS hSl;go_wp2;exact ⟨⟨q,S.set (q+1) (M[q]'hqM),rfl,by omega,by omega,hHS,HBS.o,(HW.o.setCell hg0 _).setCell hg0 _⟩,by simp [intOf]⟩
      ·obtain rfl:q=0:=by omega
       obtain ⟨y0,y1,v0,v1,f0,f1⟩:∃ y0 y1,wr.cell? ⟨g,0,none⟩=some y0/\wr.cell? ⟨g,1,none⟩=some y1/\wr.frozen? ⟨g,0,none⟩=false/\wr.frozen? ⟨g,1,none⟩=false:=⟨_,_,vT hbS (j:=0) (by omega)⟩;have hbS2:=YC hbS (j:=0) (by omega) x;rw [hS.o.done hAT x] at hbS2;have HBS:=hdd hbS2;have HW:=hdd ((hwS.setCell (p:=⟨g,0,none⟩) hg0 (.int .i64 x.x)).setCell (p:=⟨g,1,none⟩) hg0 (.int .i64 x.y));obtain ⟨z1,t0,t1⟩:=(hA0.ee hwS).f;have n8:0 < M.length+1:=by omega
       have HLn:=hdd (show (M.take 0 ++ x :: M.drop 0).length=M.length+1 by rw [Kp,JO,JV,JR];omega);have HMB:=hdd (show ∀ p,p∈M.take 0 ++ x :: M.drop 0↔p∈L.take (k+1) by intro p;rw [HI.o.2 p,hM.o p,hT.o];simp);clear hbS2 hwS hbS hS hSl hq;go_wp2;try rw [<-ea]
       go_roundw
       case rel=>exact ⟨k+1,M.take 0 ++ x :: M.drop 0,by go_num,by omega,hdd HI.o.1,HMB,by rw [HLn.o];omega,by rw [HLn.o];exact vJ HBS.o hg0 (by rw [zR ta,HLn.o]) hcp1 hcp2 htl,HW.o⟩
       case measure=>simp [intOf];omega
    ·obtain ⟨ad1,A1,ea1,eA1,hB0⟩:=hr1.two (j:=j) (by omega);have hB:=hB0.ee hw1;have hA1:=hA.ee hw1;have hjM:j < M.length:=haM;have cc:=zU (M[j]'(by omega)) x;have e1:IntKind.i64.wrap (j:Int)=j:=by rw [IntKind.wrap_i64];omega
     by_cases hc:0 < cmpP (M[j]'(by omega)) x
     ·have hd:decide (0 < cmpP (M[j]'(by omega)) x)=true:=by simpa using hc
      have HH:=hdd (show ∀ (i:Nat) (_:j<=i) (h2:i < M.length),0 < cmpP (M[i]'h2) x from λi h1 h2=>by
       by_cases e:i=j
       ·subst e;exact hc
       ·exact hhi.o i (by omega) h2)
      clear hc hhi;generalize cmpP (M[j]'(by omega)) x=q at *
      obtain ⟨t0,t1⟩:=hA1.cells;obtain ⟨s0,s1⟩:=hB.cells;go_wp2;refine rgn 14 (λw2 hb=>?_);have hw2:=(upB hw1 hb);have e2:wrap64 (((j+1:Nat):Int) - 1)=j:=by rw [w64];omega
      go_wp2;try rw [<-ea1]
      try rw [<-ea]
      go_roundw
      case rel=>exact ⟨j,by go_num,by omega,HH,hw2⟩
      case measure=>simp [intOf]
     ·have hd:decide (0 < cmpP (M[j]'(by omega)) x)=false:=by simpa using hc
      by_cases hx:M[j]'hjM=x
      ·skip
       have hp:peqI (M[j]'hjM).x (M[j]'hjM).y x.x x.y=true:=yw.2 hx;have HMB:=hdd (show ∀ p,p∈M↔p∈L.take (k+1) by
        intro p;rw [hT.o,JG,<-hM.o p];constructor
        ·exact .inl
        ·rintro (h | h)
         ·exact h
         ·simp at h;subst h;rw [<-hx];exact JP hjM)
       clear hc hx hhi;generalize cmpP (M[j]'hjM) x=q at *
       obtain ⟨t0,t1⟩:=hA1.cells;obtain ⟨s0,s1⟩:=hB.cells;go_wp2;refine rgn 14 (λw2 hb=>?_);have hw2:=(upB hw1 hb);clear t0 t1 s0 s1 hd;obtain ⟨t0,t1⟩:=(hA1.ee hb).cells;obtain ⟨s0,s1⟩:=(hB.ee hb).cells;go_wp2;refine rgn 13 (λw3 hb3=>?_);have hw3:=(upB hw2 hb3);have own3:=hown.kept (zM hw3 none) (by cases a1 <;> simp [Value.ownBlock]);have hw3w:=(upB hw hw3);clear t0 t1 s0 s1 hp cc hb3 hw1 hw2;go_wp2;try rw [<-ea1]
       try rw [<-ea]
       go_roundw
       case rel=>exact ⟨k+1,M,by go_num,by omega,hR,HMB,by omega,own3,hw3w⟩
       case measure=>simp [intOf];omega
      ·have hlt1:cmpP (M[j]'hjM) x < 0:=by have:=zY (p:=M[j]'hjM) (q:=x);have:cmpP (M[j]'hjM) x≠0:=λe=>hx (this.1 e);omega
       have hAT:j+1<=M.length:=hjM;have hlo:∀ (i:Nat) (hi:i < j+1),cmpP (M[i]'(by omega)) x < 0:=rising_below wholeP hR.o hjM hlt1;have hhi2:=λi h1 h2=>hhi.o i h1 h2;have hp:peqI (M[j]'hjM).x (M[j]'hjM).y x.x x.y=false:=by rw [<-QF,yw];exact hx
       clear hc hx hlt1 hhi;generalize cmpP (M[j]'hjM) x=q at *
       obtain ⟨t0,t1⟩:=hA1.cells;obtain ⟨s0,s1⟩:=hB.cells;go_wp2;refine rgn 14 (λw2 hb=>?_);have hw2:=(upB hw1 hb);clear t0 t1 s0 s1 hd;obtain ⟨t0,t1⟩:=(hA1.ee hb).cells;obtain ⟨s0,s1⟩:=(hB.ee hb).cells;go_wp2;refine rgn 13 (λw3 hb3=>?_);have hw3:=(upB hw2 hb3);clear t0 t1 s0 s1 hp cc;have HI:=hdd (xP wholeP hR.o (x:=x) (k:=(j+1)) hAT hlo hhi2);obtain ⟨z1,t0,t1⟩:=(hA.ee hw3).f;have own3:=hown.kept (zM hw3 none) (by cases a1 <;> simp [Value.ownBlock]);rw [ea1] at own3;have HB:=hdd (JQ hw.size hw3.size);have hMn:M.length<=1000000:=by omega
       have hw3w:=(upB hw hw3);have hlt0:=λq hq=>(own3.lt q hq).1;clear hlo hhi2;go_wp2_with (at_builtin;refine YF rfl _ _ rfl w.heap.size M.length _ (M.flatMap cP) rfl (own3.alloc _) w3.heap.size x rfl (Box.new rfl) hMn (by have:=HB.o;simp;omega) ?_;intro w4 g cap tl hg0 hbx hcp1 hcp2 htl hg4)
       have hw4:=(hw3w.alloc HB.o (.cells #[x.x,x.y] 26)).grown hg4 (by have:=HB.o;simp;omega) hlt0;have hbx2:Box w4 g ((M ++ [x]).flatMap cP ++ tl) 26:=by simpa [cP] using hbx
       clear z1 t0 t1 own3 hg4 hlt0 hbx
       go_loopw [6] (λvk wr=>∃ (q:Nat) (S:List Pt),vk=.int .i64 q/\(j+1)<=q/\q<=M.length/\Hi (Moved M S q)/\Box wr g (S.flatMap cP ++ tl) 26/\Below w w wr) (λvk _=>(intOf vk).toNat)
       case atStart=>exact ⟨M.length,M ++ [x],by first | rfl | go_num,hAT,JA _,hdd (vM M x),hbx2,hw4⟩
       case round=>
        clear hbx2 hw4;obtain ⟨q,S,rfl,hq1,hq2,hS,hbS,hwS⟩:=hrel;have hSl:=hS.o.len;by_cases hq:(j+1) < q
        ·rcases q with _ | q
         ·omega
         ·have hqM:q < M.length:=hq2;obtain ⟨u0,u1,_,_⟩:=vT hbS (j:=q) (by omega);obtain ⟨y0,y1,v0,v1,f0,f1⟩:∃ y0 y1,wr.cell? ⟨g,(q+1) * 2,none⟩=some y0/\wr.cell? ⟨g,(q+1) * 2+1,none⟩=some y1/\wr.frozen? ⟨g,(q+1) * 2,none⟩=false/\wr.frozen? ⟨g,(q+1) * 2+1,none⟩=false:=⟨_,_,vT hbS (j:=q+1) (by omega)⟩;have eg:S[q]=M[q]:=hS.o.get hqM;have hHS:=hdd (hS.o.step hqM);have hbS2:=YC hbS (j:=q+1) (by omega) (M[q]'hqM);rw [eg] at u0 u1;have n5:q < M.length+1:=by omega
          have n6:q+1 < M.length+1:=by omega
          have HBS:=hdd hbS2;have HW:=hdd hwS;clear eg hbS2 hwS hS;clear hbS hSl;go_wp2;exact ⟨⟨q,S.set (q+1) (M[q]'hqM),rfl,by omega,by omega,hHS,HBS.o,(HW.o.setCell hg0 _).setCell hg0 _⟩,by simp [intOf]⟩
        ·obtain rfl:q=(j+1):=by omega
         obtain ⟨y0,y1,v0,v1,f0,f1⟩:∃ y0 y1,wr.cell? ⟨g,(j+1) * 2,none⟩=some y0/\wr.cell? ⟨g,(j+1) * 2+1,none⟩=some y1/\wr.frozen? ⟨g,(j+1) * 2,none⟩=false/\wr.frozen? ⟨g,(j+1) * 2+1,none⟩=false:=⟨_,_,vT hbS (j:=(j+1)) (by omega)⟩;have hbS2:=YC hbS (j:=(j+1)) (by omega) x;rw [hS.o.done hAT x] at hbS2;have HBS:=hdd hbS2;have HW:=hdd ((hwS.setCell (p:=⟨g,(j+1) * 2,none⟩) hg0 (.int .i64 x.x)).setCell (p:=⟨g,(j+1) * 2+1,none⟩) hg0 (.int .i64 x.y));obtain ⟨z1,t0,t1⟩:=(hA0.ee hwS).f;have n8:(j+1) < M.length+1:=by omega
         have HLn:=hdd (show (M.take (j+1) ++ x :: M.drop (j+1)).length=M.length+1 by rw [Kp,JO,JV,JR];omega);have HMB:=hdd (show ∀ p,p∈M.take (j+1) ++ x :: M.drop (j+1)↔p∈L.take (k+1) by intro p;rw [HI.o.2 p,hM.o p,hT.o];simp);clear hbS2 hwS hbS hS hSl hq;go_wp2;try rw [<-ea]
         go_roundw
         case rel=>exact ⟨k+1,M.take (j+1) ++ x :: M.drop (j+1),by go_num,by omega,hdd HI.o.1,HMB,by rw [HLn.o];omega,by rw [HLn.o];exact vJ HBS.o hg0 (by rw [zR ta,HLn.o]) hcp1 hcp2 htl,HW.o⟩
         case measure=>simp [intOf];omega
def cnrs (L:List Tri3):List Pt:=L.flatMap λT=>[T.A,T.B,T.C]
theorem XQ:∀ L:List Tri3,(cnrs L).length=3 * L.length
 | []=>rfl
 | T :: L=>by have:=XQ L;unfold cnrs at *;rw [Ks,Kp,this];simp;omega
section
variable {α:Type} [DecidableEq α] {c:α->α->Int}
structure Cpt (c:α->α->Int) (L:List α) (r:Nat) (M:List α):Prop where
 rise:Rising c M
 mem:∀ p,p∈M↔p∈L.take r
 last:∀ (h:0 < r) (h2:r<=L.length),M.getLast? = some (L[r - 1]'(by omega))
 len:M.length<=r
omit [DecidableEq α] in
theorem rising_snoc (W:Whole c) {M:List α} {x y:α} (h:Rising c M) (hl:M.getLast? = some y) (hxy:c y x < 0):Rising c (M ++ [x]):=by
 unfold Rising at *;rw [Qt];refine ⟨h,by simp,λa ha b hb=>?_⟩;simp at hb;subst hb;rw [List.getLast?_eq_some_iff] at hl;obtain ⟨N,rfl⟩:=hl;rw [Qt] at h;rcases JG.1 ha with ha | ha
 ·exact W.trans (h.2.2 a ha y (by simp)) hxy
 ·simp at ha;subst ha;exact hxy
omit [DecidableEq α] in
theorem Cpt.start {L:List α} (h:0 < L.length):Cpt c L 1 (L.take 1):=by
 cases L with
 | nil=>simp at h
 | cons x L=>exact ⟨by simp [Rising],by simp,by simp,by simp⟩
omit [DecidableEq α] in
theorem Cpt.next (W:Whole c) {L M:List α} {r:Nat} (h:Cpt c L r M) (ho:InOrder c L) (h0:0 < r) (hr:r < L.length) (hne:L[r]≠L[r - 1]'(by omega)):Cpt c L (r+1) (M ++ [L[r]]):=by
 have hl:=h.last h0 (by omega);have hle:c (L[r - 1]'(by omega)) L[r]<=0:=by
  unfold InOrder at ho;rw [JY] at ho;exact ho _ _ _ _ (by omega)
 have hlt:c (L[r - 1]'(by omega)) L[r] < 0:=by
  have:c (L[r - 1]'(by omega)) L[r]≠0:=λe=>hne (W.eq0.1 e).symm;omega
 refine ⟨rising_snoc W h.rise hl hlt,λp=>?_,λ_ _=>by simp,by have:=h.len;simp;omega⟩;rw [JD hr,JG,JG,h.mem p]
omit [DecidableEq α] in
theorem Cpt.same {L M:List α} {r:Nat} (h:Cpt c L r M) (h0:0 < r) (hr:r < L.length) (he:L[r]=L[r - 1]'(by omega)):Cpt c L (r+1) M:=by
 refine ⟨h.rise,λp=>?_,λ_ _=>?_,by have:=h.len;omega⟩
 ·rw [JD hr,JG,h.mem p];constructor
  ·exact .inl
  ·rintro (hp | hp)
   ·exact hp
   ·simp at hp;rw [hp,he];exact VQ.2 ⟨r - 1,by omega,rfl⟩
 ·rw [h.last h0 (by omega)];simp [he]
omit [DecidableEq α] in
theorem Cpt.all (W:Whole c) {L:List α} (ho:InOrder c L):∀ r,r<=L.length->0 < r->(∀ (i:Nat) (h0:0 < i) (_:i < r) (h2:i < L.length),L[i]≠L[i - 1]'(by omega))->Cpt c L r (L.take r)
 | 0,_,h,_=>absurd h (by omega)
 | 1,h,_,_=>Cpt.start (by omega)
 | r+2,h,_,hd=>by
  have ih:=Cpt.all W ho (r+1) (by omega) (by omega) (λi h0 h1 h2=>hd i h0 (by omega) h2);have:=ih.next W ho (by omega) (by omega) (hd (r+1) (by omega) (by omega) (by omega))
  rwa [<-JD (by omega)] at this
end
theorem td {w:World} {ops:Array Oper} {rest:List Oper} {o:Oper} {a:Act} {Q:Exit->Act->World->Prop} (hgd:o.guard=none) (s x:Operand) (ho:o.op=.call { callee:=.builtin .append,args:=#[s,x],argTypes:=#[24,24] }) (B:Nat) (v:Value) (L:List Pt) (hs:a.eval s=v) (hown:w.ownsRow B 26 2 v L.length (L.flatMap cP)) (bx:Nat) (p:Pt) (hx:a.eval x=.slice (some ⟨bx,0,none⟩) 1 1) (hbx:Box w bx (cP p) 26) (hn:L.length<=1000000) (hbase:B<=w.heap.size) (h:∀ w' v',w'.ownsRow B 26 2 v' (L ++ [p]).length ((L ++ [p]).flatMap cP)->w.grownBy w' v.ownBlock->v'≠.slice none 0 0->wpList prog ops Q rest (a.put o.dst v') w'):wpList prog ops Q (o :: rest) a w:=by
 obtain ⟨i0,hi,hz0,hz1,hz2⟩:=info_parts tJ;refine wpList_append_own w hgd s x 24 ho B 26 i0 _ 2 16 underlying24 hi hz0 hz1 hz2 rfl (by decide) v L.length _ hs hown ⟨bx,0,none⟩ 1 1 (cP p) hx rfl ?_ (cP_one p) ?_ ?_ hbase ?_
 ·intro j u hj;have:=hbx.f.1 j;rw [hj] at this;rw [Addr.add_lit,Q9];exact this
 ·unfold maxLen;omega
 ·omega
 ·intro v' w' hown' hg hnil;refine h w' v' ?_ hg (λe=>by have:=(hnil.1 e).2;omega);rw [Kp,Jy,JW]
  simpa using hown'
def froms (E:Es):List Pt:=E.map λe=>e.1.1
def wys (T:Tri3):Es:=[((T.A,T.B),T),((T.B,T.C),T),((T.C,T.A),T)]
theorem j9 {T:Tri3} (h:valT T=true):T.A≠T.B/\T.B≠T.C/\T.C≠T.A:=by
 unfold valT at h;simp only [Ko,V8,QB] at h;have h0:=h.1;refine ⟨λe=>h0 ?_,λe=>h0 ?_,λe=>h0 ?_⟩
 ·rw [e];unfold ori det;simp [sgn]
 ·rw [e];unfold ori det;rw [VM (T.C.x - T.A.x)];simp [sgn]
 ·rw [e];unfold ori det;simp [sgn]
theorem tQ {E:Es} {T:Tri3} (h:fitsE E T=true):getE E (T.A,T.B)=none/\getE E (T.B,T.C)=none/\getE E (T.C,T.A)=none/\valT T=true:=by
 unfold fitsE at h
 simpa only [Ko,Vi] using h
theorem putT_eq {E:Es} {T:Tri3} (h:fitsE E T=true):(putT E T).Perm (E ++ wys T):=by
 obtain ⟨h1,h2,h3,hv⟩:=tQ h;obtain ⟨a1,a2,a3⟩:=j9 hv;rw [qR] at h1 h2 h3;unfold putT putE wys;rw [kL h1,kL (x:=(T.B,T.C)) (E:=((T.A,T.B),T) :: E) (λp hp=>by
  rcases Km.1 hp with rfl | hp
  ·intro e;simp at e;exact a1 e.1
  ·exact h2 p hp),kL (x:=(T.C,T.A)) (E:=((T.B,T.C),T) :: ((T.A,T.B),T) :: E) (λp hp=>by
  rcases Km.1 hp with rfl | hp
  ·intro e;simp at e;exact a2 e.1
  ·rcases Km.1 hp with rfl | hp
   ·intro e;simp at e;exact a3 e.1.symm
   ·exact h3 p hp)]
 refine List.Perm.trans ?_ (Jl (l₁:=[((T.A,T.B),T),((T.B,T.C),T),((T.C,T.A),T)]));exact (List.reverse_perm [((T.A,T.B),T),((T.B,T.C),T),((T.C,T.A),T)]).append_right E
structure Good (E:Es) (L:List Tri3):Prop where
 perm:E.Perm (L.flatMap wys)
 nodup:KeysNodup E
 val:∀ T∈L,valT T=true
theorem Zm:∀ (L:List Tri3),(∀ T∈L,valT T=true)->heads yes (L.flatMap wys)=L
 | [],_=>rfl
 | T :: L,h=>by
  obtain ⟨a1,a2,a3⟩:=j9 (h T (by simp));rw [Ks,zp,Zm L (λS hS=>h S (by simp [hS]))];have:heads yes (wys T)=[T]:=by
   unfold heads wys yes;simp [Ne.symm a1,a3]
  rw [this];rfl
theorem Good.heads {E:Es} {L:List Tri3} (h:Good E L):(heads yes E).Perm L:=by
 have:=xZ (p:=yes) h.perm
 rwa [Zm L h.val] at this
theorem YL:∀ L:List Tri3,(L.flatMap wys).length=3 * L.length
 | []=>rfl
 | T :: L=>by rw [Ks,Kp,YL L,JO];simp [wys];omega
theorem Good.len {E:Es} {L:List Tri3} (h:Good E L):E.length=3 * L.length:=by rw [h.perm.length_eq,YL]
theorem yG {a b c:Pt} (va:vld a=true) (vb:vld b=true) (vc:vld c=true) (h:0 < det a b c):Cyc (mk a b c) a b c/\valT (mk a b c)=true:=by
 have o:ori a b c=1:=by rw [ori_v va vb vc,sgn_pos];exact h
 have h0:¬ ori a b c=0:=by omega
 obtain ⟨_,_,_,n1,n2,n3⟩:=Yl h0;have e0:mk a b c=mkT a b c:=by unfold mk;rw [Kl h0,J1 o]
 refine ⟨?_,(mk_ok h0).1⟩;rw [e0];rcases kD va vb vc n1 n2 n3 with ⟨_,_,e⟩ | ⟨_,_,e⟩ | ⟨_,_,e⟩ <;> rw [e]
 ·exact .inl ⟨rfl,rfl,rfl⟩
 ·exact .inr (.inr ⟨rfl,rfl,rfl⟩)
 ·exact .inr (.inl ⟨rfl,rfl,rfl⟩)
theorem YO {T:Tri3} (h:valT T=true):key T.A < key T.B/\key T.A < key T.C:=by
 obtain ⟨va,vb,vc,hD⟩:=qW h;obtain ⟨n1,n2,n3⟩:=zP hD;rw [tm] at h;unfold valS lds at h;rw [x8 va vb,x8 va vc] at h;simp only [Ko,Kn] at h;have k1:key T.A≠key T.B:=λe=>n1 (yi va vb e);have k2:key T.A≠key T.C:=λe=>n3 (yi va vc e).symm;omega
theorem val_cyc {S T:Tri3} (hS:valT S=true) (hT:valT T=true) (h:Cyc S T.A T.B T.C):S=T:=by
 have s:=YO hS;have t:=YO hT;rcases h with ⟨h1,h2,h3⟩ | ⟨h1,h2,h3⟩ | ⟨h1,h2,h3⟩
 ·cases S;cases T;simp_all
 ·rw [h1,h2,h3] at t;omega
 ·rw [h1,h2,h3] at t;omega
def part (p a b:Pt):List Tri3:=if ori a b p=0 then [] else [mk a b p]
def cutP (p:Pt) (T:Tri3):List Tri3:=part p T.A T.B ++ (part p T.B T.C ++ part p T.C T.A)
theorem zx {p a b:Pt} (va:vld a=true) (vb:vld b=true) (vp:vld p=true) (h:0 < det a b p):part p a b=[mk a b p]:=by
 unfold part;rw [Kl];rw [ori_v va vb vp,yY];omega
theorem qb {p a b:Pt} (va:vld a=true) (vb:vld b=true) (vp:vld p=true) (h:det a b p=0):part p a b=[]:=by
 unfold part;rw [J1];rw [ori_v va vb vp,h];rfl
theorem xw {T:Tri3} {a b c:Pt} (h:Cyc T a b c) (p:Pt):(cutP p T).Perm (part p a b ++ (part p b c ++ part p c a)):=by
 unfold cutP;rcases h with ⟨rfl,rfl,rfl⟩ | ⟨rfl,rfl,rfl⟩ | ⟨rfl,rfl,rfl⟩
 ·exact .refl _
 ·exact List.perm_append_comm.trans (by rw [JE])
 ·rw [<-JE];exact Jl
theorem jd {L:List Tri3} (h:(L.flatMap ways).Nodup):L.Nodup:=by
 induction L with
 | nil=>exact List.nodup_nil
 | cons T L ih=>
  rw [Ks,Jb] at h;rw [JX];refine ⟨λhT=>?_,ih h.2.1⟩;exact h.2.2 (T.A,T.B) (by simp [ways]) (T.A,T.B) (JH.2 ⟨T,hT,by simp [ways]⟩) rfl
theorem tT {α:Type} [DecidableEq α] {L:List α} (hn:L.Nodup) {p:α->Bool} {a:α} (ha:a∈L) (h:∀ x∈L,p x=true↔x=a):(L.filter p).Perm [a]/\L.Perm (a :: L.filter λx => !p x):=by
 have h1:(L.filter p).Perm [a]:=by
  refine (VJ (hn.sublist List.filter_sublist) (by simp)).2 λx=>?_;simp only [JS,QX];exact ⟨λ⟨k1,k2⟩=>(h x k1).1 k2,λk=>by subst k;exact ⟨ha,(h x ha).2 rfl⟩⟩
 refine ⟨h1,?_⟩;have:=List.filter_append_perm p L;exact this.symm.trans (h1.append_right _)
theorem filter_two {α:Type} [DecidableEq α] {L:List α} (hn:L.Nodup) {p:α->Bool} {a b:α} (ha:a∈L) (hb:b∈L) (hab:a≠b) (h:∀ x∈L,p x=true↔(x=a\/x=b)):(L.filter p).Perm [a,b]/\L.Perm (a :: b :: L.filter λx => !p x):=by
 have h1:(L.filter p).Perm [a,b]:=by
  refine (VJ (hn.sublist List.filter_sublist) (by simp [hab])).2 λx=>?_;simp only [JS,Km,JB,Jj];refine ⟨λ⟨k1,k2⟩=>(h x k1).1 k2,λk=>?_⟩;rcases k with rfl | rfl
  ·exact ⟨ha,(h x ha).2 (.inl rfl)⟩
  ·exact ⟨hb,(h x hb).2 (.inr rfl)⟩
 refine ⟨h1,?_⟩;have:=List.filter_append_perm p L;exact this.symm.trans (h1.append_right _)
inductive Spots (W H:Int) (L:List Tri3) (p:Pt):List Tri3->Prop
 | within (T:Tri3):T∈L->insT T p->Spots W H L p [T]
 | rim (T:Tri3) (a b c:Pt):T∈L->Cyc T a b c->edg a b c p->onRim W H a b->Spots W H L p [T]
 | edge (T S:Tri3) (a b c d:Pt):T∈L->S∈L->Cyc T a b c->Cyc S b a d->edg a b c p->¬ onRim W H a b->Spots W H L p [T,S]
section
variable {W H:Int} {L:List Tri3} (h:Tiles W H L)
include h
theorem Tiles.spots (hW:0 < W) (hH:0 < H) {p:Pt} (hp:inBox W H p) (hn:∀ T∈L,¬ isCnr T p) {f:Tri3->Bool} (hf:∀ T∈L,f T=true↔hasT T p):∃ F,Spots W H L p F/\(L.filter f).Perm F/\L.Perm (F ++ L.filter λx => !f x):=by
 obtain ⟨T,hT,k⟩:=h.covers hW hH hp;have nd:=jd h.once;rcases uQ (h.pos T hT) k with g | g | ⟨a,b,c,hc,g⟩
 ·exact absurd g (hn T hT)
 ·have := tT nd hT (p := f) (λx hx => by
    rw [hf x hx];exact ⟨λq=>(h.ins_one hT hx g q).symm,λe=>by rw [e];exact k⟩)
  exact ⟨_,.within T hT g,this⟩
 ·have two:=λx hx (q:hasT x p)=>h.edg_two hT hx hc g q (hn x hx);by_cases hr:onRim W H a b
  ·have := tT nd hT (p := f) (λx hx => by
     rw [hf x hx];refine ⟨λq=>?_,λe=>by rw [e];exact k⟩;rcases two x hx q with e | ⟨_,e⟩
     ·exact e
     ·exact absurd hr e)
   exact ⟨_,.rim T a b c hT hc g hr,this⟩
  ·have hm:=(h.rim (a,b) (y6 hT hc.way)).resolve_right hr;obtain ⟨S,hS,hw⟩:=JH.1 hm;have hw:(b,a)∈ways S:=hw;obtain ⟨d,hd⟩:=yZ hw;have pT:=h.cyc_pos hT hc;have pS:=h.cyc_pos hS hd;have ho:=qi pT pS g;have hne:T≠S:=by
    rintro rfl;have e1:=(hd.cnr_iff c).1 hc.turn.turn.cnr;obtain ⟨n1,n2,n3⟩:=zP pT;rcases e1 with e | e | e
    ·exact n2 e.symm
    ·exact n3 e
    ·rw [<-e,zV] at pS;omega
   have hasS:hasT S p:=by
    obtain ⟨o1,o2,o3⟩:=ho;have:0<=det b a p/\0<=det a d p/\0<=det d b p:=⟨by omega,by omega,by omega⟩;unfold hasT;rcases hd with ⟨rfl,rfl,rfl⟩ | ⟨rfl,rfl,rfl⟩ | ⟨rfl,rfl,rfl⟩
    ·exact this
    ·exact ⟨this.2.2,this.1,this.2.1⟩
    ·exact ⟨this.2.1,this.2.2,this.1⟩
   have:=filter_two nd hT hS hne (p:=f) (λx hx=>by
    rw [hf x hx];refine ⟨λq=>?_,λe=>?_⟩
    ·rcases two x hx q with e | ⟨e,_⟩
     ·exact .inl e
     ·exact .inr (yy h.once hx hS e hw)
    ·rcases e with rfl | rfl
     ·exact k
     ·exact hasS)
   exact ⟨_,.edge T S a b c d hT hS hc hd g hr,this⟩
theorem vg (hW:0 < W) (hH:0 < H) (hW':W < 16777216) (hH':H < 16777216) {p:Pt} (hp:inBox W H p) (hn:∀ T∈L,¬ isCnr T p) {F M:List Tri3} (hF:Spots W H L p F) (hL:L.Perm (F ++ M)):Tiles W H (F.flatMap (cutP p) ++ M)/\(∀ T∈F.flatMap (cutP p),valT T=true/\isCnr T p):=by
 have vb:∀ q,inBox W H q->vld q=true:=λq hq=>by rw [zj];unfold inBox at hq;omega
 have vp:=vb p hp;cases hF with
 | within T hT hi=>
  have hc:=Cyc.refl T;have va:=vb _ (h.cyc_box hT hc);have vb':=vb _ (h.cyc_box hT hc.turn);have vc:=vb _ (h.cyc_box hT hc.turn.turn);obtain ⟨i1,i2,i3⟩:=hi;have e:[T].flatMap (cutP p)=[mk T.A T.B p,mk T.B T.C p,mk T.C T.A p]:=by
   simp only [Ks,QJ,Jf];unfold cutP;rw [zx va vb' vp i1,zx vb' vc vp i2,zx vc va vp i3];rfl
  rw [e];have m1:=yG va vb' vp i1;have m2:=yG vb' vc vp i2;have m3:=yG vc va vp i3;refine ⟨h.cut3 hn hp hL hc ⟨i1,i2,i3⟩ m1.1 m2.1 m3.1,λX hX=>?_⟩;simp only [Km,JB,Jj] at hX;rcases hX with rfl | rfl | rfl
  ·exact ⟨m1.2,m1.1.turn.turn.cnr⟩
  ·exact ⟨m2.2,m2.1.turn.turn.cnr⟩
  ·exact ⟨m3.2,m3.1.turn.turn.cnr⟩
 | rim T a b c hT hc hi hr=>
  have va:=vb _ (h.cyc_box hT hc);have vb':=vb _ (h.cyc_box hT hc.turn);have vc:=vb _ (h.cyc_box hT hc.turn.turn);obtain ⟨i1,i2,i3⟩:=hi;have e:([T].flatMap (cutP p)).Perm [mk b c p,mk c a p]:=by
   simp only [Ks,QJ,Jf];have:=xw hc p;rw [qb va vb' vp i1,zx vb' vc vp i2,zx vc va vp i3] at this;exact this
  have m2:=yG vb' vc vp i2;have m3:=yG vc va vp i3;refine ⟨(h.cut2r hn hp hL hc ⟨i1,i2,i3⟩ hr m2.1 m3.1).perm (e.symm.append_right M),λX hX=>?_⟩;rw [e.mem_iff] at hX;simp only [Km,JB,Jj] at hX;rcases hX with rfl | rfl
  ·exact ⟨m2.2,m2.1.turn.turn.cnr⟩
  ·exact ⟨m3.2,m3.1.turn.turn.cnr⟩
 | edge T S a b c d hT hS hc hd hi hr=>
  have va:=vb _ (h.cyc_box hT hc);have vb':=vb _ (h.cyc_box hT hc.turn);have vc:=vb _ (h.cyc_box hT hc.turn.turn);have vd:=vb _ (h.cyc_box hS hd.turn.turn);have ho:=qi (h.cyc_pos hT hc) (h.cyc_pos hS hd) hi;obtain ⟨i1,i2,i3⟩:=hi;obtain ⟨o1,o2,o3⟩:=ho;have e:([T,S].flatMap (cutP p)).Perm [mk b c p,mk c a p,mk a d p,mk d b p]:=by
   simp only [Ks,QJ,Jf];have e1:=xw hc p;rw [qb va vb' vp i1,zx vb' vc vp i2,zx vc va vp i3] at e1;have e2:=xw hd p;rw [qb vb' va vp o1,zx va vd vp o2,zx vd vb' vp o3] at e2;exact e1.append e2
  have m1:=yG vb' vc vp i2;have m2:=yG vc va vp i3;have m3:=yG va vd vp o2;have m4:=yG vd vb' vp o3;refine ⟨(h.cut4 hn hp hL hc hd ⟨i1,i2,i3⟩ m1.1 m2.1 m3.1 m4.1).perm (e.symm.append_right M),λX hX=>?_⟩;rw [e.mem_iff] at hX;simp only [Km,JB,Jj] at hX;rcases hX with rfl | rfl | rfl | rfl
  ·exact ⟨m1.2,m1.1.turn.turn.cnr⟩
  ·exact ⟨m2.2,m2.1.turn.turn.cnr⟩
  ·exact ⟨m3.2,m3.1.turn.turn.cnr⟩
  ·exact ⟨m4.2,m4.1.turn.turn.cnr⟩
end
theorem jO (L:List Tri3):(L.flatMap wys).map (·.1)=L.flatMap ways:=by
 induction L with
 | nil=>rfl
 | cons T L ih=>rw [Ks,Ks,QA,ih];rfl
theorem ku {L:List Tri3} {w:Pt×Pt} {T:Tri3}:(w,T)∈L.flatMap wys↔T∈L/\w∈ways T:=by
 rw [JH];constructor
 ·rintro ⟨S,hS,h⟩;simp only [wys,Km,Ji,JB,Jj] at h;rcases h with ⟨rfl,rfl⟩ | ⟨rfl,rfl⟩ | ⟨rfl,rfl⟩ <;> exact ⟨hS,by simp [ways]⟩
 ·rintro ⟨hS,h⟩;refine ⟨T,hS,?_⟩;simp only [ways,Km,JB,Jj] at h;rcases h with rfl | rfl | rfl <;> simp [wys]
section
variable {E:Es} {L:List Tri3} (h:Good E L)
include h
theorem Good.once:(L.flatMap ways).Nodup:=by
 rw [<-jO];have hn:=h.nodup;unfold KeysNodup at hn;exact (h.perm.map (·.1)).nodup_iff.1 hn
theorem Good.get {a b:Pt} {T:Tri3}:getE E (a,b)=some T↔T∈L/\(a,b)∈ways T:=by
 rw [getE_iff h.nodup,h.perm.mem_iff,ku]
theorem Good.get_none {a b:Pt}:getE E (a,b)=none↔(a,b) ∉ L.flatMap ways:=by
 rw [qR];constructor
 ·intro k hm;rw [<-jO,JN] at hm;obtain ⟨p,hp,e⟩:=hm;exact k p (h.perm.mem_iff.2 hp) e
 ·intro k p hp e;apply k;rw [<-jO,JN];exact ⟨p,h.perm.mem_iff.1 hp,e⟩
theorem Good.has {T:Tri3}:hasE E T=true↔T∈L:=by
 unfold hasE;constructor
 ·intro k;cases hg:getE E (T.A,T.B) with
  | none=>rw [hg] at k;cases k
  | some S=>
   rw [hg] at k;have e:=k7.1 k;rw [<-e];exact (h.get.1 hg).1
 ·intro k;rw [h.get.2 ⟨k,by simp [ways]⟩];exact k7.2 rfl
theorem Good.order {M:List Tri3} (p:L.Perm M):Good E M:=⟨h.perm.trans (p.flatMap_right _),h.nodup,λT hT=>h.val T (p.mem_iff.2 hT)⟩
end
theorem takeT_nodup {E:Es} (h:KeysNodup E) (T:Tri3):KeysNodup (takeT E T):=xg (xg (xg h _) _) _
theorem Good.take {E:Es} {T:Tri3} {M:List Tri3} (h:Good E (T :: M)):hasE E T=true/\Good (takeT E T) M:=by
 refine ⟨h.has.2 (by simp),?_,takeT_nodup h.nodup T,λS hS=>h.val S (by simp [hS])⟩;have hT:=h.val T (by simp);have ho:=h.once;rw [Ks,Jb] at ho
 -- what is taken: the three pairs of T
 have hp:E.Perm (wys T ++ M.flatMap wys):=by have:=h.perm;rwa [Ks] at this
 have e1:takeT E T=E.filter (λp=>decide (p.1 ∉ ways T)):=by
  unfold takeT delE;rw [U9,U9];refine List.filter_congr λp _=>?_;simp only [ways,Km,JB,Jj];by_cases a1:p.1=(T.A,T.B) <;> by_cases a2:p.1=(T.B,T.C) <;> by_cases a3:p.1=(T.C,T.A) <;> simp [a1,a2,a3]
 rw [e1];refine (hp.filter _).trans ?_;rw [QV];have f1:(wys T).filter (λp=>decide (p.1 ∉ ways T))=[]:=by
  rw [VE];intro p hp';have:p.1∈ways T:=by
   have:p∈[T].flatMap wys:=by simpa using hp'
   obtain ⟨q,S⟩:=p;have:=ku.1 this;simp only [QX] at this;rw [<-this.1];exact this.2
  simpa using this
 have f2:(M.flatMap wys).filter (λp=>decide (p.1 ∉ ways T))=M.flatMap wys:=by
  rw [Qo];intro p hp';have:p.1 ∉ ways T:=λk=>ho.2.2 p.1 k p.1 (by rw [<-jO];exact List.mem_map_of_mem hp') rfl
  simpa using this
 rw [f1,f2,Js]
theorem Good.put {E:Es} {T:Tri3} {M:List Tri3} (h:Good E M) (hv:valT T=true) (hn:∀ w∈ways T,w ∉ M.flatMap ways):fitsE E T=true/\Good (putT E T) (T :: M):=by
 have hf:fitsE E T=true:=by
  unfold fitsE;simp only [Ko,Vi];exact ⟨h.get_none.2 (hn _ (by simp [ways])),h.get_none.2 (hn _ (by simp [ways])),h.get_none.2 (hn _ (by simp [ways])),hv⟩
 refine ⟨hf,?_,qH (qH (qH h.nodup _ _) _ _) _ _,λS hS=>?_⟩
 ·refine (putT_eq hf).trans ?_;rw [Ks];exact (h.perm.append_right _).trans Jl
 ·rcases Km.1 hS with rfl | hS
  ·exact hv
  ·exact h.val S hS
theorem Good.takes:∀ {F:List Tri3} {E:Es} {M:List Tri3},Good E (F ++ M)->(takeRun E F).1=F.length/\Good (takeRun E F).2 M
 | [],E,M,h=>⟨rfl,h⟩
 | T :: F,E,M,h=>by
  obtain ⟨h1,h2⟩:=Good.take (E:=E) (T:=T) (M:=F ++ M) h;obtain ⟨k1,k2⟩:=Good.takes h2;unfold takeRun;rw [J1 h1];exact ⟨by simp [k1],k2⟩
theorem Good.puts:∀ {I:List Tri3} {E:Es} {M:List Tri3},Good E M->(∀ T∈I,valT T=true)->((I ++ M).flatMap ways).Nodup->(putRun E I).1=I.length/\Good (putRun E I).2 (I ++ M)
 | [],E,M,h,_,_=>⟨rfl,h⟩
 | T :: I,E,M,h,hv,hn=>by
  have hn':(ways T ++ (I ++ M).flatMap ways).Nodup:=by rw [<-Ks];exact hn
  rw [Jb] at hn';obtain ⟨h1,h2⟩:=Good.put (E:=E) (T:=T) (M:=M) h (hv T (by simp)) (λw hw k=>hn'.2.2 w hw w (by rw [JW];exact Jp _ k) rfl);obtain ⟨k1,k2⟩:=Good.puts (I:=I) h2 (λS hS=>hv S (by simp [hS])) ((zq (QH (a:=T) (l₁:=I) (l₂:=M))).nodup_iff.2 hn);unfold putRun;rw [J1 h1];exact ⟨by simp [k1],k2.order QH⟩
def someC (L:List Tri3) (p:Pt):Prop:=∃ T∈L,isCnr T p
structure Kept (K:Pt->Pt->Prop) (L L':List Tri3):Prop where
 len:L'.length=L.length
 cnr:∀ p,someC L' p↔someC L p
 wall:∀ a b,K a b->(a,b)∈L.flatMap ways->(a,b)∈L'.flatMap ways
theorem Kept.refl (K:Pt->Pt->Prop) (L:List Tri3):Kept K L L:=⟨rfl,λ_=>UC,λ_ _ _ h=>h⟩
theorem Kept.trans {K:Pt->Pt->Prop} {A B C:List Tri3} (h:Kept K A B) (k:Kept K B C):Kept K A C:=
 ⟨k.len.trans h.len,λp=>(k.cnr p).trans (h.cnr p),λa b w m=>k.wall a b w (h.wall a b w m)⟩
theorem Kept.perm {K:Pt->Pt->Prop} {L M:List Tri3} (p:L.Perm M):Kept K L M:=
 ⟨p.length_eq.symm,λq=>by unfold someC;simp only [p.mem_iff],λ_ _ _ h=>(zq p).mem_iff.1 h⟩
structure Flp (K:Pt->Pt->Prop) (L:List Tri3) (S R:Tri3) (M:List Tri3) (a b c d:Pt):Prop where
 make ::
 perm:L.Perm (S :: R :: M)
 one:Cyc S a b c
 two:Cyc R b a d
 free:¬ K a b/\¬ K b a
 left:0 < det c a d
 right:0 < det d b c
section
variable {W H:Int} {K:Pt->Pt->Prop} {L:List Tri3} {S R:Tri3} {M:List Tri3} {a b c d:Pt}
theorem Flp.pts (f:Flp K L S R M a b c d) (h:Tiles W H L):inBox W H a/\inBox W H b/\inBox W H c/\inBox W H d:=by
 have mS:S∈L:=f.perm.mem_iff.2 (by simp);have mR:R∈L:=f.perm.mem_iff.2 (by simp);exact ⟨h.cyc_box mS f.one,h.cyc_box mS f.one.turn,h.cyc_box mS f.one.turn.turn,h.cyc_box mR f.two.turn.turn⟩
theorem Flp.news (f:Flp K L S R M a b c d) (h:Tiles W H L) (hW:W < 16777216) (hH:H < 16777216):(Cyc (mk c a d) c a d/\valT (mk c a d)=true)/\(Cyc (mk d b c) d b c/\valT (mk d b c)=true):=by
 have vb:∀ q,inBox W H q->vld q=true:=λq hq=>by rw [zj];unfold inBox at hq;omega
 obtain ⟨ba,bb,bc,bd⟩:=f.pts h;exact ⟨yG (vb _ bc) (vb _ ba) (vb _ bd) f.left,yG (vb _ bd) (vb _ bb) (vb _ bc) f.right⟩
theorem Flp.tiles (f:Flp K L S R M a b c d) (h:Tiles W H L) (hW:W < 16777216) (hH:H < 16777216):Tiles W H (mk c a d :: mk d b c :: M):=by
 obtain ⟨u,v⟩:=f.news h hW hH;exact h.flip f.perm f.one f.two f.left f.right u.1 v.1
theorem Flp.kept (f:Flp K L S R M a b c d) (h:Tiles W H L) (hW:W < 16777216) (hH:H < 16777216):Kept K L (mk c a d :: mk d b c :: M):=by
 obtain ⟨⟨u,_⟩,v,_⟩:=f.news h hW hH;refine (Kept.perm f.perm).trans ⟨rfl,λp=>?_,λx y hk hm=>?_⟩
 ·unfold someC;simp only [Km];constructor
  ·rintro ⟨T,rfl | rfl | hT,hp⟩
   ·rcases (u.cnr_iff p).1 hp with rfl | rfl | rfl
    ·exact ⟨S,.inl rfl,f.one.turn.turn.cnr⟩
    ·exact ⟨S,.inl rfl,f.one.cnr⟩
    ·exact ⟨R,.inr (.inl rfl),f.two.turn.turn.cnr⟩
   ·rcases (v.cnr_iff p).1 hp with rfl | rfl | rfl
    ·exact ⟨R,.inr (.inl rfl),f.two.turn.turn.cnr⟩
    ·exact ⟨S,.inl rfl,f.one.turn.cnr⟩
    ·exact ⟨S,.inl rfl,f.one.turn.turn.cnr⟩
   ·exact ⟨T,.inr (.inr hT),hp⟩
  ·rintro ⟨T,rfl | rfl | hT,hp⟩
   ·rcases (f.one.cnr_iff p).1 hp with rfl | rfl | rfl
    ·exact ⟨_,.inl rfl,u.turn.cnr⟩
    ·exact ⟨_,.inr (.inl rfl),v.turn.cnr⟩
    ·exact ⟨_,.inl rfl,u.cnr⟩
   ·rcases (f.two.cnr_iff p).1 hp with rfl | rfl | rfl
    ·exact ⟨_,.inr (.inl rfl),v.turn.cnr⟩
    ·exact ⟨_,.inl rfl,u.turn.cnr⟩
    ·exact ⟨_,.inr (.inl rfl),v.cnr⟩
   ·exact ⟨T,.inr (.inr hT),hp⟩
 ·rw [Ks,Ks] at hm ⊢;simp only [JG] at hm ⊢;rw [f.one.ways.mem_iff,f.two.ways.mem_iff] at hm;rw [u.ways.mem_iff,v.ways.mem_iff];simp only [Km,Ji,JB,Jj] at hm ⊢;obtain ⟨f1,f2⟩:=f.free;rcases hm with (⟨rfl,rfl⟩ | h | h) | (⟨rfl,rfl⟩ | h | h) | h
  ·exact absurd hk f1
  ·exact .inr (.inl (.inr (.inl h)))
  ·exact .inl (.inl h)
  ·exact absurd hk f2
  ·exact .inl (.inr (.inl h))
  ·exact .inr (.inl (.inl h))
  ·exact .inr (.inr h)
theorem Flp.less {h:Pt->Int} (f:Flp K L S R M a b c d) (t:Tiles W H L) (hW:W < 16777216) (hH:H < 16777216) (hp:0 < PH h a b c d):volS h (mk c a d :: mk d b c :: M) < volS h L:=by
 obtain ⟨u,v⟩:=f.news t hW hH;rw [ZG f.perm,vol_flip h M f.one f.two u.1 v.1];omega
end
theorem Tiles.vols {W H:Int} {L:List Tri3} (h:Tiles W H L) (hW:W < 16777216) (hH:H < 16777216) {ht:Pt->Int} (hh:Hts ht):0<=volS ht L:=by
 have vb:∀ q,inBox W H q->vld q=true:=λq hq=>by rw [zj];unfold inBox at hq;omega
 refine Xu hh λT hT=>⟨h.pos T hT,vb _ (h.box T hT).1,vb _ (h.box T hT).2.1,vb _ (h.box T hT).2.2⟩
theorem Tiles.flip_bad {W H:Int} {K:Pt->Pt->Prop} {L:List Tri3} (h:Tiles W H L) (hW:W < 16777216) (hH:H < 16777216) {ht:Pt->Int} (hh:Hts ht) {S R:Tri3} (hS:S∈L) (hR:R∈L) {a b c d:Pt} (cS:Cyc S a b c) (cR:Cyc R b a d) (hk:¬ K a b/\¬ K b a) (hb:circ a b c d=1):0 < PH ht a b c d/\∃ M,Flp K L S R M a b c d:=by
 have vb:∀ q,inBox W H q->vld q=true:=λq hq=>by rw [zj];unfold inBox at hq;omega
 have p1:=h.cyc_pos hS cS;have p2:=h.cyc_pos hR cR;obtain ⟨q1,q2,q3⟩:=zP p2;have dc:d≠c:=by
  rintro rfl;rw [zV] at p2;omega
 have sg:=hh.sign a b c d (vb _ (h.cyc_box hS cS)) (vb _ (h.cyc_box hS cS.turn)) (vb _ (h.cyc_box hS cS.turn.turn)) (vb _ (h.cyc_box hR cR.turn.turn)) p1 (Ne.symm q2) q3 dc;have hne:S≠R:=by
  rintro rfl;obtain ⟨n1,n2,n3⟩:=zP p1;rcases (cR.cnr_iff c).1 cS.turn.turn.cnr with e | e | e
  ·exact n2 e.symm
  ·exact n3 e
  ·exact dc e.symm
 rcases sg with ⟨_,s2,s3⟩ | ⟨s1,_⟩
 ·obtain ⟨x,y⟩:=convex p1 p2 s3;obtain ⟨M,hM⟩:=k6 hS hR hne;exact ⟨s2,M,hM,cS,cR,hk,x,y⟩
 ·omega
def atRim (W H:Int) (p:Pt):Prop:=p.x=0\/p.y=0\/p.x=W\/p.y=H
theorem KO {W H:Int} {a b c p:Pt} (h1:0 < det a b c) (ba:inBox W H a) (bb:inBox W H b) (he:edg a b c p):atRim W H p↔onRim W H a b:=by
 obtain ⟨z,q1,q2⟩:=he;have s:=qn a b c p;have ex:det a b c * p.x=det b c p * a.x+det c a p * b.x+det a b p * c.x:=by unfold det;grind
 have ey:det a b c * p.y=det b c p * a.y+det c a p * b.y+det a b p * c.y:=by unfold det;grind
 rw [z,Jh] at ex ey;rw [z] at s;have key:∀ u v t:Int,0<=u->0<=v->det a b c * t=det b c p * u+det c a p * v->(t=0↔u=0/\v=0):=by
  intro u v t hu hv e;have m1:=Kr (JT q1) hu;have m2:=Kr (JT q2) hv;constructor
  ·intro h;rw [h,Jd] at e;have z1:det b c p * u=0:=by omega
   have z2:det c a p * v=0:=by omega
   rcases J0.1 z1 with k | k <;> rcases J0.1 z2 with k' | k' <;> omega
  ·rintro ⟨rfl,rfl⟩;rw [Jd,Jd] at e;rcases J0.1 (show det a b c * t=0 by omega) with k | k <;> omega
 unfold inBox at ba bb;have k1:=key a.x b.x p.x ba.1.1 bb.1.1 (by omega);have k2:=key a.y b.y p.y ba.2.1 bb.2.1 (by omega);have s':det b c p+det c a p=det a b c:=by omega
 have w1:det a b c * W=det b c p * W+det c a p * W:=by rw [<-s',Vr]
 have w2:det a b c * H=det b c p * H+det c a p * H:=by rw [<-s',Vr]
 have k3:=key (W - a.x) (W - b.x) (W - p.x) (by omega) (by omega) (by rw [V2,V2,V2];omega);have k4:=key (H - a.y) (H - b.y) (H - p.y) (by omega) (by omega) (by rw [V2,V2,V2];omega);unfold atRim onRim;omega
theorem ins_norim {W H:Int} {T:Tri3} {p:Pt} (hp:0 < det T.A T.B T.C) (hb:inBox W H T.A/\inBox W H T.B/\inBox W H T.C) (hi:insT T p):¬ atRim W H p:=by
 obtain ⟨q1,q2,q3⟩:=hi;have s:=qn T.A T.B T.C p;have ex:det T.A T.B T.C * p.x=det T.B T.C p * T.A.x+det T.C T.A p * T.B.x+det T.A T.B p * T.C.x:=by unfold det;grind
 have ey:det T.A T.B T.C * p.y=det T.B T.C p * T.A.y+det T.C T.A p * T.B.y+det T.A T.B p * T.C.y:=by unfold det;grind
 have flat:∀ al be ga:Int,al * T.A.x+be * T.A.y+ga=0->al * T.B.x+be * T.B.y+ga=0->al * T.C.x+be * T.C.y+ga=0->(al≠0\/be≠0)->False:=by
  intro al be ga e1 e2 e3 hn;have i1:al * det T.A T.B T.C=((al * T.B.x+be * T.B.y+ga) - (al * T.A.x+be * T.A.y+ga)) * (T.C.y - T.A.y) - ((al * T.C.x+be * T.C.y+ga) - (al * T.A.x+be * T.A.y+ga)) * (T.B.y - T.A.y):=by unfold det;grind
  have i2:be * det T.A T.B T.C=((al * T.C.x+be * T.C.y+ga) - (al * T.A.x+be * T.A.y+ga)) * (T.B.x - T.A.x) - ((al * T.B.x+be * T.B.y+ga) - (al * T.A.x+be * T.A.y+ga)) * (T.C.x - T.A.x):=by unfold det;grind
  rw [e1,e2,e3] at i1 i2;simp only [V7,Jh] at i1 i2;rcases J0.1 i1 with k | k <;> rcases J0.1 i2 with k' | k' <;> omega
 have key:∀ al be ga:Int,(al≠0\/be≠0)->0<=al * T.A.x+be * T.A.y+ga->0<=al * T.B.x+be * T.B.y+ga->0<=al * T.C.x+be * T.C.y+ga->al * p.x+be * p.y+ga≠0:=by
  intro al be ga hn h1 h2 h3 e;have i:det T.A T.B T.C * (al * p.x+be * p.y+ga)=det T.B T.C p * (al * T.A.x+be * T.A.y+ga)+det T.C T.A p * (al * T.B.x+be * T.B.y+ga)+det T.A T.B p * (al * T.C.x+be * T.C.y+ga):=by unfold det;grind
  rw [e,Jd] at i;have m1:=Kr (JT q2) h1;have m2:=Kr (JT q3) h2;have m3:=Kr (JT q1) h3;have z1:=(J0.1 (show det T.B T.C p * (al * T.A.x+be * T.A.y+ga)=0 by omega)).resolve_left (by omega);have z2:=(J0.1 (show det T.C T.A p * (al * T.B.x+be * T.B.y+ga)=0 by omega)).resolve_left (by omega);have z3:=(J0.1 (show det T.A T.B p * (al * T.C.x+be * T.C.y+ga)=0 by omega)).resolve_left (by omega);exact flat al be ga z1 z2 z3 hn
 unfold inBox at hb;have k1:=key 1 0 0 (by omega) (by omega) (by omega) (by omega);have k2:=key 0 1 0 (by omega) (by omega) (by omega) (by omega);have k3:=key (-1) 0 W (by omega) (by omega) (by omega) (by omega);have k4:=key 0 (-1) H (by omega) (by omega) (by omega) (by omega);unfold atRim;omega
theorem has_box {W H:Int} {T:Tri3} {p:Pt} (hp:0 < det T.A T.B T.C) (hb:inBox W H T.A/\inBox W H T.B/\inBox W H T.C) (hi:hasT T p):inBox W H p:=by
 obtain ⟨q1,q2,q3⟩:=hi;have key:∀ al be ga:Int,0<=al * T.A.x+be * T.A.y+ga->0<=al * T.B.x+be * T.B.y+ga->0<=al * T.C.x+be * T.C.y+ga->0<=al * p.x+be * p.y+ga:=by
  intro al be ga h1 h2 h3;have i:det T.A T.B T.C * (al * p.x+be * p.y+ga)=det T.B T.C p * (al * T.A.x+be * T.A.y+ga)+det T.C T.A p * (al * T.B.x+be * T.B.y+ga)+det T.A T.B p * (al * T.C.x+be * T.C.y+ga):=by unfold det;grind
  have m1:=Kr q2 h1;have m2:=Kr q3 h2;have m3:=Kr q1 h3;exact (zd hp).1 (by omega)
 unfold inBox at *;have k1:=key 1 0 0 (by omega) (by omega) (by omega);have k2:=key 0 1 0 (by omega) (by omega) (by omega);have k3:=key (-1) 0 W (by omega) (by omega) (by omega);have k4:=key 0 (-1) H (by omega) (by omega) (by omega);omega
theorem Tiles.cone {W H:Int} {L:List Tri3} (h:Tiles W H L) (hW:0 < W) (hH:0 < H) {p q:Pt} (hp:inBox W H p) (hq:inBox W H q) (hc:someC L p):∃ T∈L,∃ b c,Cyc T p b c/\0<=det p b q/\0<=det c p q:=by
 obtain ⟨v,ev⟩:∃ v:Pt,v=⟨q.x - p.x,q.y - p.y⟩:=⟨_,rfl⟩;have evx:v.x=q.x - p.x:=by rw [ev]
 have evy:v.y=q.y - p.y:=by rw [ev]
 let M:Int:=1+bigs 1 v L
 have p0:∀ l:List Tri3,0<=bigs 1 v l:=λl=>by
  induction l with
  | nil=>exact Vf 0
  | cons U l ih=>unfold bigs big;omega
 have hM:1<=M:=by have:=p0 L;omega
 have bx:inBox (M * W) (M * H) ⟨M * p.x+v.x,M * p.y+v.y⟩:=by
  obtain ⟨⟨h1,h2⟩,h3,h4⟩:=hp;obtain ⟨⟨k1,k2⟩,k3,k4⟩:=hq;have j1:=Kr (a:=M - 1) (b:=p.x) (by omega) h1;have j2:=Kr (a:=M - 1) (b:=p.y) (by omega) h3;have j3:=Q8 (c:=M - 1) h2 (by omega);have j4:=Q8 (c:=M - 1) h4 (by omega);rw [Ve,V3] at j1 j2;rw [Ve,Ve,V3,V3] at j3 j4;unfold inBox;simp only;omega
 obtain ⟨T,hT,hh⟩:=h.covM hW hH (M:=M) (by omega) bx;have sd:∀ a b:Pt,det (sc M a) (sc M b) ⟨M * p.x+v.x,M * p.y+v.y⟩=M * (M * det a b p+crd a b v):=by
  intro a b;have:=xS 1 M a b p v
  rwa [Int.mul_one,jo,jo,V3] at this
 unfold hasM at hh;rw [sd,sd,sd] at hh;have hb:=XX 1 v hT;unfold big at hb;rw [V3,V3,V3] at hb;have s1:=jv (M:=1) (K:=M) (d:=det T.A T.B p) (c:=crd T.A T.B v) (by omega) (by rw [V3];omega) (by rw [V3];exact hh.1);have s2:=jv (M:=1) (K:=M) (d:=det T.B T.C p) (c:=crd T.B T.C v) (by omega) (by rw [V3];omega) (by rw [V3];exact hh.2.1);have s3:=jv (M:=1) (K:=M) (d:=det T.C T.A p) (c:=crd T.C T.A v) (by omega) (by rw [V3];omega) (by rw [V3];exact hh.2.2);obtain ⟨S,hS,hp'⟩:=hc;have hcT:=h.cnr_all hS hT hp' ⟨s1,s2,s3⟩;obtain ⟨b,c,hcy⟩:=qo hcT;have hM0:0 < M:=by omega
 have hh':0<=M * (M * det p b p+crd p b v)/\0<=M * (M * det c p p+crd c p v):=by
  rcases hcy with ⟨rfl,rfl,rfl⟩ | ⟨rfl,rfl,rfl⟩ | ⟨rfl,rfl,rfl⟩
  ·exact ⟨hh.1,hh.2.2⟩
  ·exact ⟨hh.2.1,hh.1⟩
  ·exact ⟨hh.2.2,hh.2.1⟩
 refine ⟨T,hT,b,c,hcy,?_,?_⟩
 ·have e : M * det p b p + crd p b v = det p b q := by
    have z:det p b p=0:=by unfold det;grind
    rw [z,Jd,Vg];unfold crd det;rw [evx,evy]
  have:=(zd hM0).1 hh'.1;omega
 ·have e : M * det c p p + crd c p v = det c p q := by
    have z:det c p p=0:=by unfold det;grind
    rw [z,Jd,Vg];unfold crd det;rw [evx,evy];grind
  have:=(zd hM0).1 hh'.2;omega
theorem k8 (T:Tri3) (L:List Tri3) (q:Pt):someC (T :: L) q↔isCnr T q\/someC L q:=by
 unfold someC;simp
theorem xV {L M:List Tri3} (p:L.Perm M) (q:Pt):someC L q↔someC M q:=by
 unfold someC;simp only [p.mem_iff]
theorem xp (L M:List Tri3) (q:Pt):someC (L ++ M) q↔someC L q\/someC M q:=by
 unfold someC;simp only [JG];constructor
 ·rintro ⟨T,h | h,k⟩
  ·exact .inl ⟨T,h,k⟩
  ·exact .inr ⟨T,h,k⟩
 ·rintro (⟨T,h,k⟩ | ⟨T,h,k⟩)
  ·exact ⟨T,.inl h,k⟩
  ·exact ⟨T,.inr h,k⟩
theorem jA (q:Pt):¬ someC [] q:=by unfold someC;simp
theorem tV {W H:Int} {L:List Tri3} (h:Tiles W H L) (hW':W < 16777216) (hH':H < 16777216) {p:Pt} (hp:inBox W H p) {F:List Tri3} (hF:Spots W H L p F):(∀ q,someC (F.flatMap (cutP p)) q↔someC F q\/q=p)/\((F.flatMap (cutP p)).length=F.length+2/\¬ atRim W H p\/(F.flatMap (cutP p)).length=F.length+1/\atRim W H p):=by
 have vb:∀ q,inBox W H q->vld q=true:=λq hq=>by rw [zj];unfold inBox at hq;omega
 have vp:=vb p hp;cases hF with
 | within T hT hi=>
  have hc:=Cyc.refl T;have va:=vb _ (h.cyc_box hT hc);have vb':=vb _ (h.cyc_box hT hc.turn);have vc:=vb _ (h.cyc_box hT hc.turn.turn);obtain ⟨i1,i2,i3⟩:=hi;have e:[T].flatMap (cutP p)=[mk T.A T.B p,mk T.B T.C p,mk T.C T.A p]:=by
   simp only [Ks,QJ,Jf];unfold cutP;rw [zx va vb' vp i1,zx vb' vc vp i2,zx vc va vp i3];rfl
  rw [e];have m1:=(yG va vb' vp i1).1;have m2:=(yG vb' vc vp i2).1;have m3:=(yG vc va vp i3).1;refine ⟨λq=>?_,.inl ⟨rfl,ins_norim (h.pos T hT) (h.box T hT) ⟨i1,i2,i3⟩⟩⟩;simp only [k8,m1.cnr_iff,m2.cnr_iff,m3.cnr_iff,hc.cnr_iff,U5 (jA q),Jj];constructor
  ·rintro ((k | k | k) | (k | k | k) | (k | k | k)) <;> simp [k]
  ·rintro ((k | k | k) | k) <;> simp [k]
 | rim T a b c hT hc hi hr=>
  have va:=vb _ (h.cyc_box hT hc);have vb':=vb _ (h.cyc_box hT hc.turn);have vc:=vb _ (h.cyc_box hT hc.turn.turn);have hrim:=(KO (h.cyc_pos hT hc) (h.cyc_box hT hc) (h.cyc_box hT hc.turn) hi).2 hr;obtain ⟨i1,i2,i3⟩:=hi;have e:([T].flatMap (cutP p)).Perm [mk b c p,mk c a p]:=by
   simp only [Ks,QJ,Jf];have:=xw hc p;rw [qb va vb' vp i1,zx vb' vc vp i2,zx vc va vp i3] at this;exact this
  have m2:=(yG vb' vc vp i2).1;have m3:=(yG vc va vp i3).1;refine ⟨λq=>?_,.inr ⟨by rw [e.length_eq];rfl,hrim⟩⟩;rw [xV e];simp only [k8,m2.cnr_iff,m3.cnr_iff,hc.cnr_iff,U5 (jA q),Jj];constructor
  ·rintro ((k | k | k) | (k | k | k)) <;> simp [k]
  ·rintro ((k | k | k) | k) <;> simp [k]
 | edge T S a b c d hT hS hc hd hi hr=>
  have va:=vb _ (h.cyc_box hT hc);have vb':=vb _ (h.cyc_box hT hc.turn);have vc:=vb _ (h.cyc_box hT hc.turn.turn);have vd:=vb _ (h.cyc_box hS hd.turn.turn);have ho:=qi (h.cyc_pos hT hc) (h.cyc_pos hS hd) hi;have hrim:¬ atRim W H p:=λk=>hr ((KO (h.cyc_pos hT hc) (h.cyc_box hT hc) (h.cyc_box hT hc.turn) hi).1 k);obtain ⟨i1,i2,i3⟩:=hi;obtain ⟨o1,o2,o3⟩:=ho;have e:([T,S].flatMap (cutP p)).Perm [mk b c p,mk c a p,mk a d p,mk d b p]:=by
   simp only [Ks,QJ,Jf];have e1:=xw hc p;rw [qb va vb' vp i1,zx vb' vc vp i2,zx vc va vp i3] at e1;have e2:=xw hd p;rw [qb vb' va vp o1,zx va vd vp o2,zx vd vb' vp o3] at e2;exact e1.append e2
  have m1:=(yG vb' vc vp i2).1;have m2:=(yG vc va vp i3).1;have m3:=(yG va vd vp o2).1;have m4:=(yG vd vb' vp o3).1;refine ⟨λq=>?_,.inl ⟨by rw [e.length_eq];rfl,hrim⟩⟩;rw [xV e];simp only [k8,m1.cnr_iff,m2.cnr_iff,m3.cnr_iff,m4.cnr_iff,hc.cnr_iff,hd.cnr_iff,U5 (jA q),Jj];constructor
  ·rintro ((k | k | k) | (k | k | k) | (k | k | k) | (k | k | k)) <;> simp [k]
  ·rintro (((k | k | k) | (k | k | k)) | k) <;> simp [k]
theorem Good.takesF:∀ {F:List Tri3} {E:Es} {M:List Tri3},Good E (F ++ M)->Good (F.foldl takeT E) M
 | [],_,_,h=>h
 | T :: F,E,M,h=>by
  obtain ⟨_,h2⟩:=Good.take (E:=E) (T:=T) (M:=F ++ M) h;exact Good.takesF (F:=F) h2
theorem yW {p:Pt} (h:vld p=true):okP p:=by
 rw [zj] at h;have mn:IntKind.i64.min = -9223372036854775808:=by decide
 have mx:IntKind.i64.max=9223372036854775807:=by decide
 have key:∀ n:Int,0<=n->n < 16777216->okI n:=λn h1 h2=>by
  show (decide (IntKind.i64.min<=n) && decide (n<=IntKind.i64.max))=true;rw [mn,mx];simp;omega
 exact ⟨key _ h.1.1 h.1.2,key _ h.2.1 h.2.2⟩
theorem ye {T:Tri3} (h:valT T=true):okT T:=by
 obtain ⟨va,vb,vc,_⟩:=qW h;exact ⟨yW va,yW vb,yW vc⟩
theorem isE_sym (p q:Pt) (x:Wl):isE p q x=isE q p x:=by unfold isE;exact Bool.or_comm _ _
theorem qg (L:List Wl) (p q:Pt):kindD L p q=kindD L q p:=by
 unfold kindD;rw [show isE p q=isE q p from funext (isE_sym p q)]
def wll (D:List Wl) (a b:Pt):Prop:=kindD D a b≠0
theorem q9 {T:Tri3} {a b c:Pt} (h:Cyc T a b c) (h1:a≠b) (h2:b≠c) (h3:c≠a):apx T a b=c/\apx T b a=c:=by
 have t:∀ p:Pt,peqI p.x p.y p.x p.y=true:=λp=>pp rfl;unfold apx;rcases h with ⟨rfl,rfl,rfl⟩ | ⟨rfl,rfl,rfl⟩ | ⟨rfl,rfl,rfl⟩
 ·simp [t]
 ·rw [J1 ⟨yM.2 h3,yM.2 (Ne.symm h2)⟩,J1 ⟨yM.2 (Ne.symm h2),yM.2 h3⟩];exact ⟨rfl,rfl⟩
 ·simp [t,yM.2 h3,yM.2 (Ne.symm h2)]
theorem YB {T:Tri3} {a b c:Pt} (h:Cyc T a b c) (d:Pt):circ T.A T.B T.C d=circ a b c d:=by
 rcases h with ⟨rfl,rfl,rfl⟩ | ⟨rfl,rfl,rfl⟩ | ⟨rfl,rfl,rfl⟩
 ·rfl
 ·exact (uk T.A T.B T.C d).symm
 ·exact uk T.C T.A T.B d
theorem xK {E:Es} {T:Tri3} (h:fitsE E T=true):freeE E T=true:=by
 rw [ua] at h;simp only [Ko] at h;exact h.1
structure Flips (E:Es) (p q:Pt) (S R U V:Tri3) (C D:Pt):Prop where
 h0:getE E (p,q)=some S
 h1:getE E (q,p)=some R
 hC:apx S p q=C
 hD:apx R p q=D
 o1:decide (ori p D C<=0)=false
 o2:decide (ori D q C<=0)=false
 hU:mk p D C=U
 hV:mk D q C=V
 he:getE E (D,C)=none
 hf:getE E (C,D)=none
 hc:okW (C,D)
 hS:okT S
 hR:okT R
 hu:okT U
 hv:okT V
 f1:freeE (takeT (takeT E S) R) U=true
 f2:freeE (putT (takeT (takeT E S) R) U) V=true
def flipE (E:Es) (S R U V:Tri3):Es:=putT (putT (takeT (takeT E S) R) U) V
section
variable {W H:Int} {E:Es} {L:List Tri3} {D:List Wl} (hW:W < 16777216) (hH:H < 16777216) {h:Pt->Int}
include hW hH
theorem Flp.go {K:Pt->Pt->Prop} {S R:Tri3} {M:List Tri3} {p q c d:Pt} (g:Good E L) (t:Tiles W H L) (f:Flp K L S R M p q c d):Flips E p q S R (mk p d c) (mk d q c) c d/\Good (flipE E S R (mk p d c) (mk d q c)) (mk c p d :: mk d q c :: M):=by
 have vb:∀ q,inBox W H q->vld q=true:=λq hq=>by rw [zj];unfold inBox at hq;omega
 obtain ⟨bp,bq,bc,bd⟩:=f.pts t;have mS:S∈L:=f.perm.mem_iff.2 (by simp);have mR:R∈L:=f.perm.mem_iff.2 (by simp);obtain ⟨n1,n2,n3⟩:=zP (t.cyc_pos mS f.one);obtain ⟨m1,m2,m3⟩:=zP (t.cyc_pos mR f.two);obtain ⟨u,v⟩:=f.news t hW hH;have t':=f.tiles t hW hH;have eU:mk p d c=mk c p d:=Z3 c p d;have k1:=Good.takes (F:=[S,R]) (M:=M) (g.order f.perm);have k2:Good (takeT (takeT E S) R) M:=by
  have a1:=(Good.take (E:=E) (T:=S) (M:=R :: M) (g.order f.perm)).2;exact (Good.take (E:=takeT E S) (T:=R) (M:=M) a1).2
 have n0:=t'.once;have nn:∀ w∈ways (mk c p d),w ∉ M.flatMap ways:=λw hw hm=>by
  rw [Ks,Jb] at n0;exact n0.2.2 w hw w (by rw [Ks];exact Jp _ hm) rfl
 obtain ⟨p1,p2⟩:=Good.put (E:=takeT (takeT E S) R) (T:=mk c p d) (M:=M) k2 u.2 nn;have nn2:∀ w∈ways (mk d q c),w ∉ (mk c p d :: M).flatMap ways:=λw hw hm=>by
  rw [Ks,Jb] at n0;rw [Ks,JG] at hm;rcases hm with hm | hm
  ·exact n0.2.2 w hm w (by rw [Ks];exact Jo _ hw) rfl
  ·have:=n0.2.1;rw [Ks,Jb] at this;exact this.2.2 w hw w hm rfl
 obtain ⟨q1,q2⟩:=Good.put (E:=putT (takeT (takeT E S) R) (mk c p d)) (T:=mk d q c) (M:=mk c p d :: M) p2 v.2 nn2;rw [eU];refine ⟨⟨g.get.2 ⟨mS,f.one.way⟩,g.get.2 ⟨mR,f.two.way⟩,(q9 f.one n1 n2 n3).1,(q9 f.two m1 m2 m3).2,?_,?_,eU,rfl,g.get_none.2 (t.no_diag mS f.one f.left f.right),g.get_none.2 (t.no_diag mR f.two f.right f.left),⟨yW (vb _ bc),yW (vb _ bd)⟩,ye (g.val _ mS),ye (g.val _ mR),ye u.2,ye v.2,xK p1,xK q1⟩,q2.order (List.Perm.swap _ _ _)⟩
 ·rw [ori_v (vb _ bp) (vb _ bd) (vb _ bc)];have:=zL (det p d c);have e:det p d c=det c p d:=zW c p d;have:=f.left;simp;omega
 ·rw [ori_v (vb _ bd) (vb _ bq) (vb _ bc)];have:=zL (det d q c);have:=f.right;simp;omega
theorem bad_go (hh:Hts h) (g:Good E L) (t:Tiles W H L) {p q:Pt} (hb:badD E D p q=true):∃ S R U V C D',Flips E p q S R U V C D'/\∃ L',Good (flipE E S R U V) L'/\Tiles W H L'/\Kept (wll D) L L'/\volS h L' < volS h L:=by
 unfold badD at hb;cases h1:getE E (p,q) with
 | none=>rw [yV h1] at hb;simp at hb
 | some S=>
  cases h2:getE E (q,p) with
  | none=>rw [yV h2] at hb;simp at hb
  | some R=>
   rw [zf h1,zf h2] at hb;simp only [Qj,Ko,Kn] at hb;obtain ⟨k0,kc⟩:=hb;obtain ⟨mS,wS⟩:=g.get.1 h1;obtain ⟨mR,wR⟩:=g.get.1 h2;obtain ⟨c,cS⟩:=yZ wS;obtain ⟨d,cR⟩:=yZ wR;obtain ⟨m1,m2,m3⟩:=zP (t.cyc_pos mR cR);rw [(q9 cR m1 m2 m3).2,YB cS] at kc;obtain ⟨hp,M,f⟩:=t.flip_bad (K:=wll D) hW hH hh mS mR cS cR ⟨λk=>k k0,λk=>k (by rw [qg];exact k0)⟩ kc;have go:=f.go hW hH g t;exact ⟨S,R,_,_,c,d,go.1,_,go.2,f.tiles t hW hH,f.kept t hW hH,f.less t hW hH hp⟩
theorem none_bad (g:Good E L) (t:Tiles W H L) (hb:badsD E D E=[]):Fixed W H (wll D) L:=by
 have vb:∀ q,inBox W H q->vld q=true:=λq hq=>by rw [zj];unfold inBox at hq;omega
 have main:∀ S∈L,∀ R∈L,∀ a b c d,Cyc S a b c->Cyc R b a d->¬ wll D a b->cmpP a b < 0->circ a b c d≠1:=by
  intro S hS R hR a b c d cS cR hk hc he;have e1:=g.get.2 ⟨hS,cS.way⟩;have e2:=g.get.2 ⟨hR,cR.way⟩;obtain ⟨m1,m2,m3⟩:=zP (t.cyc_pos hR cR);have k0:kindD D a b=0:=JJ λk=>hk k;have hbad:badD E D a b=true:=by
   unfold badD;rw [zf e1,zf e2];simp only [Qj,Ko,Kn];exact ⟨k0,by rw [(q9 cR m1 m2 m3).2,YB cS];exact he⟩
  have hm:((a,b),S)∈E:=Z9 e1;have:(⟨a,b,1⟩:Wl)∈badsD E D E:=by
   unfold badsD;rw [VP];exact ⟨_,hm,by simp [hbad,hc]⟩
  rw [hb] at this;cases this
 refine ⟨t,λS hS R hR a b c d cS cR hk he=>?_⟩;have va:=vb _ (t.cyc_box hS cS);have vb':=vb _ (t.cyc_box hR cR);have p1:=t.cyc_pos hS cS;have p2:=t.cyc_pos hR cR;have nab:=kz p1;have hs:=zL (key a - key b);have hck:=xM va vb';by_cases hlt:cmpP a b < 0
 ·exact main S hS R hR a b c d cS cR hk hlt he
 ·have hne:key a≠key b:=λe=>nab (yi va vb' e);have hgt:cmpP b a < 0:=by
   rw [xM vb' va];have:=zL (key b - key a);omega
  refine main R hR S hS b a d c cR cS (λk=>hk (by unfold wll at *;rw [qg];exact k)) hgt ?_;have vd:=vb _ (t.cyc_box hR cR.turn.turn);have vc:=vb _ (t.cyc_box hS cS.turn.turn);have o1:¬ ori a b c=0:=by rw [ori_v va vb' vc,yY];omega
  have o2:¬ ori a b d=0:=by
   rw [ori_v va vb' vd,yY];rw [zV] at p2;omega
  have dc:d≠c:=by
   rintro rfl;rw [zV] at p2;omega
  rw [uj,YA o1 o2 dc,he];rfl
end
theorem cW_ne (x:Wl):cW x≠[]:=by simp [cW]
theorem DocRd.turn {w w':World} {db c n b:Nat} {a0:Option Addr} {L:List Wl} {E:Es} (S:DocRd w db a0 c n L) (H:Hs w b E) (hg:w.grownBy w' (some b)):DocRd w' db a0 c n L:=
 ⟨S.box.turn H hg,S.row.turn cW_ne H hg,S.len,S.le,S.nc,S.flat⟩
theorem Z8 {E:Es} {L:List Tri3} (g:Good E L):∀ e∈E,okW e.1:=λe he=>by
 obtain ⟨w,T⟩:=e;obtain ⟨hT,hw⟩:=ku.1 (g.perm.mem_iff.1 he);have ok:=okT_w (ye (g.val T hT));simp only [ways,Km,JB,Jj] at hw;rcases hw with rfl | rfl | rfl
 ·exact ok.1
 ·exact ok.2.1
 ·exact ok.2.2
structure RSt (W H:Int) (D:List Wl) (L:List Tri3) (E1:Es) (L1:List Tri3):Prop where
 good:Good E1 L1
 tiles:Tiles W H L1
 kept:Kept (wll D) L L1
def RepPost (W H:Int) (b:Nat) (D:List Wl) (L:List Tri3) (w:World) (e:Ending) (w':World):Prop:=
 e=.returned (.tuple #[])/\∃ E1 L1,w.grownBy w' (some b)/\Hs w' b E1/\RSt W H D L E1 L1/\Fixed W H (wll D) L1
theorem ka (mb b db:Nat) (a0:Option Addr) (c n:Nat) (E:Es) (L:List Tri3) (D:List Wl) (W H:Int) (hW:W < 16777216) (hH:H < 16777216) (hL:L.length<=30000) (g:Good E L) (ti:Tiles W H L) (w:World) (Bm:Box w mb [.map (some b)] 93) (Hm:Hs w b E) (Dw:DocRd w db a0 c n D):Calls prog 46 #[pt0 mb,pt0 db] w (RepPost W H b D L w):=by
 obtain ⟨h,hh⟩:=Ki;have S0:=hdd (show RSt W H D L E L from ⟨g,ti,Kept.refl _ _⟩);have HLL:=hdd hL;clear g ti hL
 go_enter func46,ntmps46
 go_wp2
 go_loopg [4] ((volS h L).toNat+1) (λk v wr=>∃ (E1:Es) (L1:List Tri3) (ag:Bool),v=.bool ag/\Hs wr b E1/\Hi (RSt W H D L E1 L1)/\Hi (ag=false->Fixed W H (wll D) L1)/\Hi (ag=true->(volS h L1).toNat < k)/\w.grownBy wr (some b))
 case atStart=>exact ⟨E,L,true,rfl,Hm,S0,hdd (λe=>by cases e),hdd (λ_=>Nat.lt_succ_self _),kI _ _⟩
 case round=>
  obtain ⟨E1,L1,ag,rfl,H1,hS,hF,hV,hg⟩:=hrel;cases ag with
  | false=>
   have HFX:=hdd (hF.o rfl);clear hF hV;go_wp2;exact bodyPost_end (results_none rfl _ _ _) rfl ⟨rfl,E1,L1,hg,H1,hS.o,HFX.o⟩
  | true=>
   have HV:=hdd (hV.o rfl);clear hV;have B1:=Bm.turn Hm hg;have D1:=Dw.turn Hm hg;have hlen:L1.length<=30000:=by rw [hS.o.kept.len];exact HLL.o
   have hE1:E1.length<=100000:=by rw [hS.o.good.len];omega
   have cB:=rBad_any mb b db a0 c n E1 D hE1 (Z8 hS.o.good) wr B1 H1 D1;have hE2:=hdd hE1;clear hlen hE1 hF;go_wp2_with fail;refine cB.mono ?_;rintro e w2 ⟨a,cap,l,rfl,hl,hr,hb⟩;have hll:=hdd (show l.length<=100000 by rw [hl.length_eq];exact JQ (YD E1 D E1) hE2.o);have HLB:=hdd hl;have g2:=zO hg hb;have H2:=H1.ee hb;clear cB hb hl B1 D1 H1 hE2;obtain ⟨m,hm⟩:∃ m,l.length=m:=⟨_,rfl⟩;have HM:=hdd hm;rw [hm] at hll;rw [hm];clear hm;go_wp2
   go_loopw [4,6] (λv4 v6 wi=>∃ (i:Nat) (E2:Es) (L2:List Tri3) (ag:Bool),v4=.bool ag/\v6=.int .i64 i/\i<=m/\Hs wi b E2/\Hi (RSt W H D L E2 L2)/\Hi ((i=0/\ag=false/\E2=E1/\L2=L1)\/(0 < i/\ag=true/\volS h L2 < volS h L1))/\RowAt cW 5 wi a l/\w.grownBy wi (some b)) (λ_ v6 _=>m - (intOf v6).toNat)
   case atStart=>exact ⟨0,E1,L1,false,rfl,rfl,JZ _,H2,hS,hdd (.inl ⟨rfl,rfl,rfl,rfl⟩),hr,g2⟩
   case round=>
    clear g2 H2 hr;obtain ⟨i,E2,L2,ag,rfl,rfl,hi,H2,hS2,hC,hr,g2⟩:=hrel;have hm1:=hll.o;by_cases hlt:i < m
    ·have hil:i < l.length:=by rw [HM.o];exact hlt
     have B2:=Bm.turn Hm g2;have D2:=Dw.turn Hm g2;obtain ⟨ad,A,ea,eA,hA⟩:=hr.five (j:=i) hil;have hmem:l[i]∈badsD E1 D E1:=HLB.o.mem_iff.1 (JP hil);generalize l[i]=X at hA hmem
     obtain ⟨XA,XB,XK⟩:=X;have hk2:okW (XA,XB):=by
      unfold badsD at hmem;rw [VP] at hmem;obtain ⟨e,he,hx⟩:=hmem;split at hx
      ·simp only [Qb,Wl.mk.injEq] at hx;have:=Z8 hS.o.good e he;rw [<-hx.1,<-hx.2.1];exact this
      ·cases hx
     have HBAD:=hdd (show badD E1 D XA XB=true by
      unfold badsD at hmem;rw [VP] at hmem;obtain ⟨e,he,hx⟩:=hmem;split at hx
      ·rename_i hc
       simp only [Qb,Wl.mk.injEq] at hx;simp only [Ko] at hc;rw [<-hx.1,<-hx.2.1];exact hc.2
      ·cases hx)
     have q0:(i:Int) < (m:Int):=by omega
     obtain ⟨s0,s1,s2,s3,s4⟩:=hA.cells;have cb:∀ d os,Calls prog 93 #[pt0 mb,pt0 db,XA,XB] (grow (redrawn wr d) os) λe w'=>e=.returned (.bool (badD E2 D XA XB))/\Below (grow (redrawn wr d) os).heap.size (grow (redrawn wr d) os) w':=λd os=>Ya mb b db a0 c n E2 D XA XB hk2 _ (B2.ext (below_regrown wr d os) rfl) (H2.ext (below_regrown wr d os) rfl) (D2.ext (below_regrown wr d os) rfl);clear hmem;subst ea;cases hbd:badD E2 D XA XB with
     | false=>
      rw [hbd] at cb;have HNZ:=hdd (show 0 < i/\ag=true/\volS h L2 < volS h L1 by
       rcases hC.o with ⟨_,_,e1,_⟩ | k
       ·rw [e1,HBAD.o] at hbd;cases hbd
       ·exact k)
      clear hC HBAD hA hbd;go_wp2_with fail;refine wrt 25 (by kernel_rfl) (by kernel_rfl) ?_;simp only [tK1,tK0,dP1,dP0];refine wkx ?_;intro w4 hb;clear s0 s1 s2 s3 s4;have H4:=H2.ee hb;have r4:=hr.ee hb;have g4:=zO g2 hb;clear hb cb;go_wp2
      go_roundw
      case rel=>exact ⟨i+1,E2,L2,true,by rw [HNZ.o.2.1],by go_num,by omega,H4,hS2,hdd (.inr ⟨by omega,rfl,HNZ.o.2.2⟩),r4,g4⟩
      case measure=>simp [intOf];omega
     | true=>
      rw [hbd] at cb;obtain ⟨S,R,U,V,C,D',fl,L3,g3,t3,k3,v3⟩:=bad_go hW hH hh hS2.o.good hS2.o.tiles hbd;have HS3:=hdd (show RSt W H D L (flipE E2 S R U V) L3 from ⟨g3,t3,hS2.o.kept.trans k3⟩);have HV3:=hdd (show volS h L3 < volS h L1 by
       rcases hC.o with ⟨_,_,_,e2⟩ | ⟨_,_,k⟩
       ·rw [<-e2];exact v3
       ·omega)
      have cf:=λw0 B1 H1=>YY mb b E2 XA XB hk2 S R U V C D' fl.h0 fl.h1 fl.hC fl.hD fl.o1 fl.o2 fl.hU fl.hV fl.he fl.hf fl.hc fl.hS fl.hR fl.hu fl.hv fl.f1 fl.f2 w0 B1 H1
      change ∀ (w0:World) B1 H1,Calls _ _ _ _ λe w'=>e=.returned (.int .i64 0)/\w0.grownBy w' (some b)/\Hs w' b (flipE E2 S R U V) at cf
      clear hC HBAD hA hbd fl g3 t3 k3 v3;generalize flipE E2 S R U V=E3 at *
      go_wp2_with fail;refine wrt 25 (by kernel_rfl) (by kernel_rfl) ?_;simp only [tK1,tK0,dP1,dP0];refine wkx ?_;intro w4 hb;clear s0 s1 s2 s3 s4;have H4:=H2.ee hb;have r4:=hr.ee hb;have g4:=zO g2 hb;have B4:=B2.ee hb;clear hb cb;go_wp2_with fail;refine (cf _ B4 H4).mono ?_;rintro e w5 ⟨rfl,hg5,H5⟩;have r5:=r4.turn cW_ne H4 hg5;have g5:=zQ g4 hg5;clear cf hg5 H4 r4 g4 B4;go_wp2
      go_roundw
      case rel=>exact ⟨i+1,E3,L3,true,rfl,by go_num,by omega,H5,HS3,hdd (.inr ⟨by omega,rfl,HV3.o⟩),r5,g5⟩
      case measure=>simp [intOf];omega
    ·have q0:decide ((i:Int) < (m:Int))=false:=by simpa using hlt
     have him:i=m:=by omega
     have HE:=hdd (show (ag=false->Fixed W H (wll D) L2) by
      intro e;rcases hC.o with ⟨e0,_,_,e2⟩ | ⟨_,e1,_⟩
      ·have l0:l=[]:=Je.1 (by rw [HM.o,<-him,e0]);rw [e2];exact none_bad hW hH hS.o.good hS.o.tiles (List.Perm.eq_nil (by have:=HLB.o;rw [l0] at this;exact this.symm))
      ·rw [e] at e1;cases e1)
     have HT:=hdd (show (ag=true->(volS h L2).toNat < (volS h L1).toNat) by
      intro e;rcases hC.o with ⟨_,e1,_,_⟩ | ⟨_,_,k⟩
      ·rw [e] at e1;cases e1
      ·have:=hS2.o.tiles.vols hW hH hh;omega)
     clear hC;go_wp2
     go_roundg (volS h L1).toNat
     case measure=>exact HV.o
     case rel=>exact ⟨E2,L2,ag,rfl,H2,hS2,HE,HT,g2⟩
def cutOk (T:Tri3) (p:Pt):Bool:=hasP T p && (!peqI p.x p.y T.A.x T.A.y && (!peqI p.x p.y T.B.x T.B.y && !peqI p.x p.y T.C.x T.C.y))
def cutR (T:Tri3) (p:Pt):List Tri3:=if cutOk T p=true then cutP p T else []
def cutK (p:Pt) (T:Tri3):Nat->List Tri3
 | 0=>[]
 | k+1=>cutK p T k ++ part p (crn T k) (crn T (k+1))
theorem cutK3 (p:Pt) (T:Tri3):cutK p T 3=cutP p T:=by
 show (([] ++ part p T.A T.B) ++ part p T.B T.C) ++ part p T.C T.A=_;unfold cutP;simp
theorem uI (p a b:Pt):(part p a b).length<=1:=by unfold part;split <;> simp
theorem ji (p:Pt) (T:Tri3):∀ k,(cutK p T k).length<=k
 | 0=>by simp [cutK]
 | k+1=>by
  have:=ji p T k;have:=uI p (crn T k) (crn T (k+1));show (cutK p T k ++ _).length<=_;rw [Kp];omega
theorem km (p:Pt) (T:Tri3):(cutP p T).length<=3:=by
 unfold cutP;have:=uI p T.A T.B;have:=uI p T.B T.C;have:=uI p T.C T.A;simp only [Kp];omega
theorem rcut_no0 (T:Tri3) (p:Pt) (h0:hasP T p=false) (w:World):Calls prog 16 #[T,p] w λe w'=>∃ a cap,e=.returned (.slice a 0 cap)/\RowAt cT 6 w' a []/\Below w w w':=by
 have cH:=qZ T p;rw [h0] at cH;clear h0
 go_enter func16,ntmps16
 go_wp2_with fail;refine qD2 λW1 Bt Ba hw=>?_;refine wp_loop_rounds 2 ?_;try rw [rounds_succ]
 have Gk:=J2 Bt.f Ba.f;go_wp2_with fail;clear Gk;refine qC2 (cH _) Bt Ba hw λw2 Bt Ba hw Gk=>?_;go_wp2_with fail;refine (xW none 0 0 [] (hdd rfl) (by omega) (by omega) _ (λj x hx=>by cases hx)).mono ?_;rintro e w9 ⟨a,cap,rfl,hr,hb⟩;have e0:srt cmpT ([]:List Tri3)=[]:=Je.1 (by rw [(zS _).length_eq];rfl);rw [e0] at hr;go_wp2
 go_ret
 exact ⟨a,cap,rfl,hr,(upB hw hb)⟩
theorem rcut_no1 (T:Tri3) (p:Pt) (h0:hasP T p=true) (h1:peqI p.x p.y T.A.x T.A.y=true) (w:World):Calls prog 16 #[T,p] w λe w'=>∃ a cap,e=.returned (.slice a 0 cap)/\RowAt cT 6 w' a []/\Below w w w':=by
 have cH:=qZ T p;rw [h0] at cH;clear h0
 go_enter func16,ntmps16
 go_wp2_with fail;refine qD2 λW1 Bt Ba hw=>?_;refine wp_loop_rounds 2 ?_;try rw [rounds_succ]
 have Gk:=J2 Bt.f Ba.f;go_wp2_with fail;clear Gk;refine qC2 (cH _) Bt Ba hw λw2 Bt Ba hw Gk=>?_;go_wp2_with fail;refine (xW none 0 0 [] (hdd rfl) (by omega) (by omega) _ (λj x hx=>by cases hx)).mono ?_;rintro e w9 ⟨a,cap,rfl,hr,hb⟩;have e0:srt cmpT ([]:List Tri3)=[]:=Je.1 (by rw [(zS _).length_eq];rfl);rw [e0] at hr;go_wp2
 go_ret
 exact ⟨a,cap,rfl,hr,(upB hw hb)⟩
theorem rcut_no2 (T:Tri3) (p:Pt) (h0:hasP T p=true) (h1:peqI p.x p.y T.A.x T.A.y=false) (h2:peqI p.x p.y T.B.x T.B.y=true) (w:World):Calls prog 16 #[T,p] w λe w'=>∃ a cap,e=.returned (.slice a 0 cap)/\RowAt cT 6 w' a []/\Below w w w':=by
 have cH:=qZ T p;rw [h0] at cH;clear h0
 go_enter func16,ntmps16
 go_wp2_with fail;refine qD2 λW1 Bt Ba hw=>?_;refine wp_loop_rounds 2 ?_;try rw [rounds_succ]
 have Gk:=J2 Bt.f Ba.f;go_wp2_with fail;clear Gk;refine qC2 (cH _) Bt Ba hw λw2 Bt Ba hw Gk=>?_;go_wp2_with fail;refine (xW none 0 0 [] (hdd rfl) (by omega) (by omega) _ (λj x hx=>by cases hx)).mono ?_;rintro e w9 ⟨a,cap,rfl,hr,hb⟩;have e0:srt cmpT ([]:List Tri3)=[]:=Je.1 (by rw [(zS _).length_eq];rfl);rw [e0] at hr;go_wp2
 go_ret
 exact ⟨a,cap,rfl,hr,(upB hw hb)⟩
theorem rcut_no3 (T:Tri3) (p:Pt) (h0:hasP T p=true) (h1:peqI p.x p.y T.A.x T.A.y=false) (h2:peqI p.x p.y T.B.x T.B.y=false) (h3:peqI p.x p.y T.C.x T.C.y=true) (w:World):Calls prog 16 #[T,p] w λe w'=>∃ a cap,e=.returned (.slice a 0 cap)/\RowAt cT 6 w' a []/\Below w w w':=by
 have cH:=qZ T p;rw [h0] at cH;clear h0
 go_enter func16,ntmps16
 go_wp2_with fail;refine qD2 λW1 Bt Ba hw=>?_;refine wp_loop_rounds 2 ?_;try rw [rounds_succ]
 have Gk:=J2 Bt.f Ba.f;go_wp2_with fail;clear Gk;refine qC2 (cH _) Bt Ba hw λw2 Bt Ba hw Gk=>?_;go_wp2_with fail;refine (xW none 0 0 [] (hdd rfl) (by omega) (by omega) _ (λj x hx=>by cases hx)).mono ?_;rintro e w9 ⟨a,cap,rfl,hr,hb⟩;have e0:srt cmpT ([]:List Tri3)=[]:=Je.1 (by rw [(zS _).length_eq];rfl);rw [e0] at hr;go_wp2
 go_ret
 exact ⟨a,cap,rfl,hr,(upB hw hb)⟩
theorem rcut_yes (T:Tri3) (p:Pt) (h0:hasP T p=true) (h1:peqI p.x p.y T.A.x T.A.y=false) (h2:peqI p.x p.y T.B.x T.B.y=false) (h3:peqI p.x p.y T.C.x T.C.y=false) (w:World):Calls prog 16 #[T,p] w λe w'=>∃ a cap,e=.returned (.slice a (srt cmpT (cutP p T)).length cap)/\(srt cmpT (cutP p T)).length<=cap/\RowAt cT 6 w' a (srt cmpT (cutP p T))/\Below w w w':=by
 have cH:=qZ T p;rw [h0] at cH;clear h0
 go_enter func16,ntmps16
 go_wp2_with fail;refine qD2 λW1 Bt Ba hw=>?_
 go_loopw [5,6] (λv i wr=>∃ (k:Nat) (j:Int),k<=3/\i=.int .i64 j/\Hi (j=k)/\wr.ownsRow (w.heap.size+2) 28 6 v (cutK p T k).length ((cutK p T k).flatMap cT)/\Box wr w [T.A.x,T.A.y,T.B.x,T.B.y,T.C.x,T.C.y] 28/\Box wr (w+1) [p.x,p.y] 26/\Below w w wr) (λ_ i _=>3 - (intOf i).toNat)
 case atStart=>exact ⟨0,0,by omega,rfl,hdd rfl,World.ownsRow_nil _ _ _ _,Bt,Ba,hw⟩
 case round=>
  clear Bt Ba hw;obtain ⟨k,j,hk,rfl,hj,hown,Bt,Ba,hw⟩:=hrel;have hk':k=0\/k=1\/k=2\/k=3:=by omega
  rcases hk' with rfl | rfl | rfl | rfl
  ·have hj:j=0:=by simpa using hj.o
   subst hj;have hq1:IntKind.i64.wrap (0+1)=1:=by decide
   have hq2:IntKind.i64.wrap 1=1:=by decide
   have c1:=yf T 0;have c2:=yf T 1;have c3:=yS (crn T 0) (crn T 1) p;have hst:cutK p T (0+1)=cutK p T 0 ++ part p (crn T 0) (crn T 1):=rfl;have hle:=ji p T 0;have HST:=hdd hst;have HLE:=hdd hle;clear hst hle;generalize eu:crn T 0=u at *
   generalize ev:crn T 1=v at *
   clear eu ev;obtain ⟨L1,hL1⟩:∃ L1,cutK p T 1=L1:=⟨_,rfl⟩;have HL1:=hdd hL1;rw [show cutK p T (0+1)=L1 from hL1] at HST;clear hL1;generalize cutK p T 0=L0 at *
   have Ft:=Bt.f;have Fa:=Ba.f;go_wp2_with fail;refine (cH _).mono ?_;rintro e w21 ⟨rfl,hb⟩;clear Ft Fa;replace Bt:=Bt.ee hb;replace Ba:=Ba.ee hb;replace hown:=yo hown hb;replace hw:=upB hw hb;clear hb;by_cases h0:ori u v p=0
   ·rw [show (!decide (ori u v p=0))=false by simp [h0]] at c3;have HL:=hdd (show L1=L0 by rw [HST.o];unfold part;rw [J1 h0];simp);generalize mk u v p=X at *
    clear h0 HST;have Ft:=Bt.f;have Fa:=Ba.f;go_wp2_with fail;have G7:=J2 Bt.cells Ba.cells;refine rgl 12 7 46 (λw41 bkz hb h1b h2b Bz=>?_);have ltz:=Bt.lt;have laz:=Ba.lt;have hw0z:=hw.size;clear G7;clear Ft Fa;obtain ⟨Bt,Ba,hw,-⟩:=qX2 Bt Ba hw hb;have fz:=h1b;have hwz:w.heap.size<=w21.heap.size:=hw0z;replace hown:=yo hown hb;clear hb h1b h2b hw0z;simp only [Act.put];have Ft:=Bt.f;have Fa:=Ba.f;have Fz:=Bz.f;go_wp2
    go_roundw
    case rel=>exact ⟨1,1,by omega,by first | rfl | go_num,hdd rfl,by rw [HL1.o,HL.o];exact hown,Bt,Ba,hw⟩
    case measure=>simp [intOf]
   ·rw [show (!decide (ori u v p=0))=true by simp [h0]] at c3;have HL:=hdd (show L1=L0 ++ [mk u v p] by rw [HST.o];unfold part;rw [Kl h0]);generalize mk u v p=X at *
    clear h0 HST;have Ft:=Bt.f;have Fa:=Ba.f;go_wp2_with fail;have G7:=J2 Bt.cells Ba.cells;refine rgl 12 7 46 (λw41 bkz hb h1b h2b Bz=>?_);have ltz:=Bt.lt;have laz:=Ba.lt;have hw0z:=hw.size;clear G7;clear Ft Fa;obtain ⟨Bt,Ba,hw,-⟩:=qX2 Bt Ba hw hb;have fz:=h1b;have hwz:w.heap.size<=w21.heap.size:=hw0z;replace hown:=yo hown hb;clear hb h1b h2b hw0z;simp only [Act.put];have Ft:=Bt.f;have Fa:=Ba.f;have Fz:=Bz.f;have HB:=hdd hw.size;go_wp2_with (at_builtin;refine yI rfl _ _ rfl (w.heap.size+2) _ L0 rfl (hown.alloc _) (w41.heap.size) X rfl (Box.new (by simp)) (by have:=HLE.o;omega) (by have:=HB.o;have:=Ba.lt;simp;omega) ?_;intro w4 v4 hown4 hg4)
    have hlt:=λk hk=>((hown.alloc (.cells (cT X).toArray 28)).lt k hk).1;have Bt4:=(Bt.old (.cells (cT X).toArray 28)).grown2 hg4 (λk hk=>by have:=hlt k hk;omega);have Ba4:=(Ba.old (.cells (cT X).toArray 28)).grown2 hg4 (λk hk=>by have:=hlt k hk;omega);have hw4:=(hw.alloc hw.size (.cells (cT X).toArray 28)).grown hg4 (by have:=hw.size;simp;omega) (λk hk=>by have:=hlt k hk;omega)
    go_roundw
    case rel=>exact ⟨1,1,by omega,by first | rfl | go_num,hdd rfl,by rw [HL1.o,HL.o];exact hown4,Bt4,Ba4,hw4⟩
    case measure=>simp [intOf]
  ·have hj:j=1:=by simpa using hj.o
   subst hj;have hq1:IntKind.i64.wrap (1+1)=2:=by decide
   have hq2:IntKind.i64.wrap 2=2:=by decide
   have c1:=yf T 1;have c2:=yf T 2;have c3:=yS (crn T 1) (crn T 2) p;have hst:cutK p T (1+1)=cutK p T 1 ++ part p (crn T 1) (crn T 2):=rfl;have hle:=ji p T 1;have HST:=hdd hst;have HLE:=hdd hle;clear hst hle;generalize eu:crn T 1=u at *
   generalize ev:crn T 2=v at *
   clear eu ev;obtain ⟨L1,hL1⟩:∃ L1,cutK p T 2=L1:=⟨_,rfl⟩;have HL1:=hdd hL1;rw [show cutK p T (1+1)=L1 from hL1] at HST;clear hL1;generalize cutK p T 1=L0 at *
   have Ft:=Bt.f;have Fa:=Ba.f;go_wp2_with fail;refine (cH _).mono ?_;rintro e w21 ⟨rfl,hb⟩;clear Ft Fa;replace Bt:=Bt.ee hb;replace Ba:=Ba.ee hb;replace hown:=yo hown hb;replace hw:=upB hw hb;clear hb;by_cases h0:ori u v p=0
   ·rw [show (!decide (ori u v p=0))=false by simp [h0]] at c3;have HL:=hdd (show L1=L0 by rw [HST.o];unfold part;rw [J1 h0];simp);generalize mk u v p=X at *
    clear h0 HST;have Ft:=Bt.f;have Fa:=Ba.f;go_wp2_with fail;have G7:=J2 Bt.cells Ba.cells;refine rgl 12 7 46 (λw41 bkz hb h1b h2b Bz=>?_);have ltz:=Bt.lt;have laz:=Ba.lt;have hw0z:=hw.size;clear G7;clear Ft Fa;obtain ⟨Bt,Ba,hw,-⟩:=qX2 Bt Ba hw hb;have fz:=h1b;have hwz:w.heap.size<=w21.heap.size:=hw0z;replace hown:=yo hown hb;clear hb h1b h2b hw0z;simp only [Act.put];have Ft:=Bt.f;have Fa:=Ba.f;have Fz:=Bz.f;go_wp2
    go_roundw
    case rel=>exact ⟨2,2,by omega,by first | rfl | go_num,hdd rfl,by rw [HL1.o,HL.o];exact hown,Bt,Ba,hw⟩
    case measure=>simp [intOf]
   ·rw [show (!decide (ori u v p=0))=true by simp [h0]] at c3;have HL:=hdd (show L1=L0 ++ [mk u v p] by rw [HST.o];unfold part;rw [Kl h0]);generalize mk u v p=X at *
    clear h0 HST;have Ft:=Bt.f;have Fa:=Ba.f;go_wp2_with fail;have G7:=J2 Bt.cells Ba.cells;refine rgl 12 7 46 (λw41 bkz hb h1b h2b Bz=>?_);have ltz:=Bt.lt;have laz:=Ba.lt;have hw0z:=hw.size;clear G7;clear Ft Fa;obtain ⟨Bt,Ba,hw,-⟩:=qX2 Bt Ba hw hb;have fz:=h1b;have hwz:w.heap.size<=w21.heap.size:=hw0z;replace hown:=yo hown hb;clear hb h1b h2b hw0z;simp only [Act.put];have Ft:=Bt.f;have Fa:=Ba.f;have Fz:=Bz.f;have HB:=hdd hw.size;go_wp2_with (at_builtin;refine yI rfl _ _ rfl (w.heap.size+2) _ L0 rfl (hown.alloc _) (w41.heap.size) X rfl (Box.new (by simp)) (by have:=HLE.o;omega) (by have:=HB.o;have:=Ba.lt;simp;omega) ?_;intro w4 v4 hown4 hg4)
    have hlt:=λk hk=>((hown.alloc (.cells (cT X).toArray 28)).lt k hk).1;have Bt4:=(Bt.old (.cells (cT X).toArray 28)).grown2 hg4 (λk hk=>by have:=hlt k hk;omega);have Ba4:=(Ba.old (.cells (cT X).toArray 28)).grown2 hg4 (λk hk=>by have:=hlt k hk;omega);have hw4:=(hw.alloc hw.size (.cells (cT X).toArray 28)).grown hg4 (by have:=hw.size;simp;omega) (λk hk=>by have:=hlt k hk;omega)
    go_roundw
    case rel=>exact ⟨2,2,by omega,by first | rfl | go_num,hdd rfl,by rw [HL1.o,HL.o];exact hown4,Bt4,Ba4,hw4⟩
    case measure=>simp [intOf]
  ·have hj:j=2:=by simpa using hj.o
   subst hj;have hq1:IntKind.i64.wrap (2+1)=3:=by decide
   have hq2:IntKind.i64.wrap 3=3:=by decide
   have c1:=yf T 2;have c2:=yf T 3;have c3:=yS (crn T 2) (crn T 3) p;have hst:cutK p T (2+1)=cutK p T 2 ++ part p (crn T 2) (crn T 3):=rfl;have hle:=ji p T 2;have HST:=hdd hst;have HLE:=hdd hle;clear hst hle;generalize eu:crn T 2=u at *
   generalize ev:crn T 3=v at *
   clear eu ev;obtain ⟨L1,hL1⟩:∃ L1,cutK p T 3=L1:=⟨_,rfl⟩;have HL1:=hdd hL1;rw [show cutK p T (2+1)=L1 from hL1] at HST;clear hL1;generalize cutK p T 2=L0 at *
   have Ft:=Bt.f;have Fa:=Ba.f;go_wp2_with fail;refine (cH _).mono ?_;rintro e w21 ⟨rfl,hb⟩;clear Ft Fa;replace Bt:=Bt.ee hb;replace Ba:=Ba.ee hb;replace hown:=yo hown hb;replace hw:=upB hw hb;clear hb;by_cases h0:ori u v p=0
   ·rw [show (!decide (ori u v p=0))=false by simp [h0]] at c3;have HL:=hdd (show L1=L0 by rw [HST.o];unfold part;rw [J1 h0];simp);generalize mk u v p=X at *
    clear h0 HST;have Ft:=Bt.f;have Fa:=Ba.f;go_wp2_with fail;have G7:=J2 Bt.cells Ba.cells;refine rgl 12 7 46 (λw41 bkz hb h1b h2b Bz=>?_);have ltz:=Bt.lt;have laz:=Ba.lt;have hw0z:=hw.size;clear G7;clear Ft Fa;obtain ⟨Bt,Ba,hw,-⟩:=qX2 Bt Ba hw hb;have fz:=h1b;have hwz:w.heap.size<=w21.heap.size:=hw0z;replace hown:=yo hown hb;clear hb h1b h2b hw0z;simp only [Act.put];have Ft:=Bt.f;have Fa:=Ba.f;have Fz:=Bz.f;go_wp2
    go_roundw
    case rel=>exact ⟨3,3,by omega,by first | rfl | go_num,hdd rfl,by rw [HL1.o,HL.o];exact hown,Bt,Ba,hw⟩
    case measure=>simp [intOf]
   ·rw [show (!decide (ori u v p=0))=true by simp [h0]] at c3;have HL:=hdd (show L1=L0 ++ [mk u v p] by rw [HST.o];unfold part;rw [Kl h0]);generalize mk u v p=X at *
    clear h0 HST;have Ft:=Bt.f;have Fa:=Ba.f;go_wp2_with fail;have G7:=J2 Bt.cells Ba.cells;refine rgl 12 7 46 (λw41 bkz hb h1b h2b Bz=>?_);have ltz:=Bt.lt;have laz:=Ba.lt;have hw0z:=hw.size;clear G7;clear Ft Fa;obtain ⟨Bt,Ba,hw,-⟩:=qX2 Bt Ba hw hb;have fz:=h1b;have hwz:w.heap.size<=w21.heap.size:=hw0z;replace hown:=yo hown hb;clear hb h1b h2b hw0z;simp only [Act.put];have Ft:=Bt.f;have Fa:=Ba.f;have Fz:=Bz.f;have HB:=hdd hw.size;go_wp2_with (at_builtin;refine yI rfl _ _ rfl (w.heap.size+2) _ L0 rfl (hown.alloc _) (w41.heap.size) X rfl (Box.new (by simp)) (by have:=HLE.o;omega) (by have:=HB.o;have:=Ba.lt;simp;omega) ?_;intro w4 v4 hown4 hg4)
    have hlt:=λk hk=>((hown.alloc (.cells (cT X).toArray 28)).lt k hk).1;have Bt4:=(Bt.old (.cells (cT X).toArray 28)).grown2 hg4 (λk hk=>by have:=hlt k hk;omega);have Ba4:=(Ba.old (.cells (cT X).toArray 28)).grown2 hg4 (λk hk=>by have:=hlt k hk;omega);have hw4:=(hw.alloc hw.size (.cells (cT X).toArray 28)).grown hg4 (by have:=hw.size;simp;omega) (λk hk=>by have:=hlt k hk;omega)
    go_roundw
    case rel=>exact ⟨3,3,by omega,by first | rfl | go_num,hdd rfl,by rw [HL1.o,HL.o];exact hown4,Bt4,Ba4,hw4⟩
    case measure=>simp [intOf]
  ·have hj:j=3:=by simpa using hj.o
   subst hj;rw [cutK3 p T] at hown;obtain ⟨a1,c1,rfl,hc1,hr1⟩:=zw kr hown;have hle:=km p T;have hlen:=hdd (show (cutP p T).length=(srt cmpT (cutP p T)).length from (zS _).length_eq.symm);have Ft:=Bt.f;have Fa:=Ba.f;go_wp2_with fail;refine (jR _ _ _ _ (hdd rfl) (by omega) hc1 _ hr1).mono ?_;rintro e w9 ⟨a,cap,rfl,hcap,hr,hb⟩;go_wp2
   go_ret
   exact ⟨a,cap,by rw [hlen.o];rfl,by rw [<-hlen.o];exact hcap,hr,(upB hw hb)⟩
theorem rcut_cap (T:Tri3) (p:Pt) (w:World):Calls prog 16 #[T,p] w λe w'=>∃ a cap,e=.returned (.slice a (srt cmpT (cutR T p)).length cap)/\(srt cmpT (cutR T p)).length<=cap/\RowAt cT 6 w' a (srt cmpT (cutR T p))/\Below w w w':=by
 unfold cutR cutOk;have z:srt cmpT ([]:List Tri3)=[]:=Je.1 (by rw [(zS _).length_eq];rfl);cases h0:hasP T p with
 | false=>simpa [z] using rcut_no0 T p h0 w
 | true=>
  cases h1:peqI p.x p.y T.A.x T.A.y with
  | true=>simpa [z] using rcut_no1 T p h0 h1 w
  | false=>
   cases h2:peqI p.x p.y T.B.x T.B.y with
   | true=>simpa [z] using rcut_no2 T p h0 h1 h2 w
   | false=>
    cases h3:peqI p.x p.y T.C.x T.C.y with
    | true=>simpa [z] using rcut_no3 T p h0 h1 h2 h3 w
    | false=>simpa using rcut_yes T p h0 h1 h2 h3 w
theorem YZ (T : Tri3) (p : Pt) (w : World) :
    Calls prog 16 #[T,p] w λe w'=>∃ a cap,e=.returned (.slice a (srt cmpT (cutR T p)).length cap)/\RowAt cT 6 w' a (srt cmpT (cutR T p))/\Below w w w':=(rcut_cap T p w).mono λ_ _ ⟨a,cap,h1,_,h3,h4⟩=>⟨a,cap,h1,h3,h4⟩
def starE (p:Pt) (E:Es):List Tri3:=(E.filter λe=>decide (e.1.1=p)).map (·.2)
theorem ut {p:Pt} {E F:Es} (h:E.Perm F):(starE p E).Perm (starE p F):=(h.filter _).map _
theorem qq (p:Pt) (E F:Es):starE p (E ++ F)=starE p E ++ starE p F:=by unfold starE;rw [QV,QA]
theorem ZN (p:Pt) (E:Es):(starE p E).length<=E.length:=by unfold starE;rw [Qq];exact Qe _ _
theorem starE_yes {p:Pt} {e:(Pt×Pt)×Tri3} (h:e.1.1=p):starE p [e]=[e.2]:=by simp [starE,h]
theorem starE_no {p:Pt} {e:(Pt×Pt)×Tri3} (h:¬ e.1.1=p):starE p [e]=[]:=by simp [starE,h]
theorem xA (mb b:Nat) (E:Es) (p:Pt) (hE:E.length<=1000000) (w:World) (Bm:Box w mb [.map (some b)] 93) (Hm:Hs w b E):Calls prog 26 #[pt0 mb,p] w λe w'=>∃ a cap,e=.returned (.slice a (srt cmpT (starE p E)).length cap)/\RowAt cT 6 w' a (srt cmpT (starE p E))/\Below w w w':=by
 have Fm:=Bm.f
 go_enter func26,ntmps26
 go_wp2_with (at_range;refine yJ _ rfl _ rfl kvR rfl (Hm.alloc _) ?_)
 intro w0 HR0 hw0 hs0;have Bp0:Box w0 w [p.x,p.y] 26:=(Box.new rfl).ext hw0 (by simp);replace hw0:Below w w w0:=((Below.refl w.heap.size w).alloc (JA _) _).trans (hw0.mono (by simp));clear Fm;go_wp2
 go_loopw [5] (λv wr=>∃ D R:Es,Hi ((D ++ R).Perm E)/\wr.ownsRow (w.heap.size+1) 28 6 v (starE p D).length ((starE p D).flatMap cT)/\Ranging eW eT okW wr b (w.heap.size+1) E R/\Box wr w [p.x,p.y] 26/\Below w w wr) (λ_ wr=>wr.rangeLeft b (w.heap.size+1))
 case atStart=>exact ⟨[],E,hdd (by simp),World.ownsRow_nil _ _ _ _,by simpa using HR0,Bp0,hw0⟩
 case round=>
  clear HR0 hw0 Bp0;obtain ⟨D,R,hD,hown,HR,Bp,hw⟩:=hrel;go_wp2_with (at_next;refine yN _ rfl _ rfl rfl HR ?_ ?_)
  ·intro hR;subst hR;have hp0:(starE p D).Perm (starE p E):=ut (by simpa using hD.o);have hle:(starE p D).length<=1000000:=by have:=hp0.length_eq;have:=ZN p E;omega
   have HS:=hdd (wholeT.srt_of_perm hp0);obtain ⟨a1,c1,rfl,hc1,hr1⟩:=zw kr hown;have hlen:=hdd (show (starE p D).length=(srt cmpT (starE p E)).length by rw [<-HS.o];exact (zS _).length_eq.symm);go_wp2_with fail;refine (xW _ _ _ _ (hdd rfl) hle hc1 _ hr1).mono ?_;rintro e w2 ⟨a,cap,rfl,hr,hb⟩;go_wp2
   go_ret
   rw [HS.o] at hr;exact ⟨a,cap,by rw [hlen.o];rfl,hr,(upB hw hb)⟩
  ·intro u x T R' w1 hperm HR1 hg1 hs1 hen;have hD2:=hdd (show ((D ++ [((u,x),T)]) ++ R').Perm E by have:=(hperm.append_left D).symm.trans hD.o;simpa using this);have own1:=hown.kept hg1 (.inr (λe=>zv hown HR e.symm));have Bp1:=Bp.grown1 hg1;have hw1:=hw.grown hg1 hw.size (λk hk=>by cases hk;omega);have HL:=hdd (show w1.rangeLeft b (w.heap.size+1) < wr.rangeLeft b (w.heap.size+1) by rw [zT HR1,zT HR,hperm.length_eq];simp);have hen2:(Instr.entry (.pointer (some ⟨w+1,0,none⟩))).run prog w1=.ok (.tuple #[.agg #[u.x,u.y,x.x,x.y],T]) w1:=hen;have hle:(starE p D).length<=1000000:=by have:=hD2.o.length_eq;have:=ZN p D;simp at *;omega
   have HB:=hdd hw1.size;clear hown HR hg1 hs1 hen hperm hw Bp;have e1:(w.heap.size=w1.heap.size+1)=False:=by have:=Bp1.lt;simp;omega
   by_cases hA:u=p
   ·have hd:peqI u.x u.y p.x p.y=true:=yw.2 hA;have HH:=hdd (show starE p (D ++ [((u,x),T)])=starE p D ++ [T] by rw [qq,starE_yes hA]);clear hA;have Fp:=Bp1.f;have hb3:Below w1 w1 ((w1.alloc (.cells #[u.x,u.y,x.x,x.y] 95)).alloc (.cells (cT T).toArray 28)):=by go_grown
    have own3:=(own1.alloc (.cells #[u.x,u.y,x.x,x.y] 95)).alloc (.cells (cT T).toArray 28);go_wp2_with (at_builtin;refine yI rfl _ _ rfl (w.heap.size+1) _ (starE p D) rfl (own3.alloc _) (w1.heap.size+1+1) T rfl (Box.new (by simp)) hle (by have:=HB.o;simp;omega) ?_;intro w4 v4 hown4 hg4)
    have hR3:=(HR1.ee hb3).kept (World.grownBy_alloc _ (.cells (cT T).toArray 28) none) (by simp) (by simp);have hR4:=hR3.kept hg4 (yF (own3.alloc _) hR3.holds) (zv (own3.alloc _) hR3);have hw4:=((((upB hw1 hb3)).alloc (by have:=HB.o;simp;omega) (.cells (cT T).toArray 28))).grown hg4 (by have:=HB.o;simp;omega) (λk hk=>by have:=((own3.alloc (.cells (cT T).toArray 28)).lt k hk).1;omega);have Bp4:=(((Bp1.old _).old _).old _).grown2 hg4 (λk hk=>by have:=((own3.alloc (.cells (cT T).toArray 28)).lt k hk).1;omega)
    go_roundw
    case rel=>exact ⟨D ++ [((u,x),T)],R',hD2,by rw [HH.o];exact hown4,hR4,Bp4,hw4⟩
    case measure=>rw [zT hR4,<-zT HR1];exact HL.o
   ·have hd:peqI u.x u.y p.x p.y=false:=by rw [<-QF,yw];exact hA
    have HH:=hdd (show starE p (D ++ [((u,x),T)])=starE p D by rw [qq,starE_no hA];simp);clear hA;have Fp:=Bp1.f;go_wp2
    go_roundw
    case rel=>exact ⟨D ++ [((u,x),T)],R',hD2,by rw [HH.o];exact (own1.alloc _).alloc _,HR1.ext (by go_grown) rfl,(Bp1.old _).old _,by have:=hw1.size;go_grown⟩
    case measure=>rw [zT ((HR1.ext (w':=(w1.alloc _).alloc _) (by go_grown) rfl)),<-zT HR1];exact HL.o
end
section
open Go.RowKit Go.Sort
attribute [local go_sem] rOper rAt rUpon cell_set sg_i64 sg_u64 alloc_cell alloc_frozen
attribute [local go_sem 10000] pt_eql pt_neq wal_eql wal_neq
attribute [local irreducible] rWalk
def onD (p:Pt) (x:Wl):Bool := !decide (p=x.A) && (!decide (p=x.B) && onR p x.A x.B)
theorem Xn (p:Pt) (x:Wl):onD p x=(!peqI p.x p.y x.A.x x.A.y && (!peqI p.x p.y x.B.x x.B.y && onR p x.A x.B)):=by rw [zo,zo];rfl
theorem jz (db:Nat) (a0:Option Addr) (c n:Nat) (L:List Wl) (p:Pt) (w:World) (D:DocRd w db a0 c n L):Calls prog 23 #[pt0 db,p] w (Rt w (onV (L.find? (onD p)))):=by
 have hdb:=D.box.lt;have HM:=hdd D.len;have hn:n<=1000000:=D.len▸D.le;have HD:=hdd D;clear D
 go_enter func23,ntmps23
 go_wp2_with fail;refine zG λW1 hW=>?_;have BP:Box W1 w [p.x,p.y] 26:=by rw [hW];exact (Box.new rfl).old _
 have BR:Box W1 (w+1) [(),(),(),(),()] 57:=by rw [hW];exact Box.new (by simp)
 have hw:Below w w W1:=by rw [hW];go_grown
 clear hW
 go_loopw [6] (λvi wr=>∃ k:Nat,k<=n/\vi=.int .i64 k/\Hi ((L.take k).find? (onD p)=none)/\Below w w wr/\Box wr w [p.x,p.y] 26/\Box wr (w+1) [(),(),(),(),()] 57) (λvi _=>n - (intOf vi).toNat)
 case atStart=>exact ⟨0,JZ _,rfl,hdd rfl,hw,BP,BR⟩
 case round=>
  clear BP BR hw;obtain ⟨k,hk,rfl,HI,hwr,BP,BR⟩:=hrel;have BD:=(HD.o.ee hwr).box;by_cases hlt:k < n
  ·have hkL:k < L.length:=by rw [HM.o];exact hlt
   obtain ⟨ad,A,ea,eA,hA⟩:=(HD.o.ee hwr).row.five (j:=k) hkL;have HX:Hi (L[k]=L[k]):=hdd rfl;generalize hX:L[k]=X at hA HX
   clear HX;have HX:=hdd hX;clear hX;obtain ⟨u0,u1,u2,u3,u4,u5⟩:=hA.f;obtain ⟨y0,y1,y2,y3⟩:=BP.f;obtain ⟨d0,d1,d2,d3⟩:=BD.f;obtain ⟨z0,z1,z2,z3⟩:=BR.f;subst ea;have c1:=vA p X.A X.B;cases e1:peqI p.x p.y X.A.x X.A.y with
   | true=>
    have HE:Hi (onD p X=false):=hdd (by rw [Xn,e1];rfl);have HF:Hi ((L.take (k+1)).find? (onD p)=none):=hdd (xv hkL HI.o (by rw [HX.o];exact HE.o));clear HE HX HI;have HP:=hdd BP;have HR:=hdd BR;clear BP BR BD;go_wp2
    go_roundw
    case rel=>exact ⟨k+1,hlt,by go_num,HF,by have hl:=hwr.size;go_grown,HP.o.old _,HR.o.old _⟩
    case measure=>simp [intOf];omega
   | false=>
    cases e2:peqI p.x p.y X.B.x X.B.y with
    | true=>
     have HE:Hi (onD p X=false):=hdd (by rw [Xn,e1,e2];rfl);have HF:Hi ((L.take (k+1)).find? (onD p)=none):=hdd (xv hkL HI.o (by rw [HX.o];exact HE.o));clear HE HX HI;have HP:=hdd BP;have HR:=hdd BR;clear BP BR BD;go_wp2
     go_roundw
     case rel=>exact ⟨k+1,hlt,by go_num,HF,by have hl:=hwr.size;go_grown,HP.o.old _,HR.o.old _⟩
     case measure=>simp [intOf];omega
    | false=>
     cases e4:onR p X.A X.B with
     | false=>
      have HE:Hi (onD p X=false):=hdd (by rw [Xn,e1,e2,e4];rfl);rw [e4] at c1;clear e4;have HF:Hi ((L.take (k+1)).find? (onD p)=none):=hdd (xv hkL HI.o (by rw [HX.o];exact HE.o));clear HE HX HI;have HP:=hdd BP;have HR:=hdd BR;have HW:=hdd hwr;go_wp2_with fail;refine zI λW2 hW=>?_;have BP2:Box W2 w [p.x,p.y] 26:=by rw [hW];exact HP.o.old _
      have BR2:Box W2 (w+1) [(),(),(),(),()] 57:=by rw [hW];exact HR.o.old _
      have BX2:Box W2 wr [X.A.x,X.A.y,X.B.x,X.B.y,X.K] 57:=by rw [hW];exact Box.new rfl
      have hw2:Below w w W2:=by have hl:=hwr.size;rw [hW];go_grown
      clear hW BP BR hwr y0 y1 y2 y3 z0 z1 z2 z3 u0 u1 u2 u3 u4 u5 hA d0 d1 d2 d3 BD;refine (c1 W2).mono ?_;rintro e w3 ⟨rfl,hb⟩;have l1:w.heap.size+1 < wr.heap.size:=HR.o.lt;replace BP2:=BP2.ee hb;replace BR2:=BR2.ee hb;replace BX2:=BX2.ee hb;replace hw2:=upB hw2 hb;clear hb;obtain ⟨y0,y1,y2,y3⟩:=BP2.f;obtain ⟨z0,z1,z2,z3⟩:=BR2.f;obtain ⟨u0,u1,u2,u3⟩:=BX2.f;go_wp2
      go_roundw
      case rel=>exact ⟨k+1,hlt,by go_num,HF,hw2,BP2,BR2⟩
      case measure=>simp [intOf];omega
     | true=>
      have HE:Hi (onD p X=true):=hdd (by rw [Xn,e1,e2,e4];rfl);rw [e4] at c1;clear e4;have HP:=hdd BP;have HR:=hdd BR;have HW:=hdd hwr;go_wp2_with fail;refine zI λW2 hW=>?_;have BP2:Box W2 w [p.x,p.y] 26:=by rw [hW];exact HP.o.old _
      have BR2:Box W2 (w+1) [(),(),(),(),()] 57:=by rw [hW];exact HR.o.old _
      have BX2:Box W2 wr [X.A.x,X.A.y,X.B.x,X.B.y,X.K] 57:=by rw [hW];exact Box.new rfl
      have hw2:Below w w W2:=by have hl:=hwr.size;rw [hW];go_grown
      clear hW BP BR hwr y0 y1 y2 y3 z0 z1 z2 z3 u0 u1 u2 u3 u4 u5 hA d0 d1 d2 d3 BD;refine (c1 W2).mono ?_;rintro e w3 ⟨rfl,hb⟩;have l1:w.heap.size+1 < wr.heap.size:=HR.o.lt;replace BP2:=BP2.ee hb;replace BR2:=BR2.ee hb;replace BX2:=BX2.ee hb;replace hw2:=upB hw2 hb;clear hb;obtain ⟨y0,y1,y2,y3⟩:=BP2.f;obtain ⟨z0,z1,z2,z3⟩:=BR2.f;obtain ⟨u0,u1,u2,u3⟩:=BX2.f;have HF:Hi (L.find? (onD p)=some X):=hdd (by rw [<-HX.o];exact Zw hkL HI.o (by rw [HX.o];exact HE.o));clear HE HX HI;go_wp2_with fail;refine bodyPost_ret (v:=.tuple #[.agg #[X.A.x,X.A.y,X.B.x,X.B.y,X.K],.bool true]) (by simp [results,results23,go_sem,z0]) rfl ⟨?_,by have hl:=hw2.size;go_grown⟩;rw [HF.o];rfl
  ·obtain rfl:k=n:=by omega
   have HF:Hi (L.find? (onD p)=none):=hdd (XH (by rw [HM.o];exact HI.o));clear HI;obtain ⟨z0,z1,z2,z3⟩:=BR.f;obtain ⟨d0,d1,d2,d3⟩:=BD.f;go_wp2_with fail;refine bodyPost_ret (v:=.tuple #[.agg #[(),(),(),(),()],.bool false]) (by simp [results,results23,go_sem,z0]) rfl ⟨?_,by have hl:=hwr.size;go_grown⟩;rw [HF.o];rfl
attribute [local go_sem ↓ 10000] jQ run_upto_wal
def RemAt (L:List Wl) (p q:Pt) (r:Int) (L':List Wl):Prop:=
 (r=16/\L'=L/\∀ x∈L,isW p q x=false)\/(r=0/\∃ (k:Nat) (h:k < L.length),isW p q L[k]=true/\L'=L.take k ++ L.drop (k+1))
theorem Kh (p q:Pt) (x:Wl):isW p q x=(peqI x.A.x x.A.y p.x p.y && peqI x.B.x x.B.y q.x q.y):=by rw [zo,zo];rfl
theorem rrem_any (db:Nat) (v:Value) (L:List Wl) (a b:Pt) (w:World) (S:DocAt w db v L):Calls prog 91 #[pt0 db,a,b] w λe w'=>∃ r v' L',e=.returned (.int .i64 r)/\RemAt L (rl a b) (rg a b) r L'/\DocAt w' db v' L'/\Frm w w' (· = db)/\(∀ g,v'.ownBlock=some g->v.ownBlock=some g\/w.heap.size<=g):=by
 obtain ⟨a0,c,rfl,D,hz⟩:=S.rd;have HS:=hdd S;clear S;have hdb:=D.box.lt;have hle:=D.le;obtain ⟨n,hn⟩:∃ n,L.length=n:=⟨_,rfl⟩;rw [hn] at D HS hle;have HM:=hdd hn;have hnc:=D.nc;have hfl:=D.flat;have HD:=hdd D;clear D hn;have c1:=jp a b;have c2:=jq a b;generalize rl a b=p at *
 generalize rg a b=q at *
 go_enter func91,ntmps91
 go_wp2_with fail;refine zG λW1 hW=>?_;have BA:Box W1 w [a.x,a.y] 26:=by rw [hW];exact (Box.new rfl).old _
 have BB:Box W1 (w+1) [b.x,b.y] 26:=by rw [hW];exact Box.new (by simp)
 have hw:Below w w W1:=by rw [hW];go_grown
 clear hW
 go_loopw [7] (λvi wr=>∃ k:Nat,k<=n/\vi=.int .i64 k/\Hi (∀ (j:Nat) (h:j < L.length),j < k->isW p q L[j]=false)/\Below w w wr/\Box wr w [a.x,a.y] 26/\Box wr (w+1) [b.x,b.y] 26) (λvi _=>n - (intOf vi).toNat)
 case atStart=>exact ⟨0,JZ _,rfl,hdd (λj h hj=>by omega),hw,BA,BB⟩
 case round=>
  clear BA BB hw;obtain ⟨k,hk,rfl,HA,hwr,BA,BB⟩:=hrel;have BD:=(HD.o.ee hwr).box;have hrow:=(HD.o.ee hwr).row;by_cases hkn:k < n
  ·have hkL:k < L.length:=by rw [HM.o];exact hkn
   obtain ⟨aj,A,ea,eA,hA5⟩:=hrow.five (j:=k) hkL;have HY:Hi (L[k]=L[k]):=hdd rfl;generalize hY:L[k]=Y at hA5 HY
   clear HY;have HY:=hdd hY;clear hY;obtain ⟨s0,s1,s2,s3,s4⟩:=hA5.cells;have gA:=BA.cells;have gB:=BB.cells;have gD:=BD.cells;obtain ⟨d0,d1,d2,d3⟩:=BD.f;have q3:(k:Int) < (n:Int):=by omega
   have q4:(0:Int)<=(k:Int):=by omega
   subst ea;clear hA5;cases e1:peqI Y.A.x Y.A.y p.x p.y with
   | false=>
    have HE:Hi (isW p q Y=false):=hdd (by rw [Kh,e1];rfl);have HA2:Hi (∀ (j:Nat) (h:j < L.length),j < k+1->isW p q L[j]=false):=hdd (λj h hj=>by
     by_cases e:j=k
     ·subst e;rw [HY.o];exact HE.o
     ·exact HA.o j h (by omega))
    clear HA HY HE;go_wp2_with fail;refine (wp_region_tail 25 (by kernel_rfl) (by kernel_rfl) (C:=λw'=>∃ p:Regrown,w'=grow (redrawn wr p.d) p.os) rgB ?_);simp only [tK1,tK0,dP1,dP0];refine wkx ?_;intro wx hb;replace BA:=BA.ee hb;replace BB:=BB.ee hb;replace BD:=BD.ee hb;replace hrow:=hrow.ee hb;replace hwr:=upB hwr hb;clear hb gA gB gD d0 d1 d2 d3 s0 s1 s2 s3 s4 c1 c2 q3 q4;have HQ:=hdd hwr;have HBA:=hdd BA;have HBB:=hdd BB;clear BA BB BD hrow hwr;go_wp2
    go_roundw
    case rel=>exact ⟨k+1,hkn,by go_num,HA2,HQ.o,HBA.o,HBB.o⟩
    case measure=>simp [intOf];omega
   | true=>
    cases e2:peqI Y.B.x Y.B.y q.x q.y with
    | false=>
     have HE:Hi (isW p q Y=false):=hdd (by rw [Kh,e1,e2];rfl);have HA2:Hi (∀ (j:Nat) (h:j < L.length),j < k+1->isW p q L[j]=false):=hdd (λj h hj=>by
      by_cases e:j=k
      ·subst e;rw [HY.o];exact HE.o
      ·exact HA.o j h (by omega))
     clear HA HY HE;go_wp2_with fail;refine (wp_region_tail 25 (by kernel_rfl) (by kernel_rfl) (C:=λw'=>∃ p:Regrown,w'=grow (redrawn wr p.d) p.os) rgB ?_);simp only [tK1,tK0,dP1,dP0];refine wkx ?_;intro wx hb;replace BA:=BA.ee hb;replace BB:=BB.ee hb;replace BD:=BD.ee hb;replace hrow:=hrow.ee hb;replace hwr:=upB hwr hb;clear hb gA gB gD d0 d1 d2 d3 s0 s1 s2 s3 s4 c1 c2 q3 q4;have HQ:=hdd hwr;have HBA:=hdd BA;have HBB:=hdd BB;clear BA BB BD hrow hwr;go_wp2
     go_roundw
     case rel=>exact ⟨k+1,hkn,by go_num,HA2,HQ.o,HBA.o,HBB.o⟩
     case measure=>simp [intOf];omega
    | true=>
     have HE:Hi (isW p q Y=true):=hdd (by rw [Kh,e1,e2];rfl);obtain ⟨k1,hk1⟩:∃ k1,k+1=k1:=⟨_,rfl⟩;have HREM:Hi (RemAt L p q 0 (L.take k ++ L.drop k1)):=hdd (.inr ⟨rfl,k,hkL,by rw [HY.o];exact HE.o,by rw [hk1]⟩);clear HA HY HE;go_wp2_with fail;refine (wp_region_tail 25 (by kernel_rfl) (by kernel_rfl) (C:=λw'=>∃ p:Regrown,w'=grow (redrawn wr p.d) p.os) rgB ?_);simp only [tK1,tK0,dP1,dP0];refine wkx ?_;intro wx hb;replace BA:=BA.ee hb;replace BB:=BB.ee hb;replace BD:=BD.ee hb;replace hrow:=hrow.ee hb;replace hwr:=upB hwr hb;clear hb gA gB gD d0 d1 d2 d3 s0 s1 s2 s3 s4 c1 c2 q3 q4;obtain ⟨ad,had,hdr,hfl2,hnil⟩:=jL hrow HM.o hnc hfl (show k1<=n by omega) hz;have HAD:=hdd had;have HT1:=hdd (show (L.take k).length=k by rw [JV,HM.o];omega);have HT2:=hdd (show (L.drop k1).length=n - k1 by rw [JR,HM.o]);have hk6:k<=1000000:=by omega
     have hk7:k+(n - k1)<=1000000:=by omega
     have q5:IntKind.i64.wrap ((k:Int)+1)=(k1:Int):=by rw [IntKind.wrap_i64];omega
     have gD:=BD.cells;have z2:k<=c:=by omega
     have z3:k1<=n:=by omega
     clear had hk1 e1 e2;go_wp2_with fail;have hcB:∀ w',(∃ p:Regrown,w'=grow (redrawn wx p.d) p.os)->Below wx wx w':=λw' h=>by obtain ⟨p,rfl⟩:=h;exact below_regrown _ _ _
     refine FT.wp_region_flow 17 (.run 0 (.run 2 (.run 3 (.run 4 (.run 5 (.run 6 (.run 7 (.run 9 (.run 10 (.run 11 (.run 12 (.run 13 (.run 14 (.run 15 (.alt 1 (.alt 8 (.alt 16 (.tail) .stop) .stop) .stop))))))))))))))) rfl (by kernel_rfl) (λ_ x _ _ _ h=>by cases x <;> exact h) (C:=λw'=>∃ p:Regrown,w'=grow (redrawn wx p.d) p.os) rgB hcB ?_;have hC:∀ x y,Ext x y->(∃ p:Regrown,x=grow (redrawn wx p.d) p.os)->(∃ p:Regrown,y=grow (redrawn wx p.d) p.os):=λx y h1 h2=>regrown_of_below ((hcB x h2).trans (h1.mono (hcB x h2).size))
     iterate 14 (refine FT.flow_run rfl (λK hK=>?_);go_simp;first | (refine hK _ ?_;clear hK K) | (apply Exists.intro;refine ⟨λ_=>?_,hK _ ?_⟩;rotate_left;clear hK K))
     first | rw [HAD.o] | (have hq:=HAD.o;simp only [VV] at hq;rw [hq];clear hq)
     refine FT.flow_at hC rfl trivial (λw1 hw1 K hK=>?_);go_simp;have hbM:Below wx wx (w1.alloc (.cells #[] 57)):=Below.alloc hw1 (Below.size hw1) _;have hrM:=ki w1 wx.heap.size (Below.size hw1);refine hK _ _ (regrown_of_below hbM) ?_;clear hK K;refine FT.flow_at hC rfl trivial (λw2 hw2 K hK=>?_);have hb2:=hbM.trans (Below.mono hw2 hbM.size);refine ze (by rfl) _ _ (by rfl) wx.heap.size _ [] (by rfl) (hrM.ee hw2) _ k c (L.take k) (by rfl) HT1.o ((hrow.ee hb2).take k) hfl (λe=>by cases e) (by simpa using hk6) (Below.size hb2) (some 51) (by rfl) ?_;intro w3 v12 hr12 hf12 hs12;rw [Js] at hr12;have hb3:=hb2.trans (hf12.below (λk e=>((hrM.ee hw2).lt k e).1) hb2.size);refine hK _ _ (regrown_of_below hb3) ?_;clear hK K;simp only [Act.put,sT2,sT1,sT0];refine FT.flow_at hC rfl trivial (λw6 hw6 K hK=>?_);have hb6:=(upB hb3 hw6);refine ze (by rfl) _ _ (by rfl) wx.heap.size v12 (L.take k) (by rfl) (hr12.ee hw6) ad (n - k1) (c - k1) (L.drop k1) (by rfl) HT2.o (hdr.ee hb6) hfl2 hnil (by rw [HT1.o];exact hk7) hb6.size (some 59) (by rfl) ?_;intro w7 v18 hr18 hf18 hs18;have hb7:=hb6.trans (hf18.below (λk e=>((hr12.ee hw6).lt k e).1) hb6.size);refine hK _ _ (regrown_of_below hb7) ?_;clear hK K;simp only [Act.put,sT2,sT1,sT0];intro w8 hw8;have hb8:=(upB hb7 hw8);have BD8:=BD.ee hb8;have hw8':=(upB hwr hb8);obtain ⟨hS8,hF8,hG8⟩:=jh HS.o hw8' ((hr18.ee hw8).base hwr.size) (by rw [Kp,HT1.o,HT2.o];exact hk7);obtain ⟨a18,n18,c18,rfl⟩:=hr18.form;obtain ⟨d0,d1,d2,d3⟩:=BD8.f;clear hr12 hr18 hf12 hs12 hf18 hs18 gD;simp only [dP1,dP0];go_wp2
     go_ret
     exact ⟨0,_,_,rfl,HREM.o,hS8,hF8,λg e=>.inr (hG8 g e)⟩
  ·obtain rfl:k=n:=by omega
   have HREM:Hi (RemAt L p q 16 L):=hdd (.inl ⟨rfl,rfl,λx hx=>by
    obtain ⟨j,hj,rfl⟩:=QU.1 hx;exact HA.o j hj (by have:=HM.o;omega)⟩)
   have hF:Frm w wr (· = db):=Frm.of_below hwr;have hS:=HS.o.ee hwr;have HF:=hdd hF;have HS2:=hdd hS;obtain ⟨d0,d1,d2,d3⟩:=BD.f;clear hS hF HA;go_wp2
   go_ret
   exact ⟨16,_,L,rfl,HREM.o,HS2.o,HF.o,λg e=>.inl (by rw [HM.o];exact e)⟩
end
section
open Go.RowKit Go.Sort
attribute [local go_sem] rOper rAt rUpon cell_set sg_i64 sg_u64 alloc_cell alloc_frozen
attribute [local go_sem 10000] pt_eql pt_neq tri_eql
attribute [local irreducible] rWalk
def putF (E:Es) (T:Tri3):Es:=if freeE E T=true then putT E T else E
theorem rputF_any (mb b:Nat) (E:Es) (T:Tri3) (hk:okT T) (w:World) (Bm:Box w mb [.map (some b)] 93) (Hm:Hs w b E):Calls prog 90 #[pt0 mb,T] w λe w'=>∃ r,e=.returned (.bool r)/\w.grownBy w' (some b)/\Hs w' b (putF E T):=by
 unfold putF;cases hf:freeE E T with
 | true=>exact (uB mb b E T hf hk w Bm Hm).mono λe w' ⟨h1,h2,h3⟩=>⟨true,h1,h2,by rw [J1 rfl];exact h3⟩
 | false=>exact (Xx mb b E T hf hk w Bm Hm).mono λe w' ⟨h1,h2⟩=>⟨false,h1,zM h2 _,by rw [Kl (by decide)];exact Hm.ee h2⟩
def atE (E:Es) (p:Pt):List Tri3:=srt cmpT (heads (λT=>hasP T p) E)
def cutS (p:Pt) (T:Tri3):List Tri3:=srt cmpT (cutR T p)
def addPE (E:Es) (p:Pt):Es:=(atE E p).foldl (λE T=>(cutS p T).foldl putF E) ((atE E p).foldl takeT E)
section
variable (mb b db:Nat) (E:Es) (p:Pt) (hE:E.length<=1000000) (w:World) (Bm:Box w mb [.map (some b)] 93) (Hm:Hs w b E)
include hE Bm Hm
theorem raddP_none (hat:atE E p=[]):Calls prog 45 #[pt0 mb,pt0 db,p] w (Rt w (.int .i64 1)):=by
 have cA:=λw0 B1 H1=>Yb mb b E p hE w0 B1 H1
 change ∀ (w0:World) B1 H1,Calls _ _ _ _ λe w'=>∃ a cap,e=.returned (.slice a (atE E p).length cap)/\RowAt cT 6 w' a (atE E p)/\Below w0 w0 w' at cA
 rw [hat] at cA;clear hat
 go_enter func45,ntmps45
 go_wp2_with fail;refine zI λW1 hW=>?_;have hw:Below w w W1:=by rw [hW];go_grown
 clear hW;refine (cA _ (Bm.ee hw) (Hm.ee hw)).mono ?_;rintro e w2 ⟨a,cap,rfl,hr,hb⟩;have hw2:=(upB hw hb);clear hb cA;go_wp2
 go_ret
 exact ⟨rfl,hw2⟩
theorem raddP_have (hat:atE E p≠[]) (hst:starE p E≠[]):Calls prog 45 #[pt0 mb,pt0 db,p] w (Rt w (.int .i64 5)):=by
 have cA:=λw0 B1 H1=>Yb mb b E p hE w0 B1 H1
 change ∀ (w0:World) B1 H1,Calls _ _ _ _ λe w'=>∃ a cap,e=.returned (.slice a (atE E p).length cap)/\RowAt cT 6 w' a (atE E p)/\Below w0 w0 w' at cA
 have cS:=λw0 B1 H1=>xA mb b E p hE w0 B1 H1;obtain ⟨n,hn⟩:∃ n,(atE E p).length=n:=⟨_,rfl⟩;obtain ⟨m,hm⟩:∃ m,(srt cmpT (starE p E)).length=m:=⟨_,rfl⟩;have hn0:((n:Int) == 0)=false:=by
  have:n≠0:=λe=>hat (Je.1 (hn.trans e));simp;omega
 have hm1:0 < m:=by
  have:m≠0:=λe=>hst (Je.1 (by rw [<-(zS (c:=cmpT) (starE p E)).length_eq,hm,e]));omega
 have hm0:decide (0 < (m:Int))=true:=by simp;omega
 have hm2:(0 < (m:Int))=True:=by simp;omega
 rw [hn] at cA;rw [hm] at cS;clear hat hst hn hm
 go_enter func45,ntmps45
 go_wp2_with fail;refine zI λW1 hW=>?_;have hw:Below w w W1:=by rw [hW];go_grown
 have Bp:Box W1 w [p.x,p.y] 26:=by rw [hW];exact Box.new rfl
 clear hW;refine (cA _ (Bm.ee hw) (Hm.ee hw)).mono ?_;rintro e w2 ⟨a,cap,rfl,hr,hb⟩;have hw2:=(upB hw hb);have Bp2:=Bp.ee hb;clear hb cA hr;have Fp:=Bp2.f;go_wp2_with fail;refine (cS _ (Bm.ee hw2) (Hm.ee hw2)).mono ?_;rintro e w3 ⟨a3,cap3,rfl,hr3,hb3⟩;have hw3:=(upB hw2 hb3);clear hb3 cS hr3 Fp;go_wp2
 go_ret
 exact ⟨rfl,hw3⟩
end
theorem DocAt.turn {w w':World} {db b:Nat} {v:Value} {L:List Wl} {E:Es} (S:DocAt w db v L) (H:Hs w b E) (hg:w.grownBy w' (some b)):DocAt w' db v L:=
 ⟨S.box.turn H hg,S.row.kept hg (.inr (λe=>yF S.row H e.symm)),S.ne,S.le⟩
theorem vs {α β:Type} (f:β->α->β) (L:List α) (e:β) {i:Nat} (hi:i < L.length):(L.take (i+1)).foldl f e=f ((L.take i).foldl f e) L[i]:=by
 rw [JD hi,UG];rfl
def insW (L:List Wl) (X:Wl) (k:Nat):List Wl:=L.take k ++ X :: L.drop k
def AddD (D:List Wl) (p:Pt) (D':List Wl):Prop:=
 (D.find? (onD p)=none/\D'=D)\/∃ X r D1 k1 k2,D.find? (onD p)=some X/\RemAt D (rl X.A X.B) (rg X.A X.B) r D1/\PutAt D1 ⟨X.A,p,X.K⟩ k1/\PutAt (insW D1 ⟨X.A,p,X.K⟩ k1) ⟨p,X.B,X.K⟩ k2/\D'=insW (insW D1 ⟨X.A,p,X.K⟩ k1) ⟨p,X.B,X.K⟩ k2
def AddPost (b db:Nat) (E:Es) (p:Pt) (v:Value) (D:List Wl) (w:World) (e:Ending) (w':World):Prop:=
 ∃ v' D',e=.returned (.int .i64 0)/\Hs w' b (addPE E p)/\DocAt w' db v' D'/\AddD D p D'/\Frm w w' (λk=>k=b\/k=db)/\(∀ g,v'.ownBlock=some g->v.ownBlock=some g\/w.heap.size<=g)
theorem raddP_ok (mb b db:Nat) (E:Es) (p:Pt) (v:Value) (D:List Wl) (hE:E.length<=1000000) (hn1:(atE E p).length<=1000) (hok:∀ T∈atE E p,okT T) (hok2:∀ T∈atE E p,∀ U∈cutS p T,okT U) (hat:atE E p≠[]) (hst:starE p E=[]) (w:World) (Bm:Box w mb [.map (some b)] 93) (Hm:Hs w b E) (Dw:DocAt w db v D) (hD:D.length+2 < 1000000) (hgk:∀ x∈D,0<=x.K/\x.K<=2):Calls prog 45 #[pt0 mb,pt0 db,p] w (AddPost b db E p v D w):=by
 have cA:=λw0 B1 H1=>Yb mb b E p hE w0 B1 H1
 change ∀ (w0:World) B1 H1,Calls _ _ _ _ λe w'=>∃ a cap,e=.returned (.slice a (atE E p).length cap)/\RowAt cT 6 w' a (atE E p)/\Below w0 w0 w' at cA
 have cS:=λw0 B1 H1=>xA mb b E p hE w0 B1 H1;have z:srt cmpT ([]:List Tri3)=[]:=Je.1 (by rw [(zS _).length_eq];rfl);rw [hst,z] at cS;have HA:=hdd (show addPE E p=(atE E p).foldl (λE T=>(cutS p T).foldl putF E) ((atE E p).foldl takeT E) from rfl);obtain ⟨EE,hEE⟩:∃ EE,addPE E p=EE:=⟨_,rfl⟩;rw [hEE] at HA;have HEE:=hdd hEE;clear hEE;generalize atE E p=F at *
 obtain ⟨n,hn⟩:∃ n,F.length=n:=⟨_,rfl⟩;have hn0:((n:Int) == 0)=false:=by
  have:n≠0:=λe=>hat (Je.1 (hn.trans e));simp;omega
 rw [hn] at cA hn1;have HN:=hdd hn;have HG:=hdd hgk;clear hat hst hn z hgk
 go_enter func45,ntmps45
 go_wp2_with fail;refine zI λW1 hW=>?_;have hw:Below w w W1:=by rw [hW];go_grown
 have Bp:Box W1 w [p.x,p.y] 26:=by rw [hW];exact Box.new rfl
 clear hW;refine (cA _ (Bm.ee hw) (Hm.ee hw)).mono ?_;rintro e w2 ⟨a,cap,rfl,hr,hb⟩;have hw2:=(upB hw hb);have Bp2:=Bp.ee hb;clear hb cA Bp hw;have Fp:=Bp2.f;go_wp2_with fail;refine (cS _ (Bm.ee hw2) (Hm.ee hw2)).mono ?_;rintro e w3 ⟨a3,cap3,rfl,hr3,hb3⟩;have hw3:=(upB hw2 hb3);have Bp3:=Bp2.ee hb3;have r3:=hr.ee hb3;have H3:=Hm.ee hw3;have g3:w.grownBy w3 (some b):=zM hw3 _;clear hb3 cS hr3 Fp hr Bp2 hw2 hw3;go_wp2
 go_loopw [8] (λv8 wr=>∃ i:Nat,v8=.int .i64 i/\i<=n/\Hs wr b ((F.take i).foldl takeT E)/\w.grownBy wr (some b)/\Box wr w [p.x,p.y] 26/\RowAt cT 6 wr a F) (λv8 _=>n - (intOf v8).toNat)
 case atStart=>exact ⟨0,rfl,JZ _,H3,g3,Bp3,r3⟩
 case round=>
  clear H3 g3 Bp3 r3;obtain ⟨i,rfl,hi,H3,g3,Bp3,r3⟩:=hrel;by_cases hlt:i < n
  ·have hil:i < F.length:=by rw [HN.o];exact hlt
   have q0:(i:Int) < (n:Int):=by omega
   obtain ⟨ad,A,ea,eA,hA⟩:=r3.six (j:=i) hil;have hkT:=hok F[i] (JP hil);have HT:=hdd (vs takeT F E hil);generalize F[i]=T at *
   generalize hE1:(F.take i).foldl takeT E=E1 at *
   have ct:=uA mb b E1 T hkT wr (Bm.turn Hm g3) H3;obtain ⟨zA,q1,q2,q3,q4,q5,q6⟩:=hA.f;have hlA:=hA.1;subst ea;clear hE1 hkT;go_wp2_with fail;refine ct.mono ?_;rintro e w5 ⟨rfl,h5,H5⟩;have Bp5:=Bp3.turn H3 h5;have r5:=r3.turn cT_ne H3 h5;have g5:=zQ g3 h5;clear ct zA q1 q2 q3 q4 q5 q6 hA H3 Bp3 r3 g3 h5;go_wp2
   go_roundw
   case rel=>exact ⟨i+1,by go_num,by omega,by rw [HT.o];exact H5,g5,Bp5,r5⟩
   case measure=>simp [intOf];omega
  ·have q0:decide ((i:Int) < (n:Int))=false:=by simpa using hlt
   have hin:i=n:=by omega
   have e1:F.take i=F:=JM (by rw [HN.o];omega);rw [e1] at H3;clear hin e1;go_wp2;generalize hEb:F.foldl takeT E=Eb at *
   clear hEb;obtain ⟨stp,hstp⟩:∃ stp:Es->Tri3->Es,stp=λE T=>(cutS p T).foldl putF E:=⟨_,rfl⟩;rw [<-hstp] at HA;have HSTP:=hdd hstp;clear hstp
   go_loopw [9] (λv9 wr=>∃ i:Nat,v9=.int .i64 i/\i<=n/\Hs wr b ((F.take i).foldl stp Eb)/\w.grownBy wr (some b)/\Box wr w [p.x,p.y] 26/\RowAt cT 6 wr a F) (λv9 _=>n - (intOf v9).toNat)
   case atStart=>exact ⟨0,rfl,JZ _,H3,g3,Bp3,r3⟩
   case round=>
    clear H3 g3 Bp3 r3 q0 hlt hi;obtain ⟨i,rfl,hi,H3,g3,Bp3,r3⟩:=hrel;by_cases hlt:i < n
    ·have hil:i < F.length:=by rw [HN.o];exact hlt
     have q0:(i:Int) < (n:Int):=by omega
     obtain ⟨ad,A,ea,eA,hA⟩:=r3.six (j:=i) hil;have hk2:=hok2 F[i] (JP hil);have HT:=hdd (show (F.take (i+1)).foldl stp Eb=(cutS p F[i]).foldl putF ((F.take i).foldl stp Eb) by rw [vs stp F Eb hil,HSTP.o]);generalize F[i]=T at *
     generalize (F.take i).foldl stp Eb=E1 at *
     have cc:=λw0=>YZ T p w0
     change ∀ (w0:World),Calls _ _ _ _ λe w'=>∃ a cap,e=.returned (.slice a (cutS p T).length cap)/\RowAt cT 6 w' a (cutS p T)/\Below w0 w0 w' at cc
     have hcl:(cutS p T).length<=3:=by
      unfold cutS;rw [(zS _).length_eq];unfold cutR;split
      ·exact km p T
      ·simp
     generalize cutS p T=C at *
     obtain ⟨m,hm⟩:∃ m,C.length=m:=⟨_,rfl⟩;have HM:=hdd hm;rw [hm] at cc hcl;clear hm;obtain ⟨s0,s1,s2,s3,s4,s5⟩:=hA.cells;have gP:=Bp3.cells;have ea2:=ea;subst ea;go_wp2_with fail;refine rgn 5 (λw4 hb=>?_);clear s0 s1 s2 s3 s4 s5 gP;have Bp4:=Bp3.ee hb;have r4:=r3.ee hb;have H4:=H3.ee hb;have g4:=zO g3 hb;clear hb hA Bp3 r3 H3 g3;go_wp2_with fail;refine (cc _).mono ?_;rintro e w5 ⟨a5,cap5,rfl,r5c,hb⟩;have Bp5:=Bp4.ee hb;have r5:=r4.ee hb;have H5:=H4.ee hb;have g5:=zO g4 hb;clear hb Bp4 r4 H4 g4 cc;go_wp2
     go_loopw [11] (λv11 wr=>∃ k:Nat,v11=.int .i64 k/\k<=m/\Hs wr b ((C.take k).foldl putF E1)/\w.grownBy wr (some b)/\Box wr w [p.x,p.y] 26/\RowAt cT 6 wr (some ad) F/\RowAt cT 6 wr a5 C) (λv11 _=>m - (intOf v11).toNat)
     case atStart=>exact ⟨0,rfl,JZ _,H5,g5,Bp5,r5,r5c⟩
     case round=>
      clear H5 g5 Bp5 r5 r5c;obtain ⟨k,rfl,hkm,H5,g5,Bp5,r5,r5c⟩:=hrel;by_cases hlk:k < m
      ·have hkl:k < C.length:=by rw [HM.o];exact hlk
       have q1:(k:Int) < (m:Int):=by omega
       obtain ⟨ad2,A2,ea2',eA2,hA2⟩:=r5c.six (j:=k) hkl;have hkU:=hk2 C[k] (JP hkl);have HU:=hdd (vs putF C E1 hkl);generalize C[k]=U at *
       generalize (C.take k).foldl putF E1=E2 at *
       have cp:=rputF_any mb b E2 U hkU wr (Bm.turn Hm g5) H5;obtain ⟨zA,t1,t2,t3,t4,t5,t6⟩:=hA2.f;subst ea2';clear hkU;go_wp2_with fail;refine cp.mono ?_;rintro e w6 ⟨rr,rfl,h6,H6⟩;have Bp6:=Bp5.turn H5 h6;have r6:=r5.turn cT_ne H5 h6;have r6c:=r5c.turn cT_ne H5 h6;have g6:=zQ g5 h6;clear cp zA t1 t2 t3 t4 t5 t6 hA2 H5 Bp5 r5 r5c g5 h6;go_wp2
       go_roundw
       case rel=>exact ⟨k+1,by go_num,by omega,by rw [HU.o];exact H6,g6,Bp6,r6,r6c⟩
       case measure=>simp [intOf];omega
      ·have q1:decide ((k:Int) < (m:Int))=false:=by simpa using hlk
       have hkm2:k=m:=by omega
       have e1:C.take k=C:=JM (by rw [HM.o];omega);rw [e1] at H5;clear hkm2 e1 r5c;go_wp2
       go_roundw
       case rel=>exact ⟨i+1,by go_num,by omega,by rw [HT.o];exact H5,g5,Bp5,r5⟩
       case measure=>simp [intOf];omega
    ·have q0:decide ((i:Int) < (n:Int))=false:=by simpa using hlt
     have hin:i=n:=by omega
     have e1:F.take i=F:=JM (by rw [HN.o];omega);rw [e1,<-HA.o] at H3;clear hin e1 r3;clear hok2 hok HN HA HSTP hE hn1 hn0;have Dw3:=Dw.turn Hm g3;have hgo:=λ(p:Nat->Prop) (hp:p b)=>Frm.of_grown g3 (p:=p) (λg e=>by cases e;exact hp);have F3:Frm w wr (λk=>k=b\/k=db):=hgo _ (.inl rfl);have hwp:w.heap.size < wr.heap.size:=Bp3.lt;have hdb:db < w.heap.size:=Dw.box.lt;have hbd:(some b)≠(some db):=λe=>(Dw3.box.ne_map H3) (JL e).symm;obtain ⟨a9,c9,hv9,Dr,_⟩:=Dw3.rd;have cO:=jz db a9 c9 D.length D p wr Dr;clear hgo g3 Dr hv9;have Fp:=Bp3.f;cases hO:D.find? (onD p) with
     | none=>
      rw [hO] at cO
      change Calls _ _ _ _ λe w'=>e=.returned (.tuple #[.agg #[(),(),(),(),()],.bool false])/\_ at cO
      have HO:=hdd hO;clear hO;go_wp2_with fail;refine cO.mono ?_;rintro e w6 ⟨rfl,hb⟩;have H6:=H3.ee hb;have D6:=Dw3.ee hb;have F6:=F3.trans (Frm.of_below hb);clear cO hb Fp Bp3 H3 Dw3 F3 hwp;go_wp2
      go_ret
      exact ⟨v,D,rfl,by rw [HEE.o];exact H6.alloc _,D6.ext (by go_grown) rfl,.inl ⟨HO.o,rfl⟩,F6.trans (Frm.of_below (by go_grown)),λg e=>.inl e⟩
     | some X=>
      rw [hO] at cO
      change Calls _ _ _ _ λe w'=>e=.returned (.tuple #[.agg #[X.A.x,X.A.y,X.B.x,X.B.y,X.K],.bool true])/\_ at cO
      have hXm:=Jr hO;have hXk:=HG.o X hXm;have HO:=hdd hO;clear hO hXm;go_wp2_with fail;refine cO.mono ?_;rintro e w6 ⟨rfl,hb⟩;have H6:=H3.ee hb;have D6:=Dw3.ee hb;have F6:=F3.trans (Frm.of_below hb);have Bp6:=Bp3.ee hb;have hs6:=hb.size;clear cO hb Fp Bp3 H3 Dw3 F3;have Fp:=Bp6.f;go_wp2_with fail;refine zI λw7 hW=>?_;have Bw:Box w7 w6 [X.A.x,X.A.y,X.B.x,X.B.y,X.K] 57:=by rw [hW];exact Box.new rfl
      have Bp7:Box w7 w [p.x,p.y] 26:=by rw [hW];exact Bp6.old _
      have H7:Hs w7 b EE:=by rw [hW];exact H6.alloc _
      have hb7:Below w6 w6 w7:=by rw [hW];go_grown
      have D7:=D6.ee hb7;have F7:=F6.trans (Frm.of_below hb7);clear hW hb7 Fp Bp6 H6 D6 F6;refine (rrem_any db v D X.A X.B w7 D7).mono ?_;rintro e w8 ⟨r,v1,D1,rfl,hR,D8,f8,fr8⟩;have Bw8:=f8.box Bw (by omega);have Bp8:=f8.box Bp7 (by omega);have H8:=H7.kept f8.grown hbd;have F8:=F7.trans2 f8 (λk hk _=>.inr hk);have h1:D1.length<=D.length/\∀ x∈D1,x∈D:=by
       rcases hR with ⟨_,e,_⟩ | ⟨_,k,hk,_,e⟩
       ·rw [e];exact ⟨JA _,λx hx=>hx⟩
       ·rw [e];refine ⟨by simp;omega,λx hx=>?_⟩;rcases JG.1 hx with hx | hx
        ·exact QT hx
        ·exact Qc hx
      have hs8:=f8.size;have cp1:=xq db v1 D1 ⟨X.A,p,X.K⟩ (by omega) (λx hx=>HG.o x (h1.2 x hx)) hXk w8 D8;have HR8:=hdd hR;have HL1:=hdd h1;clear hR Bw Bp7 H7 D7 F7 f8 h1;have Fp:=Bp8.f;have Fw:=Bw8.f;go_wp2_with fail;refine cp1.mono ?_;rintro e w9 ⟨k1,v2,rfl,hk1,D9,f9,fr9⟩;have Bw9:=f9.box Bw8 (by omega);have Bp9:=f9.box Bp8 (by omega);have H9:=H8.kept f9.grown hbd;have F9:=F8.trans2 f9 (λk hk _=>.inr hk);have hln:(D1.take k1 ++ (⟨X.A,p,X.K⟩:Wl) :: D1.drop k1).length=D1.length+1:=by
       rw [Kp,JO,JV,JR];have:=hk1.1;omega
      have cp2:=xq db v2 (D1.take k1 ++ (⟨X.A,p,X.K⟩:Wl) :: D1.drop k1) ⟨p,X.B,X.K⟩ (by rw [hln];have:=HL1.o.1;omega) (λx hx=>by
       rcases JG.1 hx with hx | hx
       ·exact HG.o x (HL1.o.2 x (QT hx))
       ·rcases Km.1 hx with rfl | hx
        ·exact hXk
        ·exact HG.o x (HL1.o.2 x (Qc hx))) hXk w9 D9
      have HK1:=hdd hk1;clear Fp Fw Bp8 Bw8 H8 D8 F8 f9 cp1 hln hk1;have Fp:=Bp9.f;have Fw:=Bw9.f;go_wp2_with fail;refine cp2.mono ?_;rintro e w10 ⟨k2,v3,rfl,hk2',D10,f10,fr10⟩;have H10:=H9.kept f10.grown hbd;have F10:=F9.trans2 f10 (λk hk _=>.inr hk);have HADD:=hdd (show AddD D p ((D1.take k1 ++ (⟨X.A,p,X.K⟩:Wl) :: D1.drop k1).take k2 ++ (⟨p,X.B,X.K⟩:Wl) :: (D1.take k1 ++ (⟨X.A,p,X.K⟩:Wl) :: D1.drop k1).drop k2) from .inr ⟨X,r,D1,k1,k2,HO.o,HR8.o,HK1.o,hk2',rfl⟩);have HV:=hdd (show ∀ g,v3.ownBlock=some g->v.ownBlock=some g\/w.heap.size<=g from λg e=>.inr (by have:=fr10 g e;have:=F9.size;omega));clear Fp Fw Bp9 Bw9 H9 D9 F9 f10 cp2 hk2' fr10 fr9 fr8;generalize ((D1.take k1 ++ (⟨X.A,p,X.K⟩:Wl) :: D1.drop k1).take k2 ++ (⟨p,X.B,X.K⟩:Wl) :: (D1.take k1 ++ (⟨X.A,p,X.K⟩:Wl) :: D1.drop k1).drop k2)=DD at *
      go_wp2
      go_ret
      exact ⟨v3,DD,rfl,by rw [HEE.o];exact H10,D10,HADD.o,F10,HV.o⟩
theorem jZ (f:Tri3->Bool):∀ (L:List Tri3),(∀ T∈L,valT T=true)->heads f (L.flatMap wys)=L.filter f
 | [],_=>rfl
 | T :: L,h=>by
  obtain ⟨a1,a2,a3⟩:=j9 (h T (by simp));rw [Ks,zp,jZ f L (λS hS=>h S (by simp [hS]))];have:heads f (wys T)=if f T=true then [T] else []:=by
   unfold heads wys;cases hf:f T <;> simp [Ne.symm a1,a3,hf]
  rw [this];cases hf:f T <;> simp [hf]
theorem ja {E:Es} {L:List Tri3} (h:Good E L) (f:Tri3->Bool):(heads f E).Perm (L.filter f):=by
 have:=xZ (p:=f) h.perm
 rwa [jZ f L h.val] at this
def isCb (p:Pt) (T:Tri3):Bool:=decide (p=T.A) || (decide (p=T.B) || decide (p=T.C))
theorem kj {p:Pt} {T:Tri3}:isCb p T=true↔isCnr T p:=by
 unfold isCb isCnr;simp
theorem jw (p:Pt):∀ (L:List Tri3),(∀ T∈L,valT T=true)->starE p (L.flatMap wys)=L.filter (isCb p)
 | [],_=>rfl
 | T :: L,h=>by
  obtain ⟨a1,a2,a3⟩:=j9 (h T (by simp));rw [Ks,qq,jw p L (λS hS=>h S (by simp [hS]))];have:starE p (wys T)=if isCb p T=true then [T] else []:=by
   unfold starE wys isCb;by_cases h1:p=T.A
   ·subst h1;simp [Ne.symm a1,a3]
   ·by_cases h2:p=T.B
    ·subst h2;simp [a1,Ne.symm a2]
    ·by_cases h3:p=T.C
     ·subst h3;simp [Ne.symm a3,a2]
     ·simp [h1,h2,h3,Ne.symm h1,Ne.symm h2,Ne.symm h3]
  rw [this];cases hf:isCb p T <;> simp [hf]
theorem Good.star_f {E:Es} {L:List Tri3} (h:Good E L) (p:Pt):(starE p E).Perm (L.filter (isCb p)):=by
 have:=ut (p:=p) h.perm
 rwa [jw p L h.val] at this
theorem Good.star_nil {E:Es} {L:List Tri3} (h:Good E L) (p:Pt):starE p E=[]↔¬ someC L p:=by
 constructor
 ·intro e ⟨T,hT,hc⟩;have:=h.star_f p;rw [e] at this;have hm:T∈L.filter (isCb p):=JS.2 ⟨hT,kj.2 hc⟩;rw [<-this.mem_iff] at hm;cases hm
 ·intro hn;have:=h.star_f p;refine List.Perm.eq_nil (this.trans ?_);rw [VE.2 (λT hT hc=>hn ⟨T,hT,kj.1 hc⟩)]
theorem jD {f g:Tri3->List Tri3}:∀ {L:List Tri3},(∀ T∈L,(f T).Perm (g T))->(L.flatMap f).Perm (L.flatMap g)
 | [],_=>.refl _
 | T :: L,h=>by
  rw [Ks,Ks];exact (h T (by simp)).append (jD λS hS=>h S (by simp [hS]))
theorem Good.putsF:∀ {I:List Tri3} {E:Es} {M:List Tri3},Good E M->(∀ T∈I,valT T=true)->((I ++ M).flatMap ways).Nodup->Good (I.foldl putF E) (I ++ M)
 | [],_,_,h,_,_=>h
 | T :: I,E,M,h,hv,hn=>by
  have hn':(ways T ++ (I ++ M).flatMap ways).Nodup:=by rw [<-Ks];exact hn
  rw [Jb] at hn';obtain ⟨h1,h2⟩:=Good.put (E:=E) (T:=T) (M:=M) h (hv T (by simp)) (λw hw k=>hn'.2.2 w hw w (by rw [JW];exact Jp _ k) rfl);have:=Good.putsF (I:=I) h2 (λS hS=>hv S (by simp [hS])) ((zq (QH (a:=T) (l₁:=I) (l₂:=M))).nodup_iff.2 hn);have e:putF E T=putT E T:=by unfold putF;rw [J1 (xK h1)]
  rw [List.foldl_cons,e];exact this.order QH
theorem jJ (f:Es->Tri3->Es) (g:Tri3->List Tri3):∀ (L:List Tri3) (E:Es),L.foldl (λE T=>(g T).foldl f E) E=(L.flatMap g).foldl f E
 | [],_=>rfl
 | T :: L,E=>by rw [List.foldl_cons,Ks,UG,jJ f g L]
section
variable {W H:Int} {E:Es} {L:List Tri3} (hW:W < 16777216) (hH:H < 16777216) (g:Good E L) (t:Tiles W H L) {p:Pt}
include hW hH g t
omit t in
theorem tc (hp:inBox W H p):(atE E p).Perm (L.filter λT=>hasP T p)/\∀ T∈L,hasP T p=true↔hasT T p:=by
 have vp:vld p=true:=by rw [zj];unfold inBox at hp;omega
 refine ⟨?_,λT hT=>?_⟩
 ·unfold atE;exact (zS _).trans (ja g _)
 ·rw [Z7 (g.val T hT) vp];rfl
omit hW hH in
theorem KR (hp:¬ inBox W H p):atE E p=[]:=by
 have h1:(atE E p).Perm (L.filter λT=>hasP T p):=by unfold atE;exact (zS _).trans (ja g _)
 refine List.Perm.eq_nil (h1.trans ?_);rw [VE.2];intro T hT hh;have vp:vld p=true:=by
  unfold hasP at hh;simp only [Ko] at hh;exact hh.2.1
 exact hp (has_box (t.pos T hT) (t.box T hT) ((Z7 (g.val T hT) vp).1 hh))
theorem Xb (hW0:0 < W) (hH0:0 < H) (hp:inBox W H p):atE E p≠[]:=by
 obtain ⟨h1,h2⟩:=tc hW hH g hp;obtain ⟨T,hT,k⟩:=t.covers hW0 hH0 hp;intro e;rw [e] at h1;have:T∈L.filter λT=>hasP T p:=JS.2 ⟨hT,(h2 T hT).2 k⟩;rw [<-h1.mem_iff] at this;cases this
theorem add_good (hW0:0 < W) (hH0:0 < H) (hp:inBox W H p) (hn:¬ someC L p):(∀ T∈atE E p,valT T=true)/\(∀ T∈atE E p,∀ U∈cutS p T,valT U=true)/\(atE E p).length<=2/\∃ L',Good (addPE E p) L'/\Tiles W H L'/\(∀ q,someC L' q↔someC L q\/q=p)/\(L'.length=L.length+2/\¬ atRim W H p\/L'.length=L.length+1/\atRim W H p):=by
 obtain ⟨h1,h2⟩:=tc hW hH g hp;have hn':∀ T∈L,¬ isCnr T p:=λT hT hc=>hn ⟨T,hT,hc⟩;obtain ⟨F,hF,f1,f2⟩:=t.spots hW0 hH0 hp hn' h2;have fa:=h1.trans f1;have hv:∀ T∈atE E p,valT T=true:=λT hT=>g.val T (JS.1 (h1.mem_iff.1 hT)).1;have hcut:∀ T∈atE E p,(cutS p T).Perm (cutP p T):=by
  intro T hT;have hm:=JS.1 (h1.mem_iff.1 hT);have hc:=hn' T hm.1;have:cutOk T p=true:=by
   unfold cutOk isCnr at *;simp only [U8] at hc;rw [hm.2,yM.2 hc.1,yM.2 hc.2.1,yM.2 hc.2.2];rfl
  unfold cutS cutR;rw [J1 this];exact zS _
 obtain ⟨t',tv⟩:=vg t hW0 hH0 hW hH hp hn' hF f2;obtain ⟨c1,c2⟩:=tV t hW hH hp hF;have pI:((atE E p).flatMap (cutS p)).Perm (F.flatMap (cutP p)):=(jD hcut).trans (fa.flatMap_right _);have lenF:F.length<=2:=by cases hF <;> simp
 refine ⟨hv,λT hT U hU=>(tv U (pI.mem_iff.1 (JH.2 ⟨T,hT,hU⟩))).1,by rw [fa.length_eq];exact lenF,(atE E p).flatMap (cutS p) ++ L.filter (λx => !hasP x p),?_,?_,?_,?_⟩
 ·unfold addPE;rw [jJ];have k:=Good.takesF (F:=atE E p) (E:=E) (M:=L.filter λx => !hasP x p) (g.order (f2.trans (fa.symm.append_right _)));refine Good.putsF k (λU hU=>(tv U (pI.mem_iff.1 hU)).1) ?_;exact (zq (pI.append_right _)).nodup_iff.2 t'.once
 ·exact t'.perm (pI.symm.append_right _)
 ·intro q;rw [xp,xV pI,c1,xV f2,xp];constructor
  ·rintro ((k | k) | k)
   ·exact .inl (.inl k)
   ·exact .inr k
   ·exact .inl (.inr k)
  ·rintro ((k | k) | k)
   ·exact .inl (.inl k)
   ·exact .inr k
   ·exact .inl (.inr k)
 ·have e1:L.length=F.length+(L.filter λx => !hasP x p).length:=by rw [f2.length_eq,Kp]
  rw [Kp,pI.length_eq];rcases c2 with ⟨k1,k2⟩ | ⟨k1,k2⟩
  ·exact .inl ⟨by omega,k2⟩
  ·exact .inr ⟨by omega,k2⟩
end
structure CdtAt (w:World) (cb mb b db:Nat) (v:Value) (W H:Int) (E:Es) (D:List Wl):Prop where
 box:Box w cb [W,H,pt0 mb,pt0 db] 46
 mesh:Box w mb [.map (some b)] 93
 map:Hs w b E
 doc:DocAt w db v D
 cdb:cb≠db
 mdb:mb≠db
theorem CdtAt.ext {w w':World} {cb mb b db n:Nat} {v:Value} {W H:Int} {E:Es} {D:List Wl} (S:CdtAt w cb mb b db v W H E D) (hb:Below n w w') (hn:n=w.heap.size):CdtAt w' cb mb b db v W H E D:=
 ⟨S.box.ext hb hn,S.mesh.ext hb hn,S.map.ext hb hn,S.doc.ext hb hn,S.cdb,S.mdb⟩
theorem CdtAt.ee {w w':World} {cb mb b db:Nat} {v:Value} {W H:Int} {E:Es} {D:List Wl} (S:CdtAt w cb mb b db v W H E D) (hb:Below w w w'):CdtAt w' cb mb b db v W H E D:=S.ext hb rfl
theorem YI {D D':List Wl} {p:Pt} (h:AddD D p D') (hk:∀ x∈D,0<=x.K/\x.K<=2):(∀ x∈D',0<=x.K/\x.K<=2)/\D'.length<=D.length+2:=by
 rcases h with ⟨_,e⟩ | ⟨X,r,D1,k1,k2,hX,hR,h1,h2,e⟩
 ·rw [e];exact ⟨hk,by omega⟩
 ·have hXk:=hk X (Jr hX);have hD1:D1.length<=D.length/\∀ x∈D1,x∈D:=by
   rcases hR with ⟨_,e,_⟩ | ⟨_,k,hk,_,e⟩
   ·rw [e];exact ⟨JA _,λx hx=>hx⟩
   ·rw [e];refine ⟨by simp;omega,λx hx=>?_⟩;rcases JG.1 hx with hx | hx
    ·exact QT hx
    ·exact Qc hx
  have ins:∀ (L:List Wl) (Y:Wl) (k:Nat),(∀ x∈L,0<=x.K/\x.K<=2)->(0<=Y.K/\Y.K<=2)->∀ x∈insW L Y k,0<=x.K/\x.K<=2:=by
   intro L Y k hL hY x hx;unfold insW at hx;rcases JG.1 hx with hx | hx
   ·exact hL x (QT hx)
   ·rcases Km.1 hx with rfl | hx
    ·exact hY
    ·exact hL x (Qc hx)
  have len:∀ (L:List Wl) (Y:Wl) (k:Nat),(insW L Y k).length=L.length+1:=by
   intro L Y k;unfold insW;have:=(xT (L:=L) (X:=Y) k).length_eq
   simpa using this
  rw [e];exact ⟨ins _ _ _ (ins _ _ _ (λx hx=>hk x (hD1.2 x hx)) hXk) hXk,by rw [len,len];omega⟩
def AddRes (W H:Int) (L:List Tri3) (p:Pt) (r:Int):Prop:=(r=1/\¬ inBox W H p)\/(r=5/\inBox W H p/\someC L p)\/(r=0/\inBox W H p/\¬ someC L p)
end
end Go.Proofs.YtmpfadapbbjbkaaGreat
