import Derived.Test.YthhcehmmglmlfaaGreatPgo7
import Derived.Lib.SmallJoins
import Derived.OpenShut
set_option maxRecDepth 100000
set_option maxHeartbeats 8000000
set_option linter.all false
namespace Go.Proofs.YthhcehmmglmlfaaGreat
open _root_.Go.Proofs.Tryz
section
open Go.RowKit Go.Sort
attribute [local go_sem] rOper rAt rUpon cell_set sg_i64 sg_u64 alloc_cell alloc_frozen
attribute [local go_sem 10000] pt_eql pt_neq wal_eql wal_neq
attribute [local irreducible] rWalk
def onD (p:Pt) (x:Wl):Bool := !decide (p=x.A) && (!decide (p=x.B) && onR p x.A x.B)
theorem K5 (p:Pt) (x:Wl):onD p x=(!peqI p.x p.y x.A.x x.A.y && (!peqI p.x p.y x.B.x x.B.y && onR p x.A x.B)):=by rw [zq,zq];rfl
theorem ron_set_any (db:Nat) (a0:Option Addr) (c n:Nat) (L:List Wl) (p:Pt) (w:World) (D:DocRd w db a0 c n L):Calls prog 90 #[pt0 db,p] w (Rt w (onV (L.find? (onD p)))):=by
 have hdb:=D.box.lt;have HM:=hdd D.len;have hn:n<=1000000:=D.len▸D.le;have HD:=hdd D;clear D
 go_enter func90,ntmps90
 go_wp2_with fail;refine zG λW1 hW=>?_;have BP:Box W1 w [p.x,p.y] 34:=by rw [hW];exact (Box.new rfl).old _
 have BR:Box W1 (w+1) [(),(),(),(),()] 71:=by rw [hW];exact Box.new (by simp)
 have hw:Below w w W1:=by rw [hW];go_grown
 clear hW
 go_loopw [6] (λvi wr=>∃ k:Nat,k<=n/\vi=.int .i64 k/\Hi ((L.take k).find? (onD p)=none)/\Below w w wr/\Box wr w [p.x,p.y] 34/\Box wr (w+1) [(),(),(),(),()] 71) (λvi _=>n - (intOf vi).toNat)
 case atStart=>exact ⟨0,Jl _,rfl,hdd rfl,hw,BP,BR⟩
 case round=>
  clear BP BR hw;obtain ⟨k,hk,rfl,HI,hwr,BP,BR⟩:=hrel;have BD:=(HD.o.ee hwr).box;by_cases hlt:k < n
  ·have hkL:k < L.length:=by rw [HM.o];exact hlt
   obtain ⟨ad,A,ea,eA,hA⟩:=(HD.o.ee hwr).row.five (j:=k) hkL;have HX:Hi (L[k]=L[k]):=hdd rfl;generalize hX:L[k]=X at hA HX
   clear HX;have HX:=hdd hX;clear hX;obtain ⟨u0,u1,u2,u3,u4,u5⟩:=hA.f;obtain ⟨y0,y1,y2,y3⟩:=BP.f;obtain ⟨d0,d1,d2,d3⟩:=BD.f;obtain ⟨z0,z1,z2,z3⟩:=BR.f;subst ea;have c1:=vG p X.A X.B;cases e1:peqI p.x p.y X.A.x X.A.y with
   | true=>
    have HE:Hi (onD p X=false):=hdd (by rw [K5,e1];rfl);have HF:Hi ((L.take (k+1)).find? (onD p)=none):=hdd (xv hkL HI.o (by rw [HX.o];exact HE.o));clear HE HX HI;have HP:=hdd BP;have HR:=hdd BR;clear BP BR BD;go_wp2
    go_roundw
    case rel=>exact ⟨k+1,hlt,by go_num,HF,by have hl:=hwr.size;go_grown,HP.o.old _,HR.o.old _⟩
    case measure=>simp [intOf];omega
   | false=>
    cases e2:peqI p.x p.y X.B.x X.B.y with
    | true=>
     have HE:Hi (onD p X=false):=hdd (by rw [K5,e1,e2];rfl);have HF:Hi ((L.take (k+1)).find? (onD p)=none):=hdd (xv hkL HI.o (by rw [HX.o];exact HE.o));clear HE HX HI;have HP:=hdd BP;have HR:=hdd BR;clear BP BR BD;go_wp2
     go_roundw
     case rel=>exact ⟨k+1,hlt,by go_num,HF,by have hl:=hwr.size;go_grown,HP.o.old _,HR.o.old _⟩
     case measure=>simp [intOf];omega
    | false=>
     cases e4:onR p X.A X.B with
     | false=>
      have HE:Hi (onD p X=false):=hdd (by rw [K5,e1,e2,e4];rfl);rw [e4] at c1;clear e4;have HF:Hi ((L.take (k+1)).find? (onD p)=none):=hdd (xv hkL HI.o (by rw [HX.o];exact HE.o));clear HE HX HI;have HP:=hdd BP;have HR:=hdd BR;have HW:=hdd hwr;go_wp2_with fail;refine zI λW2 hW=>?_;have BP2:Box W2 w [p.x,p.y] 34:=by rw [hW];exact HP.o.old _
      have BR2:Box W2 (w+1) [(),(),(),(),()] 71:=by rw [hW];exact HR.o.old _
      have BX2:Box W2 wr [X.A.x,X.A.y,X.B.x,X.B.y,X.K] 71:=by rw [hW];exact Box.new rfl
      have hw2:Below w w W2:=by have hl:=hwr.size;rw [hW];go_grown
      clear hW BP BR hwr y0 y1 y2 y3 z0 z1 z2 z3 u0 u1 u2 u3 u4 u5 hA d0 d1 d2 d3 BD;refine (c1 W2).mono ?_;rintro e w3 ⟨rfl,hb⟩;have l1:w.heap.size+1 < wr.heap.size:=HR.o.lt;replace BP2:=BP2.ee hb;replace BR2:=BR2.ee hb;replace BX2:=BX2.ee hb;replace hw2:=upB hw2 hb;clear hb;obtain ⟨y0,y1,y2,y3⟩:=BP2.f;obtain ⟨z0,z1,z2,z3⟩:=BR2.f;obtain ⟨u0,u1,u2,u3⟩:=BX2.f;go_wp2
      go_roundw
      case rel=>exact ⟨k+1,hlt,by go_num,HF,hw2,BP2,BR2⟩
      case measure=>simp [intOf];omega
     | true=>
      have HE:Hi (onD p X=true):=hdd (by rw [K5,e1,e2,e4];rfl);rw [e4] at c1;clear e4;have HP:=hdd BP;have HR:=hdd BR;have HW:=hdd hwr;go_wp2_with fail;refine zI λW2 hW=>?_;have BP2:Box W2 w [p.x,p.y] 34:=by rw [hW];exact HP.o.old _
      have BR2:Box W2 (w+1) [(),(),(),(),()] 71:=by rw [hW];exact HR.o.old _
      have BX2:Box W2 wr [X.A.x,X.A.y,X.B.x,X.B.y,X.K] 71:=by rw [hW];exact Box.new rfl
      have hw2:Below w w W2:=by have hl:=hwr.size;rw [hW];go_grown
      clear hW BP BR hwr y0 y1 y2 y3 z0 z1 z2 z3 u0 u1 u2 u3 u4 u5 hA d0 d1 d2 d3 BD;refine (c1 W2).mono ?_;rintro e w3 ⟨rfl,hb⟩;have l1:w.heap.size+1 < wr.heap.size:=HR.o.lt;replace BP2:=BP2.ee hb;replace BR2:=BR2.ee hb;replace BX2:=BX2.ee hb;replace hw2:=upB hw2 hb;clear hb;obtain ⟨y0,y1,y2,y3⟩:=BP2.f;obtain ⟨z0,z1,z2,z3⟩:=BR2.f;obtain ⟨u0,u1,u2,u3⟩:=BX2.f;have HF:Hi (L.find? (onD p)=some X):=hdd (by rw [<-HX.o];exact YC hkL HI.o (by rw [HX.o];exact HE.o));clear HE HX HI;go_wp2_with fail;refine bodyPost_ret (v:=.tuple #[.agg #[X.A.x,X.A.y,X.B.x,X.B.y,X.K],.bool true]) (by simp [results,results90,go_sem,z0]) rfl ⟨?_,by have hl:=hw2.size;go_grown⟩;rw [HF.o];rfl
  ·obtain rfl:k=n:=by omega
   have HF:Hi (L.find? (onD p)=none):=hdd (XW (by rw [HM.o];exact HI.o));clear HI;obtain ⟨z0,z1,z2,z3⟩:=BR.f;obtain ⟨d0,d1,d2,d3⟩:=BD.f;go_wp2_with fail;refine bodyPost_ret (v:=.tuple #[.agg #[(),(),(),(),()],.bool false]) (by simp [results,results90,go_sem,z0]) rfl ⟨?_,by have hl:=hwr.size;go_grown⟩;rw [HF.o];rfl
attribute [local go_sem ↓ 10000] jT run_upto_wal
def RemAt (L:List Wl) (p q:Pt) (r:Int) (L':List Wl):Prop:=
 (r=16/\L'=L/\∀ x∈L,isW p q x=false)\/(r=0/\∃ (k:Nat) (h:k < L.length),isW p q L[k]=true/\L'=L.take k ++ L.drop (k+1))
theorem Kv (p q:Pt) (x:Wl):isW p q x=(peqI x.A.x x.A.y p.x p.y && peqI x.B.x x.B.y q.x q.y):=by rw [zq,zq];rfl
theorem rrem_any (db:Nat) (v:Value) (L:List Wl) (a b:Pt) (w:World) (S:DocAt w db v L):Calls prog 91 #[pt0 db,a,b] w λe w'=>∃ r v' L',e=.returned (.int .i64 r)/\RemAt L (rl a b) (rg a b) r L'/\DocAt w' db v' L'/\Frm w w' (· = db)/\(∀ g,v'.ownBlock=some g->v.ownBlock=some g\/w.heap.size<=g):=by
 obtain ⟨a0,c,rfl,D,hz⟩:=S.rd;have HS:=hdd S;clear S;have hdb:=D.box.lt;have hle:=D.le;obtain ⟨n,hn⟩:∃ n,L.length=n:=⟨_,rfl⟩;rw [hn] at D HS hle;have HM:=hdd hn;have hnc:=D.nc;have hfl:=D.flat;have HD:=hdd D;clear D hn;have c1:=ju a b;have c2:=jv a b;generalize rl a b=p at *
 generalize rg a b=q at *
 go_enter func91,ntmps91
 go_wp2_with fail;refine zG λW1 hW=>?_;have BA:Box W1 w [a.x,a.y] 34:=by rw [hW];exact (Box.new rfl).old _
 have BB:Box W1 (w+1) [b.x,b.y] 34:=by rw [hW];exact Box.new (by simp)
 have hw:Below w w W1:=by rw [hW];go_grown
 clear hW
 go_loopw [7] (λvi wr=>∃ k:Nat,k<=n/\vi=.int .i64 k/\Hi (∀ (j:Nat) (h:j < L.length),j < k->isW p q L[j]=false)/\Below w w wr/\Box wr w [a.x,a.y] 34/\Box wr (w+1) [b.x,b.y] 34) (λvi _=>n - (intOf vi).toNat)
 case atStart=>exact ⟨0,Jl _,rfl,hdd (λj h hj=>by omega),hw,BA,BB⟩
 case round=>
  clear BA BB hw;obtain ⟨k,hk,rfl,HA,hwr,BA,BB⟩:=hrel;have BD:=(HD.o.ee hwr).box;have hrow:=(HD.o.ee hwr).row;by_cases hkn:k < n
  ·have hkL:k < L.length:=by rw [HM.o];exact hkn
   obtain ⟨aj,A,ea,eA,hA5⟩:=hrow.five (j:=k) hkL;have HY:Hi (L[k]=L[k]):=hdd rfl;generalize hY:L[k]=Y at hA5 HY
   clear HY;have HY:=hdd hY;clear hY;obtain ⟨s0,s1,s2,s3,s4⟩:=hA5.cells;have gA:=BA.cells;have gB:=BB.cells;have gD:=BD.cells;obtain ⟨d0,d1,d2,d3⟩:=BD.f;have q3:(k:Int) < (n:Int):=by omega
   have q4:(0:Int)<=(k:Int):=by omega
   subst ea;clear hA5;cases e1:peqI Y.A.x Y.A.y p.x p.y with
   | false=>
    have HE:Hi (isW p q Y=false):=hdd (by rw [Kv,e1];rfl);have HA2:Hi (∀ (j:Nat) (h:j < L.length),j < k+1->isW p q L[j]=false):=hdd (λj h hj=>by
     by_cases e:j=k
     ·subst e;rw [HY.o];exact HE.o
     ·exact HA.o j h (by omega))
    clear HA HY HE;go_wp2_with fail;refine (wp_region_tail 25 (by kernel_rfl) (by kernel_rfl) (C:=λw'=>∃ p:Regrown,w'=grow (redrawn wr p.d) p.os) rgB ?_);simp only [tK1,tK0,dP1,dP0];refine wkx ?_;intro wx hb;replace BA:=BA.ee hb;replace BB:=BB.ee hb;replace BD:=BD.ee hb;replace hrow:=hrow.ee hb;replace hwr:=upB hwr hb;clear hb gA gB gD d0 d1 d2 d3 s0 s1 s2 s3 s4 c1 c2 q3 q4;have HQ:=hdd hwr;have HBA:=hdd BA;have HBB:=hdd BB;clear BA BB BD hrow hwr;go_wp2
    go_roundw
    case rel=>exact ⟨k+1,hkn,by go_num,HA2,HQ.o,HBA.o,HBB.o⟩
    case measure=>simp [intOf];omega
   | true=>
    cases e2:peqI Y.B.x Y.B.y q.x q.y with
    | false=>
     have HE:Hi (isW p q Y=false):=hdd (by rw [Kv,e1,e2];rfl);have HA2:Hi (∀ (j:Nat) (h:j < L.length),j < k+1->isW p q L[j]=false):=hdd (λj h hj=>by
      by_cases e:j=k
      ·subst e;rw [HY.o];exact HE.o
      ·exact HA.o j h (by omega))
     clear HA HY HE;go_wp2_with fail;refine (wp_region_tail 25 (by kernel_rfl) (by kernel_rfl) (C:=λw'=>∃ p:Regrown,w'=grow (redrawn wr p.d) p.os) rgB ?_);simp only [tK1,tK0,dP1,dP0];refine wkx ?_;intro wx hb;replace BA:=BA.ee hb;replace BB:=BB.ee hb;replace BD:=BD.ee hb;replace hrow:=hrow.ee hb;replace hwr:=upB hwr hb;clear hb gA gB gD d0 d1 d2 d3 s0 s1 s2 s3 s4 c1 c2 q3 q4;have HQ:=hdd hwr;have HBA:=hdd BA;have HBB:=hdd BB;clear BA BB BD hrow hwr;go_wp2
     go_roundw
     case rel=>exact ⟨k+1,hkn,by go_num,HA2,HQ.o,HBA.o,HBB.o⟩
     case measure=>simp [intOf];omega
    | true=>
     have HE:Hi (isW p q Y=true):=hdd (by rw [Kv,e1,e2];rfl);obtain ⟨k1,hk1⟩:∃ k1,k+1=k1:=⟨_,rfl⟩;have HREM:Hi (RemAt L p q 0 (L.take k ++ L.drop k1)):=hdd (.inr ⟨rfl,k,hkL,by rw [HY.o];exact HE.o,by rw [hk1]⟩);clear HA HY HE;go_wp2_with fail;refine (wp_region_tail 25 (by kernel_rfl) (by kernel_rfl) (C:=λw'=>∃ p:Regrown,w'=grow (redrawn wr p.d) p.os) rgB ?_);simp only [tK1,tK0,dP1,dP0];refine wkx ?_;intro wx hb;replace BA:=BA.ee hb;replace BB:=BB.ee hb;replace BD:=BD.ee hb;replace hrow:=hrow.ee hb;replace hwr:=upB hwr hb;clear hb gA gB gD d0 d1 d2 d3 s0 s1 s2 s3 s4 c1 c2 q3 q4;obtain ⟨ad,had,hdr,hfl2,hnil⟩:=jO hrow HM.o hnc hfl (show k1<=n by omega) hz;have HAD:=hdd had;have HT1:=hdd (show (L.take k).length=k by rw [Jc,HM.o];omega);have HT2:=hdd (show (L.drop k1).length=n - k1 by rw [Ja,HM.o]);have hk6:k<=1000000:=by omega
     have hk7:k+(n - k1)<=1000000:=by omega
     have q5:IntKind.i64.wrap ((k:Int)+1)=(k1:Int):=by rw [IntKind.wrap_i64];omega
     have gD:=BD.cells;have z2:k<=c:=by omega
     have z3:k1<=n:=by omega
     clear had hk1 e1 e2;go_wp2_with fail;have hcB:∀ w',(∃ p:Regrown,w'=grow (redrawn wx p.d) p.os)->Below wx wx w':=λw' h=>by obtain ⟨p,rfl⟩:=h;exact below_regrown _ _ _
     refine FT.wp_region_flow 17 (.run 0 (.run 2 (.run 3 (.run 4 (.run 5 (.run 6 (.run 7 (.run 9 (.run 10 (.run 11 (.run 12 (.run 13 (.run 14 (.run 15 (.alt 1 (.alt 8 (.alt 16 (.tail) .stop) .stop) .stop))))))))))))))) rfl (by kernel_rfl) (λ_ x _ _ _ h=>by cases x <;> exact h) (C:=λw'=>∃ p:Regrown,w'=grow (redrawn wx p.d) p.os) rgB hcB ?_;have hC:∀ x y,Ext x y->(∃ p:Regrown,x=grow (redrawn wx p.d) p.os)->(∃ p:Regrown,y=grow (redrawn wx p.d) p.os):=λx y h1 h2=>regrown_of_below ((hcB x h2).trans (h1.mono (hcB x h2).size))
     iterate 14 (refine FT.flow_run rfl (λK hK=>?_);go_simp;first | (refine hK _ ?_;clear hK K) | (apply Exists.intro;refine ⟨λ_=>?_,hK _ ?_⟩;rotate_left;clear hK K))
     first | rw [HAD.o] | (have hq:=HAD.o;simp only [Va] at hq;rw [hq];clear hq)
     refine FT.flow_at hC rfl trivial (λw1 hw1 K hK=>?_);go_simp;have hbM:Below wx wx (w1.alloc (.cells #[] 71)):=Below.alloc hw1 (Below.size hw1) _;have hrM:=kl w1 wx.heap.size (Below.size hw1);refine hK _ _ (regrown_of_below hbM) ?_;clear hK K;refine FT.flow_at hC rfl trivial (λw2 hw2 K hK=>?_);have hb2:=hbM.trans (Below.mono hw2 hbM.size);refine ze (by rfl) _ _ (by rfl) wx.heap.size _ [] (by rfl) (hrM.ee hw2) _ k c (L.take k) (by rfl) HT1.o ((hrow.ee hb2).take k) hfl (λe=>by cases e) (by simpa using hk6) (Below.size hb2) (some 51) (by rfl) ?_;intro w3 v12 hr12 hf12 hs12;rw [Jz] at hr12;have hb3:=hb2.trans (hf12.below (λk e=>((hrM.ee hw2).lt k e).1) hb2.size);refine hK _ _ (regrown_of_below hb3) ?_;clear hK K;simp only [Act.put,sT2,sT1,sT0];refine FT.flow_at hC rfl trivial (λw6 hw6 K hK=>?_);have hb6:=(upB hb3 hw6);refine ze (by rfl) _ _ (by rfl) wx.heap.size v12 (L.take k) (by rfl) (hr12.ee hw6) ad (n - k1) (c - k1) (L.drop k1) (by rfl) HT2.o (hdr.ee hb6) hfl2 hnil (by rw [HT1.o];exact hk7) hb6.size (some 59) (by rfl) ?_;intro w7 v18 hr18 hf18 hs18;have hb7:=hb6.trans (hf18.below (λk e=>((hr12.ee hw6).lt k e).1) hb6.size);refine hK _ _ (regrown_of_below hb7) ?_;clear hK K;simp only [Act.put,sT2,sT1,sT0];intro w8 hw8;have hb8:=(upB hb7 hw8);have BD8:=BD.ee hb8;have hw8':=(upB hwr hb8);obtain ⟨hS8,hF8,hG8⟩:=jj HS.o hw8' ((hr18.ee hw8).base hwr.size) (by rw [JC,HT1.o,HT2.o];exact hk7);obtain ⟨a18,n18,c18,rfl⟩:=hr18.form;obtain ⟨d0,d1,d2,d3⟩:=BD8.f;clear hr12 hr18 hf12 hs12 hf18 hs18 gD;simp only [dP1,dP0];go_wp2
     go_ret
     exact ⟨0,_,_,rfl,HREM.o,hS8,hF8,λg e=>.inr (hG8 g e)⟩
  ·obtain rfl:k=n:=by omega
   have HREM:Hi (RemAt L p q 16 L):=hdd (.inl ⟨rfl,rfl,λx hx=>by
    obtain ⟨j,hj,rfl⟩:=QD.1 hx;exact HA.o j hj (by have:=HM.o;omega)⟩)
   have hF:Frm w wr (· = db):=Frm.of_below hwr;have hS:=HS.o.ee hwr;have HF:=hdd hF;have HS2:=hdd hS;obtain ⟨d0,d1,d2,d3⟩:=BD.f;clear hS hF HA;go_wp2
   go_ret
   exact ⟨16,_,L,rfl,HREM.o,HS2.o,HF.o,λg e=>.inl (by rw [HM.o];exact e)⟩
end
section
open Go.RowKit Go.Sort
attribute [local go_sem] rOper rAt rUpon cell_set sg_i64 sg_u64 alloc_cell alloc_frozen
attribute [local go_sem 10000] pt_eql pt_neq tri_eql
attribute [local irreducible] rWalk
def putF (E:Es) (T:Tri3):Es:=if freeE E T=true then putT E T else E
theorem rputF_any (mb b:Nat) (E:Es) (T:Tri3) (hk:okT T) (w:World) (Bm:Box w mb [.map (some b)] 98) (Hm:Hs w b E):Calls prog 78 #[pt0 mb,T] w λe w'=>∃ r,e=.returned (.bool r)/\w.grownBy w' (some b)/\Hs w' b (putF E T):=by
 unfold putF;cases hf:freeE E T with
 | true=>exact (uF mb b E T hf hk w Bm Hm).mono λe w' ⟨h1,h2,h3⟩=>⟨true,h1,h2,by rw [JH rfl];exact h3⟩
 | false=>exact (KG mb b E T hf hk w Bm Hm).mono λe w' ⟨h1,h2⟩=>⟨false,h1,zM h2 _,by rw [J0 (by decide)];exact Hm.ee h2⟩
def atE (E:Es) (p:Pt):List Tri3:=srt cmpT (heads (λT=>hasP T p) E)
def cutS (p:Pt) (T:Tri3):List Tri3:=srt cmpT (cutR T p)
def addPE (E:Es) (p:Pt):Es:=(atE E p).foldl (λE T=>(cutS p T).foldl putF E) ((atE E p).foldl takeT E)
section
variable (mb b db:Nat) (E:Es) (p:Pt) (hE:E.length<=1000000) (w:World) (Bm:Box w mb [.map (some b)] 98) (Hm:Hs w b E)
include hE Bm Hm
theorem raddP_none (hat:atE E p=[]):Calls prog 44 #[pt0 mb,pt0 db,p] w (Rt w (.int .i64 1)):=by
 have cA:=λw0 B1 H1=>Yq mb b E p hE w0 B1 H1
 change ∀ (w0:World) B1 H1,Calls _ _ _ _ λe w'=>∃ a cap,e=.returned (.slice a (atE E p).length cap)/\RowAt cT 6 w' a (atE E p)/\Below w0 w0 w' at cA
 rw [hat] at cA;clear hat
 go_enter func44,ntmps44
 go_wp2_with fail;refine zI λW1 hW=>?_;have hw:Below w w W1:=by rw [hW];go_grown
 clear hW;refine (cA _ (Bm.ee hw) (Hm.ee hw)).mono ?_;rintro e w2 ⟨a,cap,rfl,hr,hb⟩;have hw2:=(upB hw hb);clear hb cA;go_wp2
 go_ret
 exact ⟨rfl,hw2⟩
theorem raddP_have (hat:atE E p≠[]) (hst:starE p E≠[]):Calls prog 44 #[pt0 mb,pt0 db,p] w (Rt w (.int .i64 5)):=by
 have cA:=λw0 B1 H1=>Yq mb b E p hE w0 B1 H1
 change ∀ (w0:World) B1 H1,Calls _ _ _ _ λe w'=>∃ a cap,e=.returned (.slice a (atE E p).length cap)/\RowAt cT 6 w' a (atE E p)/\Below w0 w0 w' at cA
 have cS:=λw0 B1 H1=>xP mb b E p hE w0 B1 H1;obtain ⟨n,hn⟩:∃ n,(atE E p).length=n:=⟨_,rfl⟩;obtain ⟨m,hm⟩:∃ m,(srt cmpT (starE p E)).length=m:=⟨_,rfl⟩;have hn0:((n:Int) == 0)=false:=by
  have:n≠0:=λe=>hat (Ju.1 (hn.trans e));simp;omega
 have hm1:0 < m:=by
  have:m≠0:=λe=>hst (Ju.1 (by rw [<-(zU (c:=cmpT) (starE p E)).length_eq,hm,e]));omega
 have hm0:decide (0 < (m:Int))=true:=by simp;omega
 have hm2:(0 < (m:Int))=True:=by simp;omega
 rw [hn] at cA;rw [hm] at cS;clear hat hst hn hm
 go_enter func44,ntmps44
 go_wp2_with fail;refine zI λW1 hW=>?_;have hw:Below w w W1:=by rw [hW];go_grown
 have Bp:Box W1 w [p.x,p.y] 34:=by rw [hW];exact Box.new rfl
 clear hW;refine (cA _ (Bm.ee hw) (Hm.ee hw)).mono ?_;rintro e w2 ⟨a,cap,rfl,hr,hb⟩;have hw2:=(upB hw hb);have Bp2:=Bp.ee hb;clear hb cA hr;have Fp:=Bp2.f;go_wp2_with fail;refine (cS _ (Bm.ee hw2) (Hm.ee hw2)).mono ?_;rintro e w3 ⟨a3,cap3,rfl,hr3,hb3⟩;have hw3:=(upB hw2 hb3);clear hb3 cS hr3 Fp;go_wp2
 go_ret
 exact ⟨rfl,hw3⟩
end
theorem DocAt.turn {w w':World} {db b:Nat} {v:Value} {L:List Wl} {E:Es} (S:DocAt w db v L) (H:Hs w b E) (hg:w.grownBy w' (some b)):DocAt w' db v L:=
 ⟨S.box.turn H hg,S.row.kept hg (.inr (λe=>yF S.row H e.symm)),S.ne,S.le⟩
theorem u9 {α β:Type} (f:β->α->β) (L:List α) (e:β) {i:Nat} (hi:i < L.length):(L.take (i+1)).foldl f e=f ((L.take i).foldl f e) L[i]:=by
 rw [JK hi,UQ];rfl
def insW (L:List Wl) (X:Wl) (k:Nat):List Wl:=L.take k ++ X :: L.drop k
def AddD (D:List Wl) (p:Pt) (D':List Wl):Prop:=
 (D.find? (onD p)=none/\D'=D)\/∃ X r D1 k1 k2,D.find? (onD p)=some X/\RemAt D (rl X.A X.B) (rg X.A X.B) r D1/\PutAt D1 ⟨X.A,p,X.K⟩ k1/\PutAt (insW D1 ⟨X.A,p,X.K⟩ k1) ⟨p,X.B,X.K⟩ k2/\D'=insW (insW D1 ⟨X.A,p,X.K⟩ k1) ⟨p,X.B,X.K⟩ k2
def AddPost (b db:Nat) (E:Es) (p:Pt) (v:Value) (D:List Wl) (w:World) (e:Ending) (w':World):Prop:=
 ∃ v' D',e=.returned (.int .i64 0)/\Hs w' b (addPE E p)/\DocAt w' db v' D'/\AddD D p D'/\Frm w w' (λk=>k=b\/k=db)/\(∀ g,v'.ownBlock=some g->v.ownBlock=some g\/w.heap.size<=g)
theorem raddP_ok (mb b db:Nat) (E:Es) (p:Pt) (v:Value) (D:List Wl) (hE:E.length<=1000000) (hn1:(atE E p).length<=1000) (hok:∀ T∈atE E p,okT T) (hok2:∀ T∈atE E p,∀ U∈cutS p T,okT U) (hat:atE E p≠[]) (hst:starE p E=[]) (w:World) (Bm:Box w mb [.map (some b)] 98) (Hm:Hs w b E) (Dw:DocAt w db v D) (hD:D.length+2 < 1000000) (hgk:∀ x∈D,0<=x.K/\x.K<=2):Calls prog 44 #[pt0 mb,pt0 db,p] w (AddPost b db E p v D w):=by
 have cA:=λw0 B1 H1=>Yq mb b E p hE w0 B1 H1
 change ∀ (w0:World) B1 H1,Calls _ _ _ _ λe w'=>∃ a cap,e=.returned (.slice a (atE E p).length cap)/\RowAt cT 6 w' a (atE E p)/\Below w0 w0 w' at cA
 have cS:=λw0 B1 H1=>xP mb b E p hE w0 B1 H1;have z:srt cmpT ([]:List Tri3)=[]:=Ju.1 (by rw [(zU _).length_eq];rfl);rw [hst,z] at cS;have HA:=hdd (show addPE E p=(atE E p).foldl (λE T=>(cutS p T).foldl putF E) ((atE E p).foldl takeT E) from rfl);obtain ⟨EE,hEE⟩:∃ EE,addPE E p=EE:=⟨_,rfl⟩;rw [hEE] at HA;have HEE:=hdd hEE;clear hEE;generalize atE E p=F at *
 obtain ⟨n,hn⟩:∃ n,F.length=n:=⟨_,rfl⟩;have hn0:((n:Int) == 0)=false:=by
  have:n≠0:=λe=>hat (Ju.1 (hn.trans e));simp;omega
 rw [hn] at cA hn1;have HN:=hdd hn;have HG:=hdd hgk;clear hat hst hn z hgk
 go_enter func44,ntmps44
 go_wp2_with fail;refine zI λW1 hW=>?_;have hw:Below w w W1:=by rw [hW];go_grown
 have Bp:Box W1 w [p.x,p.y] 34:=by rw [hW];exact Box.new rfl
 clear hW;refine (cA _ (Bm.ee hw) (Hm.ee hw)).mono ?_;rintro e w2 ⟨a,cap,rfl,hr,hb⟩;have hw2:=(upB hw hb);have Bp2:=Bp.ee hb;clear hb cA Bp hw;have Fp:=Bp2.f;go_wp2_with fail;refine (cS _ (Bm.ee hw2) (Hm.ee hw2)).mono ?_;rintro e w3 ⟨a3,cap3,rfl,hr3,hb3⟩;have hw3:=(upB hw2 hb3);have Bp3:=Bp2.ee hb3;have r3:=hr.ee hb3;have H3:=Hm.ee hw3;have g3:w.grownBy w3 (some b):=zM hw3 _;clear hb3 cS hr3 Fp hr Bp2 hw2 hw3;go_wp2
 go_loopw [8] (λv8 wr=>∃ i:Nat,v8=.int .i64 i/\i<=n/\Hs wr b ((F.take i).foldl takeT E)/\w.grownBy wr (some b)/\Box wr w [p.x,p.y] 34/\RowAt cT 6 wr a F) (λv8 _=>n - (intOf v8).toNat)
 case atStart=>exact ⟨0,rfl,Jl _,H3,g3,Bp3,r3⟩
 case round=>
  clear H3 g3 Bp3 r3;obtain ⟨i,rfl,hi,H3,g3,Bp3,r3⟩:=hrel;by_cases hlt:i < n
  ·have hil:i < F.length:=by rw [HN.o];exact hlt
   have q0:(i:Int) < (n:Int):=by omega
   obtain ⟨ad,A,ea,eA,hA⟩:=r3.six (j:=i) hil;have hkT:=hok F[i] (JX hil);have HT:=hdd (u9 takeT F E hil);generalize F[i]=T at *
   generalize hE1:(F.take i).foldl takeT E=E1 at *
   have ct:=uE mb b E1 T hkT wr (Bm.turn Hm g3) H3;obtain ⟨zA,q1,q2,q3,q4,q5,q6⟩:=hA.f;have hlA:=hA.1;subst ea;clear hE1 hkT;go_wp2_with fail;refine ct.mono ?_;rintro e w5 ⟨rfl,h5,H5⟩;have Bp5:=Bp3.turn H3 h5;have r5:=r3.turn cT_ne H3 h5;have g5:=zR g3 h5;clear ct zA q1 q2 q3 q4 q5 q6 hA H3 Bp3 r3 g3 h5;go_wp2
   go_roundw
   case rel=>exact ⟨i+1,by go_num,by omega,by rw [HT.o];exact H5,g5,Bp5,r5⟩
   case measure=>simp [intOf];omega
  ·have q0:decide ((i:Int) < (n:Int))=false:=by simpa using hlt
   have hin:i=n:=by omega
   have e1:F.take i=F:=JV (by rw [HN.o];omega);rw [e1] at H3;clear hin e1;go_wp2;generalize hEb:F.foldl takeT E=Eb at *
   clear hEb;obtain ⟨stp,hstp⟩:∃ stp:Es->Tri3->Es,stp=λE T=>(cutS p T).foldl putF E:=⟨_,rfl⟩;rw [<-hstp] at HA;have HSTP:=hdd hstp;clear hstp
   go_loopw [9] (λv9 wr=>∃ i:Nat,v9=.int .i64 i/\i<=n/\Hs wr b ((F.take i).foldl stp Eb)/\w.grownBy wr (some b)/\Box wr w [p.x,p.y] 34/\RowAt cT 6 wr a F) (λv9 _=>n - (intOf v9).toNat)
   case atStart=>exact ⟨0,rfl,Jl _,H3,g3,Bp3,r3⟩
   case round=>
    clear H3 g3 Bp3 r3 q0 hlt hi;obtain ⟨i,rfl,hi,H3,g3,Bp3,r3⟩:=hrel;by_cases hlt:i < n
    ·have hil:i < F.length:=by rw [HN.o];exact hlt
     have q0:(i:Int) < (n:Int):=by omega
     obtain ⟨ad,A,ea,eA,hA⟩:=r3.six (j:=i) hil;have hk2:=hok2 F[i] (JX hil);have HT:=hdd (show (F.take (i+1)).foldl stp Eb=(cutS p F[i]).foldl putF ((F.take i).foldl stp Eb) by rw [u9 stp F Eb hil,HSTP.o]);generalize F[i]=T at *
     generalize (F.take i).foldl stp Eb=E1 at *
     have cc:=λw0=>rcut_any T p w0
     change ∀ (w0:World),Calls _ _ _ _ λe w'=>∃ a cap,e=.returned (.slice a (cutS p T).length cap)/\RowAt cT 6 w' a (cutS p T)/\Below w0 w0 w' at cc
     have hcl:(cutS p T).length<=3:=by
      unfold cutS;rw [(zU _).length_eq];unfold cutR;split
      ·exact jk p T
      ·simp
     generalize cutS p T=C at *
     obtain ⟨m,hm⟩:∃ m,C.length=m:=⟨_,rfl⟩;have HM:=hdd hm;rw [hm] at cc hcl;clear hm;obtain ⟨s0,s1,s2,s3,s4,s5⟩:=hA.cells;have gP:=Bp3.cells;have ea2:=ea;subst ea;go_wp2_with fail;refine rgn 5 (λw4 hb=>?_);clear s0 s1 s2 s3 s4 s5 gP;have Bp4:=Bp3.ee hb;have r4:=r3.ee hb;have H4:=H3.ee hb;have g4:=zO g3 hb;clear hb hA Bp3 r3 H3 g3;go_wp2_with fail;refine (cc _).mono ?_;rintro e w5 ⟨a5,cap5,rfl,r5c,hb⟩;have Bp5:=Bp4.ee hb;have r5:=r4.ee hb;have H5:=H4.ee hb;have g5:=zO g4 hb;clear hb Bp4 r4 H4 g4 cc;go_wp2
     go_loopw [11] (λv11 wr=>∃ k:Nat,v11=.int .i64 k/\k<=m/\Hs wr b ((C.take k).foldl putF E1)/\w.grownBy wr (some b)/\Box wr w [p.x,p.y] 34/\RowAt cT 6 wr (some ad) F/\RowAt cT 6 wr a5 C) (λv11 _=>m - (intOf v11).toNat)
     case atStart=>exact ⟨0,rfl,Jl _,H5,g5,Bp5,r5,r5c⟩
     case round=>
      clear H5 g5 Bp5 r5 r5c;obtain ⟨k,rfl,hkm,H5,g5,Bp5,r5,r5c⟩:=hrel;by_cases hlk:k < m
      ·have hkl:k < C.length:=by rw [HM.o];exact hlk
       have q1:(k:Int) < (m:Int):=by omega
       obtain ⟨ad2,A2,ea2',eA2,hA2⟩:=r5c.six (j:=k) hkl;have hkU:=hk2 C[k] (JX hkl);have HU:=hdd (u9 putF C E1 hkl);generalize C[k]=U at *
       generalize (C.take k).foldl putF E1=E2 at *
       have cp:=rputF_any mb b E2 U hkU wr (Bm.turn Hm g5) H5;obtain ⟨zA,t1,t2,t3,t4,t5,t6⟩:=hA2.f;subst ea2';clear hkU;go_wp2_with fail;refine cp.mono ?_;rintro e w6 ⟨rr,rfl,h6,H6⟩;have Bp6:=Bp5.turn H5 h6;have r6:=r5.turn cT_ne H5 h6;have r6c:=r5c.turn cT_ne H5 h6;have g6:=zR g5 h6;clear cp zA t1 t2 t3 t4 t5 t6 hA2 H5 Bp5 r5 r5c g5 h6;go_wp2
       go_roundw
       case rel=>exact ⟨k+1,by go_num,by omega,by rw [HU.o];exact H6,g6,Bp6,r6,r6c⟩
       case measure=>simp [intOf];omega
      ·have q1:decide ((k:Int) < (m:Int))=false:=by simpa using hlk
       have hkm2:k=m:=by omega
       have e1:C.take k=C:=JV (by rw [HM.o];omega);rw [e1] at H5;clear hkm2 e1 r5c;go_wp2
       go_roundw
       case rel=>exact ⟨i+1,by go_num,by omega,by rw [HT.o];exact H5,g5,Bp5,r5⟩
       case measure=>simp [intOf];omega
    ·have q0:decide ((i:Int) < (n:Int))=false:=by simpa using hlt
     have hin:i=n:=by omega
     have e1:F.take i=F:=JV (by rw [HN.o];omega);rw [e1,<-HA.o] at H3;clear hin e1 r3;clear hok2 hok HN HA HSTP hE hn1 hn0;have Dw3:=Dw.turn Hm g3;have hgo:=λ(p:Nat->Prop) (hp:p b)=>Frm.of_grown g3 (p:=p) (λg e=>by cases e;exact hp);have F3:Frm w wr (λk=>k=b\/k=db):=hgo _ (.inl rfl);have hwp:w.heap.size < wr.heap.size:=Bp3.lt;have hdb:db < w.heap.size:=Dw.box.lt;have hbd:(some b)≠(some db):=λe=>(Dw3.box.ne_map H3) (JU e).symm;obtain ⟨a9,c9,hv9,Dr,_⟩:=Dw3.rd;have cO:=ron_set_any db a9 c9 D.length D p wr Dr;clear hgo g3 Dr hv9;have Fp:=Bp3.f;cases hO:D.find? (onD p) with
     | none=>
      rw [hO] at cO
      change Calls _ _ _ _ λe w'=>e=.returned (.tuple #[.agg #[(),(),(),(),()],.bool false])/\_ at cO
      have HO:=hdd hO;clear hO;go_wp2_with fail;refine cO.mono ?_;rintro e w6 ⟨rfl,hb⟩;have H6:=H3.ee hb;have D6:=Dw3.ee hb;have F6:=F3.trans (Frm.of_below hb);clear cO hb Fp Bp3 H3 Dw3 F3 hwp;go_wp2
      go_ret
      exact ⟨v,D,rfl,by rw [HEE.o];exact H6.alloc _,D6.ext (by go_grown) rfl,.inl ⟨HO.o,rfl⟩,F6.trans (Frm.of_below (by go_grown)),λg e=>.inl e⟩
     | some X=>
      rw [hO] at cO
      change Calls _ _ _ _ λe w'=>e=.returned (.tuple #[.agg #[X.A.x,X.A.y,X.B.x,X.B.y,X.K],.bool true])/\_ at cO
      have hXm:=Js hO;have hXk:=HG.o X hXm;have HO:=hdd hO;clear hO hXm;go_wp2_with fail;refine cO.mono ?_;rintro e w6 ⟨rfl,hb⟩;have H6:=H3.ee hb;have D6:=Dw3.ee hb;have F6:=F3.trans (Frm.of_below hb);have Bp6:=Bp3.ee hb;have hs6:=hb.size;clear cO hb Fp Bp3 H3 Dw3 F3;have Fp:=Bp6.f;go_wp2_with fail;refine zI λw7 hW=>?_;have Bw:Box w7 w6 [X.A.x,X.A.y,X.B.x,X.B.y,X.K] 71:=by rw [hW];exact Box.new rfl
      have Bp7:Box w7 w [p.x,p.y] 34:=by rw [hW];exact Bp6.old _
      have H7:Hs w7 b EE:=by rw [hW];exact H6.alloc _
      have hb7:Below w6 w6 w7:=by rw [hW];go_grown
      have D7:=D6.ee hb7;have F7:=F6.trans (Frm.of_below hb7);clear hW hb7 Fp Bp6 H6 D6 F6;refine (rrem_any db v D X.A X.B w7 D7).mono ?_;rintro e w8 ⟨r,v1,D1,rfl,hR,D8,f8,fr8⟩;have Bw8:=f8.box Bw (by omega);have Bp8:=f8.box Bp7 (by omega);have H8:=H7.kept f8.grown hbd;have F8:=F7.trans2 f8 (λk hk _=>.inr hk);have h1:D1.length<=D.length/\∀ x∈D1,x∈D:=by
       rcases hR with ⟨_,e,_⟩ | ⟨_,k,hk,_,e⟩
       ·rw [e];exact ⟨JJ _,λx hx=>hx⟩
       ·rw [e];refine ⟨by simp;omega,λx hx=>?_⟩;rcases JM.1 hx with hx | hx
        ·exact QU hx
        ·exact Qc hx
      have hs8:=f8.size;have cp1:=xq db v1 D1 ⟨X.A,p,X.K⟩ (by omega) (λx hx=>HG.o x (h1.2 x hx)) hXk w8 D8;have HR8:=hdd hR;have HL1:=hdd h1;clear hR Bw Bp7 H7 D7 F7 f8 h1;have Fp:=Bp8.f;have Fw:=Bw8.f;go_wp2_with fail;refine cp1.mono ?_;rintro e w9 ⟨k1,v2,rfl,hk1,D9,f9,fr9⟩;have Bw9:=f9.box Bw8 (by omega);have Bp9:=f9.box Bp8 (by omega);have H9:=H8.kept f9.grown hbd;have F9:=F8.trans2 f9 (λk hk _=>.inr hk);have hln:(D1.take k1 ++ (⟨X.A,p,X.K⟩:Wl) :: D1.drop k1).length=D1.length+1:=by
       rw [JC,JW,Jc,Ja];have:=hk1.1;omega
      have cp2:=xq db v2 (D1.take k1 ++ (⟨X.A,p,X.K⟩:Wl) :: D1.drop k1) ⟨p,X.B,X.K⟩ (by rw [hln];have:=HL1.o.1;omega) (λx hx=>by
       rcases JM.1 hx with hx | hx
       ·exact HG.o x (HL1.o.2 x (QU hx))
       ·rcases J1.1 hx with rfl | hx
        ·exact hXk
        ·exact HG.o x (HL1.o.2 x (Qc hx))) hXk w9 D9
      have HK1:=hdd hk1;clear Fp Fw Bp8 Bw8 H8 D8 F8 f9 cp1 hln hk1;have Fp:=Bp9.f;have Fw:=Bw9.f;go_wp2_with fail;refine cp2.mono ?_;rintro e w10 ⟨k2,v3,rfl,hk2',D10,f10,fr10⟩;have H10:=H9.kept f10.grown hbd;have F10:=F9.trans2 f10 (λk hk _=>.inr hk);have HADD:=hdd (show AddD D p ((D1.take k1 ++ (⟨X.A,p,X.K⟩:Wl) :: D1.drop k1).take k2 ++ (⟨p,X.B,X.K⟩:Wl) :: (D1.take k1 ++ (⟨X.A,p,X.K⟩:Wl) :: D1.drop k1).drop k2) from .inr ⟨X,r,D1,k1,k2,HO.o,HR8.o,HK1.o,hk2',rfl⟩);have HV:=hdd (show ∀ g,v3.ownBlock=some g->v.ownBlock=some g\/w.heap.size<=g from λg e=>.inr (by have:=fr10 g e;have:=F9.size;omega));clear Fp Fw Bp9 Bw9 H9 D9 F9 f10 cp2 hk2' fr10 fr9 fr8;generalize ((D1.take k1 ++ (⟨X.A,p,X.K⟩:Wl) :: D1.drop k1).take k2 ++ (⟨p,X.B,X.K⟩:Wl) :: (D1.take k1 ++ (⟨X.A,p,X.K⟩:Wl) :: D1.drop k1).drop k2)=DD at *
      go_wp2
      go_ret
      exact ⟨v3,DD,rfl,by rw [HEE.o];exact H10,D10,HADD.o,F10,HV.o⟩
theorem jb (f:Tri3->Bool):∀ (L:List Tri3),(∀ T∈L,valT T=true)->heads f (L.flatMap wys)=L.filter f
 | [],_=>rfl
 | T :: L,h=>by
  obtain ⟨a1,a2,a3⟩:=jB (h T (by simp));rw [JE,zu,jb f L (λS hS=>h S (by simp [hS]))];have:heads f (wys T)=if f T=true then [T] else []:=by
   unfold heads wys;cases hf:f T <;> simp [Ne.symm a1,a3,hf]
  rw [this];cases hf:f T <;> simp [hf]
theorem jc {E:Es} {L:List Tri3} (h:Good E L) (f:Tri3->Bool):(heads f E).Perm (L.filter f):=by
 have:=xf (p:=f) h.perm
 rwa [jb f L h.val] at this
def isCb (p:Pt) (T:Tri3):Bool:=decide (p=T.A) || (decide (p=T.B) || decide (p=T.C))
theorem km {p:Pt} {T:Tri3}:isCb p T=true↔isCnr T p:=by
 unfold isCb isCnr;simp
theorem vA (p:Pt):∀ (L:List Tri3),(∀ T∈L,valT T=true)->starE p (L.flatMap wys)=L.filter (isCb p)
 | [],_=>rfl
 | T :: L,h=>by
  obtain ⟨a1,a2,a3⟩:=jB (h T (by simp));rw [JE,qq,vA p L (λS hS=>h S (by simp [hS]))];have:starE p (wys T)=if isCb p T=true then [T] else []:=by
   unfold starE wys isCb;by_cases h1:p=T.A
   ·subst h1;simp [Ne.symm a1,a3]
   ·by_cases h2:p=T.B
    ·subst h2;simp [a1,Ne.symm a2]
    ·by_cases h3:p=T.C
     ·subst h3;simp [Ne.symm a3,a2]
     ·simp [h1,h2,h3,Ne.symm h1,Ne.symm h2,Ne.symm h3]
  rw [this];cases hf:isCb p T <;> simp [hf]
theorem Good.star_f {E:Es} {L:List Tri3} (h:Good E L) (p:Pt):(starE p E).Perm (L.filter (isCb p)):=by
 have:=uw (p:=p) h.perm
 rwa [vA p L h.val] at this
theorem Good.star_nil {E:Es} {L:List Tri3} (h:Good E L) (p:Pt):starE p E=[]↔¬ someC L p:=by
 constructor
 ·intro e ⟨T,hT,hc⟩;have:=h.star_f p;rw [e] at this;have hm:T∈L.filter (isCb p):=JZ.2 ⟨hT,km.2 hc⟩;rw [<-this.mem_iff] at hm;cases hm
 ·intro hn;have:=h.star_f p;refine List.Perm.eq_nil (this.trans ?_);rw [VL.2 (λT hT hc=>hn ⟨T,hT,km.1 hc⟩)]
theorem jG {f g:Tri3->List Tri3}:∀ {L:List Tri3},(∀ T∈L,(f T).Perm (g T))->(L.flatMap f).Perm (L.flatMap g)
 | [],_=>.refl _
 | T :: L,h=>by
  rw [JE,JE];exact (h T (by simp)).append (jG λS hS=>h S (by simp [hS]))
theorem Good.putsF:∀ {I:List Tri3} {E:Es} {M:List Tri3},Good E M->(∀ T∈I,valT T=true)->((I ++ M).flatMap ways).Nodup->Good (I.foldl putF E) (I ++ M)
 | [],_,_,h,_,_=>h
 | T :: I,E,M,h,hv,hn=>by
  have hn':(ways T ++ (I ++ M).flatMap ways).Nodup:=by rw [<-JE];exact hn
  rw [Jg] at hn';obtain ⟨h1,h2⟩:=Good.put (E:=E) (T:=T) (M:=M) h (hv T (by simp)) (λw hw k=>hn'.2.2 w hw w (by rw [Je];exact Jr _ k) rfl);have:=Good.putsF (I:=I) h2 (λS hS=>hv S (by simp [hS])) ((zv (QM (a:=T) (l₁:=I) (l₂:=M))).nodup_iff.2 hn);have e:putF E T=putT E T:=by unfold putF;rw [JH (xL h1)]
  rw [List.foldl_cons,e];exact this.order QM
theorem jM (f:Es->Tri3->Es) (g:Tri3->List Tri3):∀ (L:List Tri3) (E:Es),L.foldl (λE T=>(g T).foldl f E) E=(L.flatMap g).foldl f E
 | [],_=>rfl
 | T :: L,E=>by rw [List.foldl_cons,JE,UQ,jM f g L]
section
variable {W H:Int} {E:Es} {L:List Tri3} (hW:W < 16777216) (hH:H < 16777216) (g:Good E L) (t:Tiles W H L) {p:Pt}
include hW hH g t
omit t in
theorem tq (hp:inBox W H p):(atE E p).Perm (L.filter λT=>hasP T p)/\∀ T∈L,hasP T p=true↔hasT T p:=by
 have vp:vld p=true:=by rw [zh];unfold inBox at hp;omega
 refine ⟨?_,λT hT=>?_⟩
 ·unfold atE;exact (zU _).trans (jc g _)
 ·rw [ZL (g.val T hT) vp];rfl
omit hW hH in
theorem Kg (hp:¬ inBox W H p):atE E p=[]:=by
 have h1:(atE E p).Perm (L.filter λT=>hasP T p):=by unfold atE;exact (zU _).trans (jc g _)
 refine List.Perm.eq_nil (h1.trans ?_);rw [VL.2];intro T hT hh;have vp:vld p=true:=by
  unfold hasP at hh;simp only [JB] at hh;exact hh.2.1
 exact hp (has_box (t.pos T hT) (t.box T hT) ((ZL (g.val T hT) vp).1 hh))
theorem Xp (hW0:0 < W) (hH0:0 < H) (hp:inBox W H p):atE E p≠[]:=by
 obtain ⟨h1,h2⟩:=tq hW hH g hp;obtain ⟨T,hT,k⟩:=t.covers hW0 hH0 hp;intro e;rw [e] at h1;have:T∈L.filter λT=>hasP T p:=JZ.2 ⟨hT,(h2 T hT).2 k⟩;rw [<-h1.mem_iff] at this;cases this
theorem add_good (hW0:0 < W) (hH0:0 < H) (hp:inBox W H p) (hn:¬ someC L p):(∀ T∈atE E p,valT T=true)/\(∀ T∈atE E p,∀ U∈cutS p T,valT U=true)/\(atE E p).length<=2/\∃ L',Good (addPE E p) L'/\Tiles W H L'/\(∀ q,someC L' q↔someC L q\/q=p)/\(L'.length=L.length+2/\¬ atRim W H p\/L'.length=L.length+1/\atRim W H p):=by
 obtain ⟨h1,h2⟩:=tq hW hH g hp;have hn':∀ T∈L,¬ isCnr T p:=λT hT hc=>hn ⟨T,hT,hc⟩;obtain ⟨F,hF,f1,f2⟩:=t.spots hW0 hH0 hp hn' h2;have fa:=h1.trans f1;have hv:∀ T∈atE E p,valT T=true:=λT hT=>g.val T (JZ.1 (h1.mem_iff.1 hT)).1;have hcut:∀ T∈atE E p,(cutS p T).Perm (cutP p T):=by
  intro T hT;have hm:=JZ.1 (h1.mem_iff.1 hT);have hc:=hn' T hm.1;have:cutOk T p=true:=by
   unfold cutOk isCnr at *;simp only [UG] at hc;rw [hm.2,yM.2 hc.1,yM.2 hc.2.1,yM.2 hc.2.2];rfl
  unfold cutS cutR;rw [JH this];exact zU _
 obtain ⟨t',tv⟩:=vz t hW0 hH0 hW hH hp hn' hF f2;obtain ⟨c1,c2⟩:=te t hW hH hp hF;have pI:((atE E p).flatMap (cutS p)).Perm (F.flatMap (cutP p)):=(jG hcut).trans (fa.flatMap_right _);have lenF:F.length<=2:=by cases hF <;> simp
 refine ⟨hv,λT hT U hU=>(tv U (pI.mem_iff.1 (JO.2 ⟨T,hT,hU⟩))).1,by rw [fa.length_eq];exact lenF,(atE E p).flatMap (cutS p) ++ L.filter (λx => !hasP x p),?_,?_,?_,?_⟩
 ·unfold addPE;rw [jM];have k:=Good.takesF (F:=atE E p) (E:=E) (M:=L.filter λx => !hasP x p) (g.order (f2.trans (fa.symm.append_right _)));refine Good.putsF k (λU hU=>(tv U (pI.mem_iff.1 hU)).1) ?_;exact (zv (pI.append_right _)).nodup_iff.2 t'.once
 ·exact t'.perm (pI.symm.append_right _)
 ·intro q;rw [xp,xX pI,c1,xX f2,xp];constructor
  ·rintro ((k | k) | k)
   ·exact .inl (.inl k)
   ·exact .inr k
   ·exact .inl (.inr k)
  ·rintro ((k | k) | k)
   ·exact .inl (.inl k)
   ·exact .inr k
   ·exact .inl (.inr k)
 ·have e1:L.length=F.length+(L.filter λx => !hasP x p).length:=by rw [f2.length_eq,JC]
  rw [JC,pI.length_eq];rcases c2 with ⟨k1,k2⟩ | ⟨k1,k2⟩
  ·exact .inl ⟨by omega,k2⟩
  ·exact .inr ⟨by omega,k2⟩
end
structure CdtAt (w:World) (cb mb b db:Nat) (v:Value) (W H:Int) (E:Es) (D:List Wl):Prop where
 box:Box w cb [W,H,pt0 mb,pt0 db] 58
 mesh:Box w mb [.map (some b)] 98
 map:Hs w b E
 doc:DocAt w db v D
 cdb:cb≠db
 mdb:mb≠db
theorem CdtAt.ext {w w':World} {cb mb b db n:Nat} {v:Value} {W H:Int} {E:Es} {D:List Wl} (S:CdtAt w cb mb b db v W H E D) (hb:Below n w w') (hn:n=w.heap.size):CdtAt w' cb mb b db v W H E D:=
 ⟨S.box.ext hb hn,S.mesh.ext hb hn,S.map.ext hb hn,S.doc.ext hb hn,S.cdb,S.mdb⟩
theorem CdtAt.ee {w w':World} {cb mb b db:Nat} {v:Value} {W H:Int} {E:Es} {D:List Wl} (S:CdtAt w cb mb b db v W H E D) (hb:Below w w w'):CdtAt w' cb mb b db v W H E D:=S.ext hb rfl
theorem YX {D D':List Wl} {p:Pt} (h:AddD D p D') (hk:∀ x∈D,0<=x.K/\x.K<=2):(∀ x∈D',0<=x.K/\x.K<=2)/\D'.length<=D.length+2:=by
 rcases h with ⟨_,e⟩ | ⟨X,r,D1,k1,k2,hX,hR,h1,h2,e⟩
 ·rw [e];exact ⟨hk,by omega⟩
 ·have hXk:=hk X (Js hX);have hD1:D1.length<=D.length/\∀ x∈D1,x∈D:=by
   rcases hR with ⟨_,e,_⟩ | ⟨_,k,hk,_,e⟩
   ·rw [e];exact ⟨JJ _,λx hx=>hx⟩
   ·rw [e];refine ⟨by simp;omega,λx hx=>?_⟩;rcases JM.1 hx with hx | hx
    ·exact QU hx
    ·exact Qc hx
  have ins:∀ (L:List Wl) (Y:Wl) (k:Nat),(∀ x∈L,0<=x.K/\x.K<=2)->(0<=Y.K/\Y.K<=2)->∀ x∈insW L Y k,0<=x.K/\x.K<=2:=by
   intro L Y k hL hY x hx;unfold insW at hx;rcases JM.1 hx with hx | hx
   ·exact hL x (QU hx)
   ·rcases J1.1 hx with rfl | hx
    ·exact hY
    ·exact hL x (Qc hx)
  have len:∀ (L:List Wl) (Y:Wl) (k:Nat),(insW L Y k).length=L.length+1:=by
   intro L Y k;unfold insW;have:=(xV (L:=L) (X:=Y) k).length_eq
   simpa using this
  rw [e];exact ⟨ins _ _ _ (ins _ _ _ (λx hx=>hk x (hD1.2 x hx)) hXk) hXk,by rw [len,len];omega⟩
def AddRes (W H:Int) (L:List Tri3) (p:Pt) (r:Int):Prop:=(r=1/\¬ inBox W H p)\/(r=5/\inBox W H p/\someC L p)\/(r=0/\inBox W H p/\¬ someC L p)
end
section
open Go.RowKit Go.Sort
def eff5 (c0 c1 c2 c3 c4:Value) (b:Nat) (w:World):World:=((((w.setCell ⟨b,0,none⟩ c0).setCell ⟨b,1,none⟩ c1).setCell ⟨b,2,none⟩ c2).setCell ⟨b,3,none⟩ c3).setCell ⟨b,4,none⟩ c4
theorem eff5_spec {c0 c1 c2 c3 c4 z:Value} {T:TypeId} (w:World) (b:Nat) (h:w.heap[b]? = some (.cells [z,z,z,z,z].toArray T)):(eff5 c0 c1 c2 c3 c4 b w).heap[b]? = some (.cells [c0,c1,c2,c3,c4].toArray T)/\(∀ B,B<=b->Below B w (eff5 c0 c1 c2 c3 c4 b w)):=by
 have B0:Box w b [z,z,z,z,z] T:=h;exact ⟨((((B0.set 0 c0).set 1 c1).set 2 c2).set 3 c3).set 4 c4,λB hB=>(((((Below.refl B w).setCell hB _).setCell hB _).setCell hB _).setCell hB _).setCell hB _⟩
theorem rgl5 {P : Program} {id : Nat} {Q : Exit -> Act -> World -> Prop} {a A : Act} {w : World} {l r : List Oper} {c0 c1 c2 c3 c4 : Value} {T : TypeId} {oj os : Oper} (m : Nat) (d t : Tmp)
    (k:∀ w' b,Below w w w'->w.heap.size<=b->b < w'.heap.size->Box w' b [c0,c1,c2,c3,c4] T->wpList P l.toArray Q r (A.put (some d) (.pointer (some ⟨b,0,none⟩))) w')
    (hoj:l.toArray[m]? = some oj:=by rfl) (hos:l.toArray[m+1]? = some os:=by rfl) (hjd:oj.dst=some d:=by rfl) (hafter:oj.after=#[]:=by rfl) (hguard:oj.guard=none:=by rfl) (hsd:os.dst=none:=by rfl) (hsg:os.guard=none:=by rfl)
    (hdsz:d < a.tmps.size:=by simp)
    (hrun:∀ (ρ:Operand->Value) (w:World),(execOp ρ oj).run P w=.ok (.value (.pointer (some ⟨w,0,none⟩))) (w.alloc (.cells #[(),(),(),(),()] T)):=by (intro ρ W;simp [execOp,go_sem];rfl))
    (hm:P.follows .mixedOrders=true:=by kernel_rfl) (hB:lateB .any l.toArray (m+2) m (m+1) d t=true:=by as_aux_lemma=>kernel_rfl)
    (hr:l.drop (m+2)=r:=by (simp only [dP1,dP0];try rfl))
    (h:rWalk P l.toArray (λw'=>∃ p:Regrown,w'=grow (redrawn w p.d) p.os) (λa'=>a'=A) (l.take m) a:=by
     simp only [Q5,Qd];repeat (first | (refine zK (Eq.refl false) ?_;simp only [Act.put,sT2,sT1,sT0]) | (refine rWalk_step (λK hK=>?_);go_simp;first | (refine hK _ ?_;clear hK K) | (apply Exists.intro;refine ⟨λ_=>?_,hK _ ?_⟩;(with_reducible exact toExt (by assumption) _);clear hK K)))
     exact rWalk_nil rfl)
    (he:A.eval (.tmp t)=.agg #[c0,c1,c2,c3,c4]:=by rfl)
    (hst:∀ (ρ:Operand->Value) (w:World) (b:Nat),ρ (.tmp d)=.pointer (some ⟨b,0,none⟩)->ρ (.tmp t)=.agg #[c0,c1,c2,c3,c4]->Box w b [(),(),(),(),()] T->(execOp ρ os).run P w=.ok .skip (eff5 c0 c1 c2 c3 c4 b w):=by
     (intro ρ W b e1 e2 hB;obtain ⟨x,y,_,_⟩:=hB.f;simp [execOp,go_sem,e1,e2,x,y,eff5])):(Code.region id l.toArray true).wp P Q a w:=
 qC m d t [c0,c1,c2,c3,c4] (zs:=[(),(),(),(),()]) (eff:=eff5 c0 c1 c2 c3 c4) eff5_spec hoj hos hjd hafter hguard hsd hsg hdsz hrun hm hB rgB
  (KB (A:=A) ⟨he,λw' b h1 h2 h3 h4=>by rw [hr];exact k w' b h1 h2 h3 h4⟩ _ _ _ h) hst
attribute [local go_sem] rOper rAt rUpon cell_set sg_i64 sg_u64 alloc_cell alloc_frozen
attribute [local go_sem 10000] pt_eql pt_neq tri_eql
attribute [local irreducible] rWalk
theorem kv (T:Tri3) (a b:Pt) (w:World):Calls prog 157 #[T,a,b] w (Rt w (.agg #[.int .i64 (apx T a b).x,.int .i64 (apx T a b).y])):=by
 unfold apx;cases a0:peqI T.A.x T.A.y a.x a.y with
 | false=>
  cases b0:peqI T.A.x T.A.y b.x b.y with
  | false=>rw [JH ⟨rfl,rfl⟩];exact apex_0 T a b a0 b0 w
  | true=>
   rw [J0 (by simp)];cases a1:peqI T.B.x T.B.y a.x a.y with
   | false=>
    cases b1:peqI T.B.x T.B.y b.x b.y with
    | false=>rw [JH ⟨rfl,rfl⟩];exact apex_20 T a b a0 b0 a1 b1 w
    | true=>rw [J0 (by simp)];exact apex_22 T a b a0 b0 a1 b1 w
   | true=>rw [J0 (by simp)];exact apex_21 T a b a0 b0 a1 w
 | true=>
  rw [J0 (by simp)];cases a1:peqI T.B.x T.B.y a.x a.y with
  | false=>
   cases b1:peqI T.B.x T.B.y b.x b.y with
   | false=>rw [JH ⟨rfl,rfl⟩];exact apex_10 T a b a0 a1 b1 w
   | true=>rw [J0 (by simp)];exact apex_12 T a b a0 a1 b1 w
  | true=>rw [J0 (by simp)];exact apex_11 T a b a0 a1 w
theorem tB (mb b:Nat) (E:Es) (a1 a2:Option Addr) (cap1 cap2 n1 n2:Nat) (L1 L2:List Tri3) (hn1:Hi (L1.length=n1)) (hm1:n1<=1000000) (hok1:∀ T∈L1,okT T) (hn2:Hi (L2.length=n2)) (hm2:n2<=1000000) (hok2:∀ T∈L2,okT T) (h1:(takeRun E L1).1=n1) (h2:(putRun (takeRun E L1).2 L2).1=n2) (w:World) (Bm:Box w mb [.map (some b)] 83) (Hm:Hs w b E) (Hr1:RowAt cT 6 w a1 L1) (Hr2:RowAt cT 6 w a2 L2):Calls prog 26 #[pt0 mb,.slice a1 n1 cap1,.slice a2 n2 cap2] w λe w'=>e=.returned (.int .i64 0)/\w.grownBy w' (some b)/\Hs w' b (putRun (takeRun E L1).2 L2).2:=by
 have c1:=jI mb b E a1 cap1 n1 L1 hn1 hm1 hok1;rw [h1] at c1;generalize (takeRun E L1).2=F at *
 have c2:=jX mb b F a2 cap2 n2 L2 hn2 hm2 hok2;rw [h2] at c2;generalize (putRun F L2).2=G at *
 clear h1 h2 hok1 hok2 hn1 hn2;have d1:decide ((n1:Int) < (n1:Int))=false:=by simp
 have d2:decide ((n2:Int) < (n2:Int))=false:=by simp
 go_enter func26,ntmps26
 go_wp2_with fail;refine (c1 _ Bm Hm Hr1).mono ?_;rintro e w1 ⟨rfl,hg,H1⟩;replace Bm:=Bm.turn Hm hg;replace Hr2:=Hr2.turn cT_ne Hm hg;clear Hm Hr1;go_wp2_with fail;refine (c2 _ Bm H1 Hr2).mono ?_;rintro e w2 ⟨rfl,hh,H2⟩;replace hg:=zR hg hh;clear hh;go_wp2
 go_ret
 exact ⟨rfl,hg,H2⟩
theorem vF {w:World} {g:Nat} {S:List Tri3} (h:Box w g (S.flatMap cT) 45):RowAt cT 6 w (some ⟨g,0,none⟩) S:=λj x hj=>by
 have hl:=(JR.1 hj);refine ⟨_,rfl,h.lt,λi u hu=>?_⟩;have hi:i < 6:=(JR.1 hu).1;rw [Addr.add_lit,Addr.add_lit,h.f.1,QJ,yL ks S j i x hj hi];exact hu
theorem flip_n0 (mb b:Nat) (E:Es) (p q:Pt) (hk:okW (p,q)) (h0:getE E (p,q)=none) (w:World) (Bm:Box w mb [.map (some b)] 83) (Hm:Hs w b E):Calls prog 115 #[pt0 mb,p,q] w (Rt w (.int .i64 16)):=by
 have cl:=K6 mb b E p q h0 hk;clear h0
 go_enter func115,ntmps115
 go_wp2_with fail;refine qE2 λW1 Bp Bq hw=>?_;refine qC2 (cl _ (Bm.ee hw) (Hm.ee hw)) Bp Bq hw λw2 Bp Bq hw FJ=>?_;go_wp2
 go_ret
 exact ⟨rfl,by have hl:=hw.size;go_grown⟩
theorem flip_n1 (mb b:Nat) (E:Es) (p q:Pt) (hk:okW (p,q)) (S:Tri3) (h0:getE E (p,q)=some S) (h1:getE E (q,p)=none) (w:World) (Bm:Box w mb [.map (some b)] 83) (Hm:Hs w b E):Calls prog 115 #[pt0 mb,p,q] w (Rt w (.int .i64 16)):=by
 have cl:=ZI mb b E p q S h0 hk;have cr:=K6 mb b E q p h1 ⟨hk.2,hk.1⟩;clear h0 h1
 go_enter func115,ntmps115
 go_wp2_with fail;refine qE2 λW1 Bp Bq hw=>?_;refine qC2 (cl _ (Bm.ee hw) (Hm.ee hw)) Bp Bq hw λw2 Bp Bq hw FJ=>?_;go_wp2_with fail;clear FJ;refine zI λW3 hW=>?_;obtain ⟨bks,hbs⟩:∃ b,w2.heap.size=b:=⟨_,rfl⟩;rw [hbs];obtain ⟨lps,lqs,fs,Bs,Bp,Bq,hw⟩:=qM2 hW hbs Bp Bq hw;clear hW hbs;refine qC3 (cr _ (Bm.ee hw) (Hm.ee hw)) Bp Bq Bs hw λw4 Bp Bq Bs hw Gw=>?_;go_wp2
 go_ret
 exact ⟨rfl,by have hl:=hw.size;go_grown⟩
theorem rsquare_any (W H:Int) (w:World):Calls prog 38 #[W,H] w (Rt w (.agg #[(),(),W,(),W,H,(),H])):=by
 go_enter func38,ntmps38
 go_wp2_with fail;generalize hW:w.alloc (.cells #[(),(),W,(),W,H,(),H] 86)=W1
 have Bq:Box W1 w [(),(),W,(),W,H,(),H] 86:=by rw [<-hW];exact Box.new rfl
 have hw:Below w w W1:=by rw [<-hW];go_grown
 clear hW;have Fq:=Bq.f;refine bodyPost_ret (v:=.agg #[(),(),W,(),W,H,(),H]) (by simp [results,results38,go_sem,Fq]) rfl ⟨rfl,hw⟩
def sqP (W H:Int) (k:Nat):Pt:=if k % 4=0 then ⟨0,0⟩ else if k % 4=1 then ⟨W,0⟩ else if k % 4=2 then ⟨W,H⟩ else ⟨0,H⟩
def sqW (W H:Int) (k:Nat):Wl:=mkW (sqP W H k) (sqP W H (k+1)) 2
theorem xu (a b:Pt):0<=(mkW a b 2).K/\(mkW a b 2).K<=2:=by
 unfold mkW;split <;> simp
theorem round_eqC {i n:Int} (hn:0 < n) (hn2:n<=4294967296):(wrap64 (i.tmod n+n)).tmod n=i % n:=by
 have h1:0<=i % n:=Vd i (by omega);have h2:i % n < n:=VC i hn;have h3:i.tmod n=i % n\/i.tmod n=i % n - n:=by
  have h := @Int.tmod_eq_emod i n;split at h
  ·left;omega
  ·right;rw [h];omega
 have h4:wrap64 (i.tmod n+n)=i.tmod n+n:=by rw [w64];omega
 rw [h4,Vo (by omega)];rcases h3 with h | h <;> rw [h]
 ·rw [Int.add_emod_right];exact Int.emod_eq_of_lt h1 h2
 ·rw [show i % n - n+n=i % n by omega];exact Int.emod_eq_of_lt h1 h2
theorem Yl {i n:Int} (hn:0 < n) (hn2:n<=4294967296) (w:World):Calls prog 9 #[i,n] w (Rt w (.int .i64 (i % n))):=by
 rw [<-round_eqC hn hn2];have h0:(n == 0)=false:=by simp;omega
 have h1:n≠0:=by omega
 go_enter func9,ntmps9
 go_wp2;all_goals go_ret
 all_goals exact ⟨rfl,by go_grown⟩
def spt (s n:Int):Pt:=⟨n % ((s+1) * (s+1)) % (s+1),n % ((s+1) * (s+1)) / (s+1)⟩
theorem Za {s:Int} (hs:0 < s) (n:Int):inBox s s (spt s n):=by
 have hp:0 < (s+1) * (s+1):=JP (by omega) (by omega);have h1:=Vd n (b:=(s+1) * (s+1)) (by omega);have h2:=VC n hp;have h3:=Vd (n % ((s+1) * (s+1))) (b:=s+1) (by omega);have h4:=VC (n % ((s+1) * (s+1))) (b:=s+1) (by omega);have h5:0<=n % ((s+1) * (s+1)) / (s+1):=Int.ediv_nonneg h1 (by omega);have h6:n % ((s+1) * (s+1)) / (s+1) < s+1:=Int.ediv_lt_of_lt_mul (by omega) h2;unfold inBox spt;simp only;omega
theorem uB (s n:Int) (hs:0 < s) (hs2:s<=60) (w:World):Calls prog 8 #[s,n] w (Rt w (.agg #[.int .i64 (spt s n).x,.int .i64 (spt s n).y])):=by
 have hp:0 < (s+1) * (s+1):=JP (by omega) (by omega);have hp2:(s+1) * (s+1)<=4000:=by
  have:=Int.mul_le_mul (a:=s+1) (b:=s+1) (c:=61) (d:=61) (by omega) (by omega) (by omega) (by omega);omega
 have cr:=Yl (i:=n) (n:=(s+1) * (s+1)) hp (by omega);have hk1:=Vd n (b:=(s+1) * (s+1)) (by omega);have hk2:=VC n hp;have hb:=Za hs n;have HE:=hdd (show spt s n=⟨n % ((s+1) * (s+1)) % (s+1),n % ((s+1) * (s+1)) / (s+1)⟩ from rfl);have hw1:wrap64 ((s+1) * (s+1))=(s+1) * (s+1):=by rw [w64];omega
 have hk3:n % ((s+1) * (s+1)) < 4000:=by omega
 have HB:=hdd hb;generalize n % ((s+1) * (s+1))=k at *
 have ht1:Int.tmod k (s+1)=k % (s+1):=Vo hk1;have ht2:Int.tdiv k (s+1)=k / (s+1):=Int.tdiv_eq_ediv_of_nonneg hk1
 go_enter func8,ntmps8
 have h5:0<=k / (s+1):=Int.ediv_nonneg hk1 (by omega);have h6:k / (s+1)<=k:=Int.ediv_le_self _ hk1;have h7:=Vd k (b:=s+1) (by omega);have h8:=VC k (b:=s+1) (by omega);have n0:s+1≠0:=by omega
 have n1:(s+1 == 0)=false:=by simp;omega
 have n2:(s+1=0)=False:=by simp;omega
 have a1:IntKind.i64.wrap (s+1)=s+1:=by rw [IntKind.wrap_i64];omega
 have a2:IntKind.i64.wrap (k / (s+1))=k / (s+1):=by rw [IntKind.wrap_i64];omega
 have a3:IntKind.i64.wrap (k % (s+1))=k % (s+1):=by rw [IntKind.wrap_i64];omega
 have HK:=hdd (show True from trivial);clear hb hp hp2 hk2 hk3;go_wp2_with fail;refine zI λW1 hW=>?_;have Br:Box W1 w [(),()] 34:=by rw [hW];exact Box.new rfl
 have hw:Below w w W1:=by rw [hW];go_grown
 clear hW;refine (cr _).mono ?_;rintro e w2 ⟨rfl,hb⟩;have Br2:=Br.ee hb;have hw2:=(upB hw hb);clear hb Br hw cr;have Fr:=Br2.f;go_wp2_with fail;clear Fr;have gr:=Br2.cells;refine rgn 9 (λw3 hb=>?_);clear gr;have Br3:=Br2.ee hb;have hw3:=(upB hw2 hb);clear hb Br2 hw2;have Fr:=Br3.f;go_wp2_with fail;refine bodyPost_ret (v:=.agg #[.int .i64 (k % (s+1)),.int .i64 (k / (s+1))]) (by simp [results,results8,go_sem,Fr]) rfl ⟨by rw [HE.o],by have hl:=hw3.size;go_grown⟩
def cI (x:Int):List Value:=[x]
theorem RowAt.num {w:World} {a:Option Addr} {P:List Int} (h:RowAt cI 1 w a P) {j:Nat} (hj:j < P.length):∃ ad,a=some ad/\ad.block < w.heap.size/\w.cell? (ad.add j)=some (.int .i64 P[j]):=by
 obtain ⟨ad,h1,h2,h3⟩:=h j P[j] (JG hj);have h4:=h3 0 (.int .i64 P[j]) rfl;rw [Nat.mul_one,show ∀ A:Addr,A.add 0=A from λA=>by unfold Addr.add;split <;> simp_all] at h4;exact ⟨ad,h1,h2,h4⟩
def PutPt (s:Int) (P:List Int) (q:Pt):Prop:=(q=⟨0,0⟩\/q=⟨s,0⟩\/q=⟨s,s⟩\/q=⟨0,s⟩)\/∃ x∈P,q=spt s x
section
open Go.ChangeShapes Go.WideShapes Go.ChangeAt
section
variable {H:Type} {enc:TypeId×Value->H} {P:Program} {w:World} {base:Nat} {spare:Nat->Bool} {held:Bool}
theorem trodAll_five {t0 t1 t2 t3 t4:TypeId} {args:Array Value} {ds:List (DataW H)} {ps:List MemPlace} (h:DataW.TrodAll enc P w base spare held [t0,t1,t2,t3,t4] args.toList ds ps):∃ v0 v1 v2 v3 v4 d0 d1 d2 d3 d4 q0 q1 q2 q3 q4,args=#[v0,v1,v2,v3,v4]/\ds=[d0,d1,d2,d3,d4]/\ps=q0 ++ (q1 ++ (q2 ++ (q3 ++ q4)))/\DataW.Trod enc P w base spare held t0 v0 d0 q0/\DataW.Trod enc P w base spare held t1 v1 d1 q1/\DataW.Trod enc P w base spare held t2 v2 d2 q2/\DataW.Trod enc P w base spare held t3 v3 d3 q3/\DataW.Trod enc P w base spare held t4 v4 d4 q4:=by
 obtain ⟨v0,vs0,d0,ds0,q0,r0,hargs,rfl,rfl,h0,k0⟩:=trodAll_cons h;obtain ⟨v1,vs1,d1,ds1,q1,r1,rfl,rfl,rfl,h1,k1⟩:=trodAll_cons k0;obtain ⟨v2,vs2,d2,ds2,q2,r2,rfl,rfl,rfl,h2,k2⟩:=trodAll_cons k1;obtain ⟨v3,vs3,d3,ds3,q3,r3,rfl,rfl,rfl,h3,k3⟩:=trodAll_cons k2;obtain ⟨v4,vs4,d4,ds4,q4,r4,rfl,rfl,rfl,h4,k4⟩:=trodAll_cons k3;obtain ⟨rfl,rfl,rfl⟩:=trodAll_nil k4;exact ⟨v0,v1,v2,v3,v4,d0,d1,d2,d3,d4,q0,q1,q2,q3,q4,by cases args;simp_all,rfl,by simp,h0,h1,h2,h3,h4⟩
theorem trodAll_mk5 {t0 t1 t2 t3 t4 : TypeId} {v0 v1 v2 v3 v4 : Value} {d0 d1 d2 d3 d4 : DataW H} {q0 q1 q2 q3 q4 : List MemPlace} (h0 : DataW.Trod enc P w base spare held t0 v0 d0 q0) (h1 : DataW.Trod enc P w base spare held t1 v1 d1 q1) (h2 : DataW.Trod enc P w base spare held t2 v2 d2 q2) (h3 : DataW.Trod enc P w base spare held t3 v3 d3 q3) (h4 : DataW.Trod enc P w base spare held t4 v4 d4 q4) :
    DataW.TrodAll enc P w base spare held [t0,t1,t2,t3,t4] [v0,v1,v2,v3,v4] [d0,d1,d2,d3,d4] (q0 ++ (q1 ++ (q2 ++ (q3 ++ q4)))):=⟨q0,_,h0,trodAll_mk4 h1 h2 h3 h4,rfl⟩
end
end
section
open Go.ChangeShapes Go.WideShapes Go.ChangeAt
section
variable {H:Type} {enc:TypeId×Value->H} {w:World} {base:Nat->Bool} {spare:Bool}
theorem trod_num {b0:Nat} {fuel:Nat} {cs:List Value} {y:DataW H×List MemPlace} (hl:cs.length=1) (hf:DataW.trod enc prog w b0 base spare fuel 3 cs=some y):∃ x:Int,cs=cI x:=by
 match cs,hl with
 | [v],_=>
  obtain ⟨a0,h4,rfl,_⟩:=DataW.trod_int underlying3 hf;simp at h4;exact ⟨a0,by unfold cI;rw [h4]⟩
theorem open_rowI {r:Reach} {b0 b1:Nat} {v:Value} {d:DataW H} {p:List MemPlace} (hv:Value.okWide prog w r b1 22 v) (h:DataW.Trod enc prog w b0 base spare 22 v d p):∃ (a:Option Addr) (n cap:Nat) (L:List Int),v=.slice a n cap/\L.length=n/\RowAt cI 1 w a L:=by
 obtain ⟨a0,n0,k0,rfl⟩:=okWide_slice underlying22 hv;obtain ⟨fuel,hf⟩:=h;simp only [Value.cells] at hf;rcases Deep.open_slice underlying22 hf with ⟨hcs,_⟩ | ⟨a,len,cap,m,n,D,Pl,hcs,hb,hl,hm,hmm,hx,hi⟩
 ·simp only [Vb,Value.slice.injEq,Vs] at hcs;obtain ⟨rfl,rfl,rfl⟩:=hcs;exact ⟨none,0,0,[],rfl,rfl,λj x hx=>(by simp at hx)⟩
 ·simp only [Vb,Value.slice.injEq,Vs] at hcs;obtain ⟨rfl,rfl,rfl⟩:=hcs;have hlm:n0<=m:=by rw [hmm];split <;> omega
  have each:∀ i,i < n0->∃ T:Int,∀ j u,(cI T)[j]? = some u->w.cell? ((a.add (i * 1)).add j)=some u:=λi hin=>by
   obtain ⟨cs',h1,h2⟩:=hi i (by omega);rw [show prog.cellsOf 3=1 by kernel_rfl] at h1;obtain ⟨_,hlen,hcell⟩:=World.cells?_some h1;obtain ⟨T,rfl⟩:=trod_num hlen h2;refine ⟨T,λj u hu=>?_⟩;rw [hcell j (by have:=(JR.1 hu).1;rwa [hlen] at this)];exact hu
  obtain ⟨f,hf2⟩:=Deep.choose_lt each;refine ⟨some a,n0,k0,(List.range n0).map f,rfl,by simp,λj x hx=>?_⟩;rw [VJ] at hx;obtain ⟨i,hi1,rfl⟩:=Option.map_eq_some_iff.1 hx;have hj:j < n0/\i=j:=by
   obtain ⟨h1,h2⟩:=JR.1 hi1;simp at h1 h2;exact ⟨h1,h2.symm⟩
  obtain ⟨hj,rfl⟩:=hj;have hc:=hf2 i hj;refine ⟨a,rfl,?_,hc⟩;have h4:=hc 0 _ rfl;unfold World.cell? at h4;rw [zj,zj] at h4;rcases Qb a.block w.heap.size with h' | h'
  ·exact h'
  ·simp [Vj h'] at h4
end
end
section
open Go.ChangeShapes Go.WideShapes Go.ChangeAt
section
variable {H:Type} {enc:TypeId×Value->H} {w:World} {base:Nat->Bool} {spare:Bool}
theorem trod_two {b0:Nat} {fuel:Nat} {cs:List Value} {y:DataW H×List MemPlace} (hl:cs.length=2) (hf:DataW.trod enc prog w b0 base spare fuel 52 cs=some y):∃ x:Pt,cs=cP x:=by
 match cs,hl with
 | [v0,v1],_=>
  obtain ⟨xs,m,rfl,_,_,hx,hi⟩:=DataW.trod_array underlying52 hf;have e1:prog.cellsOf 3=1:=by kernel_rfl
  have h0:=hi 0 (by omega);have h1:=hi 1 (by omega);rw [e1] at h0 h1;simp at h0 h1;rw [JG (by omega)] at h0 h1;obtain ⟨a0,k0,_⟩:=DataW.trod_int underlying3 h0;obtain ⟨a1,k1,_⟩:=DataW.trod_int underlying3 h1;simp at k0 k1;exact ⟨⟨a0,a1⟩,by unfold cP;rw [k0,k1]⟩
theorem open_rowP2 {r:Reach} {b0 b1:Nat} {v:Value} {d:DataW H} {p:List MemPlace} (hv:Value.okWide prog w r b1 23 v) (h:DataW.Trod enc prog w b0 base spare 23 v d p):∃ (a:Option Addr) (n cap:Nat) (L:List Pt),v=.slice a n cap/\L.length=n/\RowAt cP 2 w a L:=by
 obtain ⟨a0,n0,k0,rfl⟩:=okWide_slice underlying23 hv;obtain ⟨fuel,hf⟩:=h;simp only [Value.cells] at hf;rcases Deep.open_slice underlying23 hf with ⟨hcs,_⟩ | ⟨a,len,cap,m,n,D,Pl,hcs,hb,hl,hm,hmm,hx,hi⟩
 ·simp only [Vb,Value.slice.injEq,Vs] at hcs;obtain ⟨rfl,rfl,rfl⟩:=hcs;exact ⟨none,0,0,[],rfl,rfl,λj x hx=>(by simp at hx)⟩
 ·simp only [Vb,Value.slice.injEq,Vs] at hcs;obtain ⟨rfl,rfl,rfl⟩:=hcs;have hlm:n0<=m:=by rw [hmm];split <;> omega
  have each:∀ i,i < n0->∃ T:Pt,∀ j u,(cP T)[j]? = some u->w.cell? ((a.add (i * 2)).add j)=some u:=λi hin=>by
   obtain ⟨cs',h1,h2⟩:=hi i (by omega);rw [show prog.cellsOf 52=2 by kernel_rfl] at h1;obtain ⟨_,hlen,hcell⟩:=World.cells?_some h1;obtain ⟨T,rfl⟩:=trod_two hlen h2;refine ⟨T,λj u hu=>?_⟩;rw [hcell j (by have:=(JR.1 hu).1;rwa [hlen] at this)];exact hu
  obtain ⟨f,hf2⟩:=Deep.choose_lt each;refine ⟨some a,n0,k0,(List.range n0).map f,rfl,by simp,λj x hx=>?_⟩;rw [VJ] at hx;obtain ⟨i,hi1,rfl⟩:=Option.map_eq_some_iff.1 hx;have hj:j < n0/\i=j:=by
   obtain ⟨h1,h2⟩:=JR.1 hi1;simp at h1 h2;exact ⟨h1,h2.symm⟩
  obtain ⟨hj,rfl⟩:=hj;have hc:=hf2 i hj;refine ⟨a,rfl,?_,hc⟩;have h4:=hc 0 _ rfl;unfold World.cell? at h4;rw [zj,zj] at h4;rcases Qb a.block w.heap.size with h' | h'
  ·exact h'
  ·simp [Vj h'] at h4
end
end
attribute [local go_sem 10000] tri_neq
theorem rflip_n0 (mb b:Nat) (E:Es) (p q:Pt) (hk:okW (p,q)) (h0:getE E (p,q)=none) (w:World) (Bm:Box w mb [.map (some b)] 98) (Hm:Hs w b E):Calls prog 85 #[pt0 mb,p,q] w (Rt w (.int .i64 16)):=by
 have cl:=zZ mb b E p q hk;have cr:=zZ mb b E q p ⟨hk.2,hk.1⟩;rw [yW h0] at cl;generalize lftE E q p=Z at cr
 obtain ⟨Y,y⟩:=Z;dsimp only at cr;clear h0
 go_enter func85,ntmps85
 go_wp2_with fail;refine qE2 λW1 Bp Bq hw=>?_;refine qC2 (cl _ (Bm.ee hw) (Hm.ee hw)) Bp Bq hw λw2 Bp Bq hw FJ=>?_;go_wp2_with fail;clear FJ;refine zI λW3 hW=>?_;obtain ⟨bks,hbs⟩:∃ b,w2.heap.size=b:=⟨_,rfl⟩;rw [hbs];obtain ⟨lps,lqs,fs,Bs,Bp,Bq,hw⟩:=qM2 hW hbs Bp Bq hw;clear hW hbs;refine qC3 (cr _ (Bm.ee hw) (Hm.ee hw)) Bp Bq Bs hw λw4 Bp Bq Bs hw Gw=>?_;go_wp2
 go_ret
 exact ⟨rfl,by have hl:=hw.size;go_grown⟩
theorem rflip_n1 (mb b:Nat) (E:Es) (p q:Pt) (hk:okW (p,q)) (S:Tri3) (h0:getE E (p,q)=some S) (h1:getE E (q,p)=none) (w:World) (Bm:Box w mb [.map (some b)] 98) (Hm:Hs w b E):Calls prog 85 #[pt0 mb,p,q] w (Rt w (.int .i64 16)):=by
 have cl:=zZ mb b E p q hk;have cr:=zZ mb b E q p ⟨hk.2,hk.1⟩;rw [zf h0] at cl;rw [yW h1] at cr;clear h0 h1
 go_enter func85,ntmps85
 go_wp2_with fail;refine qE2 λW1 Bp Bq hw=>?_;refine qC2 (cl _ (Bm.ee hw) (Hm.ee hw)) Bp Bq hw λw2 Bp Bq hw FJ=>?_;go_wp2_with fail;clear FJ;refine zI λW3 hW=>?_;obtain ⟨bks,hbs⟩:∃ b,w2.heap.size=b:=⟨_,rfl⟩;rw [hbs];obtain ⟨lps,lqs,fs,Bs,Bp,Bq,hw⟩:=qM2 hW hbs Bp Bq hw;clear hW hbs;refine qC3 (cr _ (Bm.ee hw) (Hm.ee hw)) Bp Bq Bs hw λw4 Bp Bq Bs hw Gw=>?_;go_wp2
 go_ret
 exact ⟨rfl,by have hl:=hw.size;go_grown⟩
theorem rflip_o1 (mb b:Nat) (E:Es) (p q:Pt) (hk:okW (p,q)) (S R:Tri3) (C D:Pt) (h0:getE E (p,q)=some S) (h1:getE E (q,p)=some R) (hC:apx S p q=C) (hD:apx R p q=D) (o1:decide (ori p D C<=0)=true) (w:World) (Bm:Box w mb [.map (some b)] 98) (Hm:Hs w b E):Calls prog 85 #[pt0 mb,p,q] w (Rt w (.int .i64 2)):=by
 have cl:=zZ mb b E p q hk;have cr:=zZ mb b E q p ⟨hk.2,hk.1⟩;rw [zf h0] at cl;rw [zf h1] at cr;clear h0 h1;have ca:=xB S p q;have cb:=xB R p q;have c1:=zH p D C;have c2:=zH D q C;rw [hC] at ca;rw [hD] at cb;clear hC hD
 go_enter func85,ntmps85
 go_wp2_with fail;refine qE2 λW1 Bp Bq hw=>?_;refine qC2 (cl _ (Bm.ee hw) (Hm.ee hw)) Bp Bq hw λw2 Bp Bq hw FJ=>?_;go_wp2_with fail;clear FJ;refine zI λW3 hW=>?_;obtain ⟨bks,hbs⟩:∃ b,w2.heap.size=b:=⟨_,rfl⟩;rw [hbs];obtain ⟨lps,lqs,fs,Bs,Bp,Bq,hw⟩:=qM2 hW hbs Bp Bq hw;clear hW hbs;refine qC3 (cr _ (Bm.ee hw) (Hm.ee hw)) Bp Bq Bs hw λw4 Bp Bq Bs hw Gw=>?_;go_wp2_with fail;clear Gw;refine zG λW5 hW=>?_;obtain ⟨bkr,hbr⟩:∃ b,w4.heap.size=b:=⟨_,rfl⟩;rw [hbr];obtain ⟨lpr,lqr,lsr,fr,Br,Bp,Bq,Bs,hw⟩:=qM3 hW hbr Bp Bq Bs hw;clear hW hbr;have G0:=J4 Bp.cells Bq.cells Bs.cells Br.cells;refine zn 10 [⟨8,11,34,[(),()]⟩,⟨9,12,34,[(),()]⟩] ?_ (by kernel_rfl) (by decide) (by decide) (by kernel_rfl) (by decide) (C:=λw'=>∃ p:Regrown,w'=grow (redrawn W5 p.d) p.os) rgB ?_
 ·simp only [QT];refine ⟨⟨_,rfl,rfl,rfl,rfl,λρ W=>by simp [execOp,go_sem]⟩,⟨_,rfl,rfl,rfl,rfl,λρ W=>by simp [execOp,go_sem]⟩,λ_ h=>(by cases h)⟩
 simp only [Q5,Qd,Jm,Qw,dropIdx,Qe,Qj,Nat.reduceBEq,Nat.reduceAdd,V6,VF,VG,QA,VZ,VT];refine wkx ?_;intro w6 β hL;simp only [putD,QY,QZ];have qc:=hL.box ⟨8,11,34,[(),()]⟩ (by simp) (by simp);simp only at qc;have qd:=hL.box ⟨9,12,34,[(),()]⟩ (by simp) (by simp);simp only at qd;have ncd:=hL.apart 11 (by simp) 12 (by simp) (by decide);have ndc:=hL.apart 12 (by simp) 11 (by simp) (by decide);have hb:=hL.below;have lp:=Bp.lt;have lq:=Bq.lt;have ls:=Bs.lt;have lr:=Br.lt;clear G0;replace Bp:=Bp.ee hb;replace Bq:=Bq.ee hb;replace Bs:=Bs.ee hb;replace Br:=Br.ee hb;have hw0:=hw.size;replace hw:=upB hw hb;clear hb hL;generalize β 11=bkc at *
 generalize β 12=bkd at *
 clear β;obtain ⟨fc,Bc⟩:=qc;obtain ⟨fd,Bd⟩:=qd;simp only [Act.put];have Fc:=Bc.f;have Fd:=Bd.f;have Fp:=Bp.f;have Fq:=Bq.f;have Fs:=Bs.f;have Fr:=Br.f;have epbkc:(w.heap.size=bkc)=False:=by simp;omega
 have epbkc':(bkc=w.heap.size)=False:=by simp;omega
 have epbkd:(w.heap.size=bkd)=False:=by simp;omega
 have epbkd':(bkd=w.heap.size)=False:=by simp;omega
 have eqbkc:(w.heap.size+1=bkc)=False:=by simp;omega
 have eqbkc':(bkc=w.heap.size+1)=False:=by simp;omega
 have eqbkd:(w.heap.size+1=bkd)=False:=by simp;omega
 have eqbkd':(bkd=w.heap.size+1)=False:=by simp;omega
 have esbkc:(bks=bkc)=False:=by simp;omega
 have esbkc':(bkc=bks)=False:=by simp;omega
 have esbkd:(bks=bkd)=False:=by simp;omega
 have esbkd':(bkd=bks)=False:=by simp;omega
 have erbkc:(bkr=bkc)=False:=by simp;omega
 have erbkc':(bkc=bkr)=False:=by simp;omega
 have erbkd:(bkr=bkd)=False:=by simp;omega
 have erbkd':(bkd=bkr)=False:=by simp;omega
 have ebkcbkd:(bkc=bkd)=False:=by simp;omega
 have ebkdbkc:(bkd=bkc)=False:=by simp;omega
 go_wp2_with fail;refine zI λW7 hW=>?_;replace Bp:=sto Bp hW;replace Bq:=sto Bq hW;replace Bs:=sto Bs hW;replace Br:=sto Br hW;replace Bc:=sto Bc hW;replace Bd:=sto Bd hW;replace hw:=stw hw hW;clear Fc Fd;clear Fp Fq Fs Fr epbkc epbkc' epbkd epbkd' eqbkc eqbkc' eqbkd eqbkd' esbkc esbkc' esbkd esbkd' erbkc erbkc' erbkd erbkd' ebkcbkd ebkdbkc;clear hW;refine qK6 (c1 _) Bp Bq Bs Br Bc Bd hw λw8 Bp Bq Bs Br Bc Bd hw=>?_;have Fp:=Bp.f;have Fq:=Bq.f;have Fs:=Bs.f;have Fr:=Br.f;have Fc:=Bc.f;have Fd:=Bd.f;go_wp2
 go_ret
 exact ⟨rfl,by have hl:=hw.size;go_grown⟩
theorem rflip_o2 (mb b:Nat) (E:Es) (p q:Pt) (hk:okW (p,q)) (S R:Tri3) (C D:Pt) (h0:getE E (p,q)=some S) (h1:getE E (q,p)=some R) (hC:apx S p q=C) (hD:apx R p q=D) (o1:decide (ori p D C<=0)=false) (o2:decide (ori D q C<=0)=true) (w:World) (Bm:Box w mb [.map (some b)] 98) (Hm:Hs w b E):Calls prog 85 #[pt0 mb,p,q] w (Rt w (.int .i64 2)):=by
 have cl:=zZ mb b E p q hk;have cr:=zZ mb b E q p ⟨hk.2,hk.1⟩;rw [zf h0] at cl;rw [zf h1] at cr;clear h0 h1;have ca:=xB S p q;have cb:=xB R p q;have c1:=zH p D C;have c2:=zH D q C;rw [hC] at ca;rw [hD] at cb;clear hC hD
 go_enter func85,ntmps85
 go_wp2_with fail;refine qE2 λW1 Bp Bq hw=>?_;refine qC2 (cl _ (Bm.ee hw) (Hm.ee hw)) Bp Bq hw λw2 Bp Bq hw FJ=>?_;go_wp2_with fail;clear FJ;refine zI λW3 hW=>?_;obtain ⟨bks,hbs⟩:∃ b,w2.heap.size=b:=⟨_,rfl⟩;rw [hbs];obtain ⟨lps,lqs,fs,Bs,Bp,Bq,hw⟩:=qM2 hW hbs Bp Bq hw;clear hW hbs;refine qC3 (cr _ (Bm.ee hw) (Hm.ee hw)) Bp Bq Bs hw λw4 Bp Bq Bs hw Gw=>?_;go_wp2_with fail;clear Gw;refine zG λW5 hW=>?_;obtain ⟨bkr,hbr⟩:∃ b,w4.heap.size=b:=⟨_,rfl⟩;rw [hbr];obtain ⟨lpr,lqr,lsr,fr,Br,Bp,Bq,Bs,hw⟩:=qM3 hW hbr Bp Bq Bs hw;clear hW hbr;have G0:=J4 Bp.cells Bq.cells Bs.cells Br.cells;refine zn 10 [⟨8,11,34,[(),()]⟩,⟨9,12,34,[(),()]⟩] ?_ (by kernel_rfl) (by decide) (by decide) (by kernel_rfl) (by decide) (C:=λw'=>∃ p:Regrown,w'=grow (redrawn W5 p.d) p.os) rgB ?_
 ·simp only [QT];refine ⟨⟨_,rfl,rfl,rfl,rfl,λρ W=>by simp [execOp,go_sem]⟩,⟨_,rfl,rfl,rfl,rfl,λρ W=>by simp [execOp,go_sem]⟩,λ_ h=>(by cases h)⟩
 simp only [Q5,Qd,Jm,Qw,dropIdx,Qe,Qj,Nat.reduceBEq,Nat.reduceAdd,V6,VF,VG,QA,VZ,VT];refine wkx ?_;intro w6 β hL;simp only [putD,QY,QZ];have qc:=hL.box ⟨8,11,34,[(),()]⟩ (by simp) (by simp);simp only at qc;have qd:=hL.box ⟨9,12,34,[(),()]⟩ (by simp) (by simp);simp only at qd;have ncd:=hL.apart 11 (by simp) 12 (by simp) (by decide);have ndc:=hL.apart 12 (by simp) 11 (by simp) (by decide);have hb:=hL.below;have lp:=Bp.lt;have lq:=Bq.lt;have ls:=Bs.lt;have lr:=Br.lt;clear G0;replace Bp:=Bp.ee hb;replace Bq:=Bq.ee hb;replace Bs:=Bs.ee hb;replace Br:=Br.ee hb;have hw0:=hw.size;replace hw:=upB hw hb;clear hb hL;generalize β 11=bkc at *
 generalize β 12=bkd at *
 clear β;obtain ⟨fc,Bc⟩:=qc;obtain ⟨fd,Bd⟩:=qd;simp only [Act.put];have Fc:=Bc.f;have Fd:=Bd.f;have Fp:=Bp.f;have Fq:=Bq.f;have Fs:=Bs.f;have Fr:=Br.f;have epbkc:(w.heap.size=bkc)=False:=by simp;omega
 have epbkc':(bkc=w.heap.size)=False:=by simp;omega
 have epbkd:(w.heap.size=bkd)=False:=by simp;omega
 have epbkd':(bkd=w.heap.size)=False:=by simp;omega
 have eqbkc:(w.heap.size+1=bkc)=False:=by simp;omega
 have eqbkc':(bkc=w.heap.size+1)=False:=by simp;omega
 have eqbkd:(w.heap.size+1=bkd)=False:=by simp;omega
 have eqbkd':(bkd=w.heap.size+1)=False:=by simp;omega
 have esbkc:(bks=bkc)=False:=by simp;omega
 have esbkc':(bkc=bks)=False:=by simp;omega
 have esbkd:(bks=bkd)=False:=by simp;omega
 have esbkd':(bkd=bks)=False:=by simp;omega
 have erbkc:(bkr=bkc)=False:=by simp;omega
 have erbkc':(bkc=bkr)=False:=by simp;omega
 have erbkd:(bkr=bkd)=False:=by simp;omega
 have erbkd':(bkd=bkr)=False:=by simp;omega
 have ebkcbkd:(bkc=bkd)=False:=by simp;omega
 have ebkdbkc:(bkd=bkc)=False:=by simp;omega
 go_wp2_with fail;refine zI λW7 hW=>?_;replace Bp:=sto Bp hW;replace Bq:=sto Bq hW;replace Bs:=sto Bs hW;replace Br:=sto Br hW;replace Bc:=sto Bc hW;replace Bd:=sto Bd hW;replace hw:=stw hw hW;clear Fc Fd;clear Fp Fq Fs Fr epbkc epbkc' epbkd epbkd' eqbkc eqbkc' eqbkd eqbkd' esbkc esbkc' esbkd esbkd' erbkc erbkc' erbkd erbkd' ebkcbkd ebkdbkc;clear hW;refine qC6 (c1 _) Bp Bq Bs Br Bc Bd hw λw8 Bp Bq Bs Br Bc Bd hw Gk=>?_;go_wp2_with fail;clear Gk;refine qK6 (c2 _) Bp Bq Bs Br Bc Bd hw λw9 Bp Bq Bs Br Bc Bd hw=>?_;have Fp:=Bp.f;have Fq:=Bq.f;have Fs:=Bs.f;have Fr:=Br.f;have Fc:=Bc.f;have Fd:=Bd.f;go_wp2
 go_ret
 exact ⟨rfl,by have hl:=hw.size;go_grown⟩
theorem rflip_c1 (mb b:Nat) (E:Es) (p q:Pt) (hk:okW (p,q)) (S R:Tri3) (C D:Pt) (h0:getE E (p,q)=some S) (h1:getE E (q,p)=some R) (hC:apx S p q=C) (hD:apx R p q=D) (o1:decide (ori p D C<=0)=false) (o2:decide (ori D q C<=0)=false) (hc:okW (C,D)) (O:Tri3) (he:getE E (D,C)=some O) (n1:teq O S=false) (n2:teq O R=false) (w:World) (Bm:Box w mb [.map (some b)] 98) (Hm:Hs w b E):Calls prog 85 #[pt0 mb,p,q] w (Rt w (.int .i64 2)):=by
 have cl:=zZ mb b E p q hk;have cr:=zZ mb b E q p ⟨hk.2,hk.1⟩;rw [zf h0] at cl;rw [zf h1] at cr;clear h0 h1;have ca:=xB S p q;have cb:=xB R p q;have c1:=zH p D C;have c2:=zH D q C;rw [hC] at ca;rw [hD] at cb;have cu:=yT p D C;have cv:=yT D q C;generalize mk p D C=U at *
 generalize mk D q C=V at *
 have ce:=zZ mb b E D C ⟨hc.2,hc.1⟩;have cf:=zZ mb b E C D hc;rw [zf he] at ce;generalize lftE E C D=Z at cf
 obtain ⟨Y,y⟩:=Z;dsimp only at cf;clear hC hD hc he
 go_enter func85,ntmps85
 go_wp2_with fail;refine qE2 λW1 Bp Bq hw=>?_;refine qC2 (cl _ (Bm.ee hw) (Hm.ee hw)) Bp Bq hw λw2 Bp Bq hw FJ=>?_;go_wp2_with fail;clear FJ;refine zI λW3 hW=>?_;obtain ⟨bks,hbs⟩:∃ b,w2.heap.size=b:=⟨_,rfl⟩;rw [hbs];obtain ⟨lps,lqs,fs,Bs,Bp,Bq,hw⟩:=qM2 hW hbs Bp Bq hw;clear hW hbs;refine qC3 (cr _ (Bm.ee hw) (Hm.ee hw)) Bp Bq Bs hw λw4 Bp Bq Bs hw Gw=>?_;go_wp2_with fail;clear Gw;refine zG λW5 hW=>?_;obtain ⟨bkr,hbr⟩:∃ b,w4.heap.size=b:=⟨_,rfl⟩;rw [hbr];obtain ⟨lpr,lqr,lsr,fr,Br,Bp,Bq,Bs,hw⟩:=qM3 hW hbr Bp Bq Bs hw;clear hW hbr;have G0:=J4 Bp.cells Bq.cells Bs.cells Br.cells;refine zn 10 [⟨8,11,34,[(),()]⟩,⟨9,12,34,[(),()]⟩] ?_ (by kernel_rfl) (by decide) (by decide) (by kernel_rfl) (by decide) (C:=λw'=>∃ p:Regrown,w'=grow (redrawn W5 p.d) p.os) rgB ?_
 ·simp only [QT];refine ⟨⟨_,rfl,rfl,rfl,rfl,λρ W=>by simp [execOp,go_sem]⟩,⟨_,rfl,rfl,rfl,rfl,λρ W=>by simp [execOp,go_sem]⟩,λ_ h=>(by cases h)⟩
 simp only [Q5,Qd,Jm,Qw,dropIdx,Qe,Qj,Nat.reduceBEq,Nat.reduceAdd,V6,VF,VG,QA,VZ,VT];refine wkx ?_;intro w6 β hL;simp only [putD,QY,QZ];have qc:=hL.box ⟨8,11,34,[(),()]⟩ (by simp) (by simp);simp only at qc;have qd:=hL.box ⟨9,12,34,[(),()]⟩ (by simp) (by simp);simp only at qd;have ncd:=hL.apart 11 (by simp) 12 (by simp) (by decide);have ndc:=hL.apart 12 (by simp) 11 (by simp) (by decide);have hb:=hL.below;have lp:=Bp.lt;have lq:=Bq.lt;have ls:=Bs.lt;have lr:=Br.lt;clear G0;replace Bp:=Bp.ee hb;replace Bq:=Bq.ee hb;replace Bs:=Bs.ee hb;replace Br:=Br.ee hb;have hw0:=hw.size;replace hw:=upB hw hb;clear hb hL;generalize β 11=bkc at *
 generalize β 12=bkd at *
 clear β;obtain ⟨fc,Bc⟩:=qc;obtain ⟨fd,Bd⟩:=qd;simp only [Act.put];have Fc:=Bc.f;have Fd:=Bd.f;have Fp:=Bp.f;have Fq:=Bq.f;have Fs:=Bs.f;have Fr:=Br.f;have epbkc:(w.heap.size=bkc)=False:=by simp;omega
 have epbkc':(bkc=w.heap.size)=False:=by simp;omega
 have epbkd:(w.heap.size=bkd)=False:=by simp;omega
 have epbkd':(bkd=w.heap.size)=False:=by simp;omega
 have eqbkc:(w.heap.size+1=bkc)=False:=by simp;omega
 have eqbkc':(bkc=w.heap.size+1)=False:=by simp;omega
 have eqbkd:(w.heap.size+1=bkd)=False:=by simp;omega
 have eqbkd':(bkd=w.heap.size+1)=False:=by simp;omega
 have esbkc:(bks=bkc)=False:=by simp;omega
 have esbkc':(bkc=bks)=False:=by simp;omega
 have esbkd:(bks=bkd)=False:=by simp;omega
 have esbkd':(bkd=bks)=False:=by simp;omega
 have erbkc:(bkr=bkc)=False:=by simp;omega
 have erbkc':(bkc=bkr)=False:=by simp;omega
 have erbkd:(bkr=bkd)=False:=by simp;omega
 have erbkd':(bkd=bkr)=False:=by simp;omega
 have ebkcbkd:(bkc=bkd)=False:=by simp;omega
 have ebkdbkc:(bkd=bkc)=False:=by simp;omega
 go_wp2_with fail;refine zI λW7 hW=>?_;replace Bp:=sto Bp hW;replace Bq:=sto Bq hW;replace Bs:=sto Bs hW;replace Br:=sto Br hW;replace Bc:=sto Bc hW;replace Bd:=sto Bd hW;replace hw:=stw hw hW;clear Fc Fd;clear Fp Fq Fs Fr epbkc epbkc' epbkd epbkd' eqbkc eqbkc' eqbkd eqbkd' esbkc esbkc' esbkd esbkd' erbkc erbkc' erbkd erbkd' ebkcbkd ebkdbkc;clear hW;refine qC6 (c1 _) Bp Bq Bs Br Bc Bd hw λw8 Bp Bq Bs Br Bc Bd hw Gk=>?_;go_wp2_with fail;clear Gk;refine qC6 (c2 _) Bp Bq Bs Br Bc Bd hw λw9 Bp Bq Bs Br Bc Bd hw Gk=>?_;go_wp2_with fail;clear Gk;refine qC6 (cu _) Bp Bq Bs Br Bc Bd hw λw10 Bp Bq Bs Br Bc Bd hw Gk=>?_;go_wp2_with fail;clear Gk;refine zI λW11 hW=>?_;obtain ⟨bku,hbu⟩:∃ b,w10.heap.size=b:=⟨_,rfl⟩;rw [hbu];have lpu:=Bp.lt;rw [hbu] at lpu;have lqu:=Bq.lt;rw [hbu] at lqu;have lsu:=Bs.lt;rw [hbu] at lsu;have lru:=Br.lt;rw [hbu] at lru;have lcu:=Bc.lt;rw [hbu] at lcu;have ldu:=Bd.lt;rw [hbu] at ldu;have fu:=hw.size;rw [hbu] at fu;have Bu:Box W11 bku [U.A.x,U.A.y,U.B.x,U.B.y,U.C.x,U.C.y] 45:=by rw [hW];exact Box.new hbu.symm
 replace Bp:Box W11 w [p.x,p.y] 34:=by rw [hW];exact Bp.old _
 replace Bq:Box W11 (w+1) [q.x,q.y] 34:=by rw [hW];exact Bq.old _
 replace Bs:Box W11 (bks) [S.A.x,S.A.y,S.B.x,S.B.y,S.C.x,S.C.y] 45:=by rw [hW];exact Bs.old _
 replace Br:Box W11 (bkr) [R.A.x,R.A.y,R.B.x,R.B.y,R.C.x,R.C.y] 45:=by rw [hW];exact Br.old _
 replace Bc:Box W11 (bkc) [C.x,C.y] 34:=by rw [hW];exact Bc.old _
 replace Bd:Box W11 (bkd) [D.x,D.y] 34:=by rw [hW];exact Bd.old _
 replace hw:Below w w W11:=by have hl:=hw.size;rw [hW];go_grown
 clear hW hbu;refine (cv _).mono ?_;rintro e w12 ⟨rfl,hb⟩;replace Bp:=Bp.ee hb;obtain ⟨Bq,Bs,Br,Bc,Bd,Bu,hw,-⟩:=qX6 Bq Bs Br Bc Bd Bu hw hb;clear hb;have Hq:=J7 Bp.f Bq.f Bs.f Br.f Bc.f Bd.f Bu.f;go_wp2_with fail;clear Hq;refine zI λW13 hW=>?_;obtain ⟨bkv,hbv⟩:∃ b,w12.heap.size=b:=⟨_,rfl⟩;rw [hbv];have lpv:=Bp.lt;rw [hbv] at lpv;have lqv:=Bq.lt;rw [hbv] at lqv;have lsv:=Bs.lt;rw [hbv] at lsv;have lrv:=Br.lt;rw [hbv] at lrv;have lcv:=Bc.lt;rw [hbv] at lcv;have ldv:=Bd.lt;rw [hbv] at ldv;have luv:=Bu.lt;rw [hbv] at luv;have fv:=hw.size;rw [hbv] at fv;have Bv:Box W13 bkv [V.A.x,V.A.y,V.B.x,V.B.y,V.C.x,V.C.y] 45:=by rw [hW];exact Box.new hbv.symm
 replace Bp:Box W13 w [p.x,p.y] 34:=by rw [hW];exact Bp.old _
 replace Bq:Box W13 (w+1) [q.x,q.y] 34:=by rw [hW];exact Bq.old _
 replace Bs:Box W13 (bks) [S.A.x,S.A.y,S.B.x,S.B.y,S.C.x,S.C.y] 45:=by rw [hW];exact Bs.old _
 replace Br:Box W13 (bkr) [R.A.x,R.A.y,R.B.x,R.B.y,R.C.x,R.C.y] 45:=by rw [hW];exact Br.old _
 replace Bc:Box W13 (bkc) [C.x,C.y] 34:=by rw [hW];exact Bc.old _
 replace Bd:Box W13 (bkd) [D.x,D.y] 34:=by rw [hW];exact Bd.old _
 replace Bu:Box W13 (bku) [U.A.x,U.A.y,U.B.x,U.B.y,U.C.x,U.C.y] 45:=by rw [hW];exact Bu.old _
 replace hw:Below w w W13:=by have hl:=hw.size;rw [hW];go_grown
 clear hW hbv;refine (ce _ (Bm.ee hw) (Hm.ee hw)).mono ?_;rintro e w14 ⟨rfl,hb⟩;replace Bp:=Bp.ee hb;replace Bq:=Bq.ee hb;obtain ⟨Bs,Br,Bc,Bd,Bu,Bv,hw,-⟩:=qX6 Bs Br Bc Bd Bu Bv hw hb;clear hb;have Hk:=J8 Bp.f Bq.f Bs.f Br.f Bc.f Bd.f Bu.f Bv.f;go_wp2_with fail;clear Hk;refine zI λW15 hW=>?_;obtain ⟨bko,hbo⟩:∃ b,w14.heap.size=b:=⟨_,rfl⟩;rw [hbo];have lpo:=Bp.lt;rw [hbo] at lpo;have lqo:=Bq.lt;rw [hbo] at lqo;have lso:=Bs.lt;rw [hbo] at lso;have lro:=Br.lt;rw [hbo] at lro;have lco:=Bc.lt;rw [hbo] at lco;have ldo:=Bd.lt;rw [hbo] at ldo;have luo:=Bu.lt;rw [hbo] at luo;have lvo:=Bv.lt;rw [hbo] at lvo;have fo:=hw.size;rw [hbo] at fo;have Bo:Box W15 bko [O.A.x,O.A.y,O.B.x,O.B.y,O.C.x,O.C.y] 45:=by rw [hW];exact Box.new hbo.symm
 replace Bp:Box W15 w [p.x,p.y] 34:=by rw [hW];exact Bp.old _
 replace Bq:Box W15 (w+1) [q.x,q.y] 34:=by rw [hW];exact Bq.old _
 replace Bs:Box W15 (bks) [S.A.x,S.A.y,S.B.x,S.B.y,S.C.x,S.C.y] 45:=by rw [hW];exact Bs.old _
 replace Br:Box W15 (bkr) [R.A.x,R.A.y,R.B.x,R.B.y,R.C.x,R.C.y] 45:=by rw [hW];exact Br.old _
 replace Bc:Box W15 (bkc) [C.x,C.y] 34:=by rw [hW];exact Bc.old _
 replace Bd:Box W15 (bkd) [D.x,D.y] 34:=by rw [hW];exact Bd.old _
 replace Bu:Box W15 (bku) [U.A.x,U.A.y,U.B.x,U.B.y,U.C.x,U.C.y] 45:=by rw [hW];exact Bu.old _
 replace Bv:Box W15 (bkv) [V.A.x,V.A.y,V.B.x,V.B.y,V.C.x,V.C.y] 45:=by rw [hW];exact Bv.old _
 replace hw:Below w w W15:=by have hl:=hw.size;rw [hW];go_grown
 clear hW hbo;refine (cf _ (Bm.ee hw) (Hm.ee hw)).mono ?_;rintro e w16 ⟨rfl,hb⟩;replace Bp:=Bp.ee hb;replace Bq:=Bq.ee hb;replace Bs:=Bs.ee hb;obtain ⟨Br,Bc,Bd,Bu,Bv,Bo,hw,-⟩:=qX6 Br Bc Bd Bu Bv Bo hw hb;clear hb;have Fp:=Bp.f;have Fq:=Bq.f;have Fs:=Bs.f;have Fr:=Br.f;have Fc:=Bc.f;have Fd:=Bd.f;have Fu:=Bu.f;have Fv:=Bv.f;have Fo:=Bo.f;go_wp2
 go_ret
 exact ⟨rfl,by have hl:=hw.size;go_grown⟩
theorem rflip_c2 (mb b:Nat) (E:Es) (p q:Pt) (hk:okW (p,q)) (S R:Tri3) (C D:Pt) (h0:getE E (p,q)=some S) (h1:getE E (q,p)=some R) (hC:apx S p q=C) (hD:apx R p q=D) (o1:decide (ori p D C<=0)=false) (o2:decide (ori D q C<=0)=false) (hc:okW (C,D)) (O:Tri3) (he:getE E (D,C)=none) (hf:getE E (C,D)=some O) (n1:teq O S=false) (n2:teq O R=false) (w:World) (Bm:Box w mb [.map (some b)] 98) (Hm:Hs w b E):Calls prog 85 #[pt0 mb,p,q] w (Rt w (.int .i64 2)):=by
 have cl:=zZ mb b E p q hk;have cr:=zZ mb b E q p ⟨hk.2,hk.1⟩;rw [zf h0] at cl;rw [zf h1] at cr;clear h0 h1;have ca:=xB S p q;have cb:=xB R p q;have c1:=zH p D C;have c2:=zH D q C;rw [hC] at ca;rw [hD] at cb;have cu:=yT p D C;have cv:=yT D q C;generalize mk p D C=U at *
 generalize mk D q C=V at *
 have ce:=zZ mb b E D C ⟨hc.2,hc.1⟩;have cf:=zZ mb b E C D hc;rw [yW he] at ce;rw [zf hf] at cf;clear hC hD hc he hf
 go_enter func85,ntmps85
 go_wp2_with fail;refine qE2 λW1 Bp Bq hw=>?_;refine qC2 (cl _ (Bm.ee hw) (Hm.ee hw)) Bp Bq hw λw2 Bp Bq hw FJ=>?_;go_wp2_with fail;clear FJ;refine zI λW3 hW=>?_;obtain ⟨bks,hbs⟩:∃ b,w2.heap.size=b:=⟨_,rfl⟩;rw [hbs];obtain ⟨lps,lqs,fs,Bs,Bp,Bq,hw⟩:=qM2 hW hbs Bp Bq hw;clear hW hbs;refine qC3 (cr _ (Bm.ee hw) (Hm.ee hw)) Bp Bq Bs hw λw4 Bp Bq Bs hw Gw=>?_;go_wp2_with fail;clear Gw;refine zG λW5 hW=>?_;obtain ⟨bkr,hbr⟩:∃ b,w4.heap.size=b:=⟨_,rfl⟩;rw [hbr];obtain ⟨lpr,lqr,lsr,fr,Br,Bp,Bq,Bs,hw⟩:=qM3 hW hbr Bp Bq Bs hw;clear hW hbr;have G0:=J4 Bp.cells Bq.cells Bs.cells Br.cells;refine zn 10 [⟨8,11,34,[(),()]⟩,⟨9,12,34,[(),()]⟩] ?_ (by kernel_rfl) (by decide) (by decide) (by kernel_rfl) (by decide) (C:=λw'=>∃ p:Regrown,w'=grow (redrawn W5 p.d) p.os) rgB ?_
 ·simp only [QT];refine ⟨⟨_,rfl,rfl,rfl,rfl,λρ W=>by simp [execOp,go_sem]⟩,⟨_,rfl,rfl,rfl,rfl,λρ W=>by simp [execOp,go_sem]⟩,λ_ h=>(by cases h)⟩
 simp only [Q5,Qd,Jm,Qw,dropIdx,Qe,Qj,Nat.reduceBEq,Nat.reduceAdd,V6,VF,VG,QA,VZ,VT];refine wkx ?_;intro w6 β hL;simp only [putD,QY,QZ];have qc:=hL.box ⟨8,11,34,[(),()]⟩ (by simp) (by simp);simp only at qc;have qd:=hL.box ⟨9,12,34,[(),()]⟩ (by simp) (by simp);simp only at qd;have ncd:=hL.apart 11 (by simp) 12 (by simp) (by decide);have ndc:=hL.apart 12 (by simp) 11 (by simp) (by decide);have hb:=hL.below;have lp:=Bp.lt;have lq:=Bq.lt;have ls:=Bs.lt;have lr:=Br.lt;clear G0;replace Bp:=Bp.ee hb;replace Bq:=Bq.ee hb;replace Bs:=Bs.ee hb;replace Br:=Br.ee hb;have hw0:=hw.size;replace hw:=upB hw hb;clear hb hL;generalize β 11=bkc at *
 generalize β 12=bkd at *
 clear β;obtain ⟨fc,Bc⟩:=qc;obtain ⟨fd,Bd⟩:=qd;simp only [Act.put];have Fc:=Bc.f;have Fd:=Bd.f;have Fp:=Bp.f;have Fq:=Bq.f;have Fs:=Bs.f;have Fr:=Br.f;have epbkc:(w.heap.size=bkc)=False:=by simp;omega
 have epbkc':(bkc=w.heap.size)=False:=by simp;omega
 have epbkd:(w.heap.size=bkd)=False:=by simp;omega
 have epbkd':(bkd=w.heap.size)=False:=by simp;omega
 have eqbkc:(w.heap.size+1=bkc)=False:=by simp;omega
 have eqbkc':(bkc=w.heap.size+1)=False:=by simp;omega
 have eqbkd:(w.heap.size+1=bkd)=False:=by simp;omega
 have eqbkd':(bkd=w.heap.size+1)=False:=by simp;omega
 have esbkc:(bks=bkc)=False:=by simp;omega
 have esbkc':(bkc=bks)=False:=by simp;omega
 have esbkd:(bks=bkd)=False:=by simp;omega
 have esbkd':(bkd=bks)=False:=by simp;omega
 have erbkc:(bkr=bkc)=False:=by simp;omega
 have erbkc':(bkc=bkr)=False:=by simp;omega
 have erbkd:(bkr=bkd)=False:=by simp;omega
 have erbkd':(bkd=bkr)=False:=by simp;omega
 have ebkcbkd:(bkc=bkd)=False:=by simp;omega
 have ebkdbkc:(bkd=bkc)=False:=by simp;omega
 go_wp2_with fail;refine zI λW7 hW=>?_;replace Bp:=sto Bp hW;replace Bq:=sto Bq hW;replace Bs:=sto Bs hW;replace Br:=sto Br hW;replace Bc:=sto Bc hW;replace Bd:=sto Bd hW;replace hw:=stw hw hW;clear Fc Fd;clear Fp Fq Fs Fr epbkc epbkc' epbkd epbkd' eqbkc eqbkc' eqbkd eqbkd' esbkc esbkc' esbkd esbkd' erbkc erbkc' erbkd erbkd' ebkcbkd ebkdbkc;clear hW;refine qC6 (c1 _) Bp Bq Bs Br Bc Bd hw λw8 Bp Bq Bs Br Bc Bd hw Gk=>?_;go_wp2_with fail;clear Gk;refine qC6 (c2 _) Bp Bq Bs Br Bc Bd hw λw9 Bp Bq Bs Br Bc Bd hw Gk=>?_;go_wp2_with fail;clear Gk;refine qC6 (cu _) Bp Bq Bs Br Bc Bd hw λw10 Bp Bq Bs Br Bc Bd hw Gk=>?_;go_wp2_with fail;clear Gk;refine zI λW11 hW=>?_;obtain ⟨bku,hbu⟩:∃ b,w10.heap.size=b:=⟨_,rfl⟩;rw [hbu];have lpu:=Bp.lt;rw [hbu] at lpu;have lqu:=Bq.lt;rw [hbu] at lqu;have lsu:=Bs.lt;rw [hbu] at lsu;have lru:=Br.lt;rw [hbu] at lru;have lcu:=Bc.lt;rw [hbu] at lcu;have ldu:=Bd.lt;rw [hbu] at ldu;have fu:=hw.size;rw [hbu] at fu;have Bu:Box W11 bku [U.A.x,U.A.y,U.B.x,U.B.y,U.C.x,U.C.y] 45:=by rw [hW];exact Box.new hbu.symm
 replace Bp:Box W11 w [p.x,p.y] 34:=by rw [hW];exact Bp.old _
 replace Bq:Box W11 (w+1) [q.x,q.y] 34:=by rw [hW];exact Bq.old _
 replace Bs:Box W11 (bks) [S.A.x,S.A.y,S.B.x,S.B.y,S.C.x,S.C.y] 45:=by rw [hW];exact Bs.old _
 replace Br:Box W11 (bkr) [R.A.x,R.A.y,R.B.x,R.B.y,R.C.x,R.C.y] 45:=by rw [hW];exact Br.old _
 replace Bc:Box W11 (bkc) [C.x,C.y] 34:=by rw [hW];exact Bc.old _
 replace Bd:Box W11 (bkd) [D.x,D.y] 34:=by rw [hW];exact Bd.old _
 replace hw:Below w w W11:=by have hl:=hw.size;rw [hW];go_grown
 clear hW hbu;refine (cv _).mono ?_;rintro e w12 ⟨rfl,hb⟩;replace Bp:=Bp.ee hb;obtain ⟨Bq,Bs,Br,Bc,Bd,Bu,hw,-⟩:=qX6 Bq Bs Br Bc Bd Bu hw hb;clear hb;have Hq:=J7 Bp.f Bq.f Bs.f Br.f Bc.f Bd.f Bu.f;go_wp2_with fail;clear Hq;refine zI λW13 hW=>?_;obtain ⟨bkv,hbv⟩:∃ b,w12.heap.size=b:=⟨_,rfl⟩;rw [hbv];have lpv:=Bp.lt;rw [hbv] at lpv;have lqv:=Bq.lt;rw [hbv] at lqv;have lsv:=Bs.lt;rw [hbv] at lsv;have lrv:=Br.lt;rw [hbv] at lrv;have lcv:=Bc.lt;rw [hbv] at lcv;have ldv:=Bd.lt;rw [hbv] at ldv;have luv:=Bu.lt;rw [hbv] at luv;have fv:=hw.size;rw [hbv] at fv;have Bv:Box W13 bkv [V.A.x,V.A.y,V.B.x,V.B.y,V.C.x,V.C.y] 45:=by rw [hW];exact Box.new hbv.symm
 replace Bp:Box W13 w [p.x,p.y] 34:=by rw [hW];exact Bp.old _
 replace Bq:Box W13 (w+1) [q.x,q.y] 34:=by rw [hW];exact Bq.old _
 replace Bs:Box W13 (bks) [S.A.x,S.A.y,S.B.x,S.B.y,S.C.x,S.C.y] 45:=by rw [hW];exact Bs.old _
 replace Br:Box W13 (bkr) [R.A.x,R.A.y,R.B.x,R.B.y,R.C.x,R.C.y] 45:=by rw [hW];exact Br.old _
 replace Bc:Box W13 (bkc) [C.x,C.y] 34:=by rw [hW];exact Bc.old _
 replace Bd:Box W13 (bkd) [D.x,D.y] 34:=by rw [hW];exact Bd.old _
 replace Bu:Box W13 (bku) [U.A.x,U.A.y,U.B.x,U.B.y,U.C.x,U.C.y] 45:=by rw [hW];exact Bu.old _
 replace hw:Below w w W13:=by have hl:=hw.size;rw [hW];go_grown
 clear hW hbv;refine (ce _ (Bm.ee hw) (Hm.ee hw)).mono ?_;rintro e w14 ⟨rfl,hb⟩;replace Bp:=Bp.ee hb;replace Bq:=Bq.ee hb;obtain ⟨Bs,Br,Bc,Bd,Bu,Bv,hw,-⟩:=qX6 Bs Br Bc Bd Bu Bv hw hb;clear hb;have Hk:=J8 Bp.f Bq.f Bs.f Br.f Bc.f Bd.f Bu.f Bv.f;go_wp2_with fail;clear Hk;refine zI λW15 hW=>?_;obtain ⟨bko,hbo⟩:∃ b,w14.heap.size=b:=⟨_,rfl⟩;rw [hbo];have lpo:=Bp.lt;rw [hbo] at lpo;have lqo:=Bq.lt;rw [hbo] at lqo;have lso:=Bs.lt;rw [hbo] at lso;have lro:=Br.lt;rw [hbo] at lro;have lco:=Bc.lt;rw [hbo] at lco;have ldo:=Bd.lt;rw [hbo] at ldo;have luo:=Bu.lt;rw [hbo] at luo;have lvo:=Bv.lt;rw [hbo] at lvo;have fo:=hw.size;rw [hbo] at fo;have Bo:Box W15 bko [(),(),(),(),(),()] 45:=by rw [hW];exact Box.new hbo.symm
 replace Bp:Box W15 w [p.x,p.y] 34:=by rw [hW];exact Bp.old _
 replace Bq:Box W15 (w+1) [q.x,q.y] 34:=by rw [hW];exact Bq.old _
 replace Bs:Box W15 (bks) [S.A.x,S.A.y,S.B.x,S.B.y,S.C.x,S.C.y] 45:=by rw [hW];exact Bs.old _
 replace Br:Box W15 (bkr) [R.A.x,R.A.y,R.B.x,R.B.y,R.C.x,R.C.y] 45:=by rw [hW];exact Br.old _
 replace Bc:Box W15 (bkc) [C.x,C.y] 34:=by rw [hW];exact Bc.old _
 replace Bd:Box W15 (bkd) [D.x,D.y] 34:=by rw [hW];exact Bd.old _
 replace Bu:Box W15 (bku) [U.A.x,U.A.y,U.B.x,U.B.y,U.C.x,U.C.y] 45:=by rw [hW];exact Bu.old _
 replace Bv:Box W15 (bkv) [V.A.x,V.A.y,V.B.x,V.B.y,V.C.x,V.C.y] 45:=by rw [hW];exact Bv.old _
 replace hw:Below w w W15:=by have hl:=hw.size;rw [hW];go_grown
 clear hW hbo;refine (cf _ (Bm.ee hw) (Hm.ee hw)).mono ?_;rintro e w16 ⟨rfl,hb⟩;replace Bp:=Bp.ee hb;replace Bq:=Bq.ee hb;replace Bs:=Bs.ee hb;obtain ⟨Br,Bc,Bd,Bu,Bv,Bo,hw,-⟩:=qX6 Br Bc Bd Bu Bv Bo hw hb;clear hb;have Fp:=Bp.f;have Fq:=Bq.f;have Fs:=Bs.f;have Fr:=Br.f;have Fc:=Bc.f;have Fd:=Bd.f;have Fu:=Bu.f;have Fv:=Bv.f;have Fo:=Bo.f;go_wp2
 go_ret
 exact ⟨rfl,by have hl:=hw.size;go_grown⟩
def flipD (E:Es) (p q:Pt):Int×Es:=
 match getE E (p,q),getE E (q,p) with
 | some S,some R=>
  if 0 < ori p (apx R p q) (apx S p q)/\0 < ori (apx R p q) q (apx S p q)/\getE E (apx R p q,apx S p q)=none/\getE E (apx S p q,apx R p q)=none
  then (0,flipE E S R (mk p (apx R p q) (apx S p q)) (mk (apx R p q) q (apx S p q))) else (2,E)
 | _,_=>(16,E)
theorem yn {E:Es} {p q:Pt} (h:getE E (p,q)=none\/getE E (q,p)=none):flipD E p q=(16,E):=by
 unfold flipD;rcases h with h | h
 ·rw [h]
 ·rw [h];cases getE E (p,q) <;> rfl
theorem xM {E:Es} {p q:Pt} {S R:Tri3} (h0:getE E (p,q)=some S) (h1:getE E (q,p)=some R):flipD E p q=if 0 < ori p (apx R p q) (apx S p q)/\0 < ori (apx R p q) q (apx S p q)/\getE E (apx R p q,apx S p q)=none/\getE E (apx S p q,apx R p q)=none then (0,flipE E S R (mk p (apx R p q) (apx S p q)) (mk (apx R p q) q (apx S p q))) else (2,E):=by
 unfold flipD;rw [h0,h1]
theorem KD {T:Tri3} (h:valT T):0 < det T.A T.B T.C/\vld T.A=true/\vld T.B=true/\vld T.C=true:=by
 obtain ⟨va,vb,vc,hD⟩:=k8 h;exact ⟨hD,va,vb,vc⟩
theorem qP {E:Es} {L:List Tri3} (g:Good E L) {p q:Pt} {S R:Tri3} (h0:getE E (p,q)=some S) (h1:getE E (q,p)=some R):(S∈L/\R∈L)/\(Cyc S p q (apx S p q)/\Cyc R q p (apx R p q))/\(0 < det p q (apx S p q)/\0 < det q p (apx R p q))/\(vld p=true/\vld q=true/\vld (apx S p q)=true/\vld (apx R p q)=true):=by
 obtain ⟨mS,wS⟩:=g.get.1 h0;obtain ⟨mR,wR⟩:=g.get.1 h1;obtain ⟨c,cS⟩:=yd wS;obtain ⟨d,cR⟩:=yd wR;obtain ⟨pS,v1,v2,v3⟩:=KD (g.val S mS);obtain ⟨pR,v4,v5,v6⟩:=KD (g.val R mR);have p1:0 < det p q c:=by rw [cS.det];exact pS
 have p2:0 < det q p d:=by rw [cR.det];exact pR
 obtain ⟨n1,n2,n3⟩:=zQ p1;obtain ⟨m1,m2,m3⟩:=zQ p2;have e1:apx S p q=c:=(qA cS n1 n2 n3).1;have e2:apx R p q=d:=(qA cR m1 m2 m3).2;rw [e1,e2];have vv:∀ {T:Tri3} {a b c:Pt},Cyc T a b c->vld T.A=true->vld T.B=true->vld T.C=true->vld a=true/\vld b=true/\vld c=true:=by
  intro T a b c h x y z;rcases h with ⟨rfl,rfl,rfl⟩ | ⟨rfl,rfl,rfl⟩ | ⟨rfl,rfl,rfl⟩
  ·exact ⟨x,y,z⟩
  ·exact ⟨y,z,x⟩
  ·exact ⟨z,x,y⟩
 obtain ⟨k1,k2,k3⟩:=vv cS v1 v2 v3;obtain ⟨_,_,k4⟩:=vv cR v4 v5 v6;exact ⟨⟨mS,mR⟩,⟨cS,cR⟩,⟨p1,p2⟩,k1,k2,k3,k4⟩
theorem qI {a b c:Pt} (va:vld a) (vb:vld b) (vc:vld c):0 < ori a b c↔0 < det a b c:=by
 rw [ori_v va vb vc];have:=zL (det a b c);omega
theorem xg {E:Es} {L:List Tri3} (g:Good E L) {p q:Pt} {S R:Tri3} {C D:Pt} (h0:getE E (p,q)=some S) (h1:getE E (q,p)=some R) (hC:apx S p q=C) (hD:apx R p q=D) (o1:0 < ori p D C) (o2:0 < ori D q C) (he:getE E (D,C)=none) (hf:getE E (C,D)=none):Flips E p q S R (mk p D C) (mk D q C) C D/\∃ M,L.Perm (S :: R :: M)/\Good (flipE E S R (mk p D C) (mk D q C)) (mk p D C :: mk D q C :: M):=by
 obtain ⟨⟨mS,mR⟩,⟨cS,cR⟩,⟨p1,p2⟩,vp,vq,vc,vd⟩:=qP g h0 h1;rw [hC] at cS p1 vc;rw [hD] at cR p2 vd;have d1:=(qI vp vd vc).1 o1;have d2:=(qI vd vq vc).1 o2;obtain ⟨n1,n2,n3⟩:=zQ p1;obtain ⟨m1,m2,m3⟩:=zQ p2;obtain ⟨x1,x2,x3⟩:=zQ d1;obtain ⟨y1,y2,y3⟩:=zQ d2;have hne:S≠R:=by
  rintro rfl;have:=cS.ways.mem_iff.1 cR.way;simp only [J1,Jt,JI,Jp] at this;rcases this with ⟨k,_⟩ | ⟨_,k⟩ | ⟨k,_⟩
  ·exact n1 k.symm
  ·exact n3 k.symm
  ·exact n2 k
 obtain ⟨M,hM⟩:=k7 mS mR hne;have nd:=(zv hM).nodup_iff.1 g.once;rw [JE,JE,Jg] at nd;obtain ⟨_,nd2,nd1⟩:=nd;rw [Jg] at nd2;obtain ⟨_,_,nd2⟩:=nd2;have inM:∀ w,w∈M.flatMap ways->w ∉ ways S/\w ∉ ways R/\w∈L.flatMap ways:=λw hw=>
  ⟨λk=>nd1 w k w (Jr _ hw) rfl,λk=>nd2 w k w hw rfl,(zv hM).mem_iff.2 (by rw [JE,JE];simp [hw])⟩
 obtain ⟨cU,vU⟩:=yG vp vd vc d1;obtain ⟨cV,vV⟩:=yG vd vq vc d2;have a1:=(Good.take (E:=E) (T:=S) (M:=R :: M) (g.order hM)).2;have a2:=(Good.take (E:=takeT E S) (T:=R) (M:=M) a1).2;obtain ⟨f1,g1⟩:=Good.put (T:=mk p D C) a2 vU (λw hw k=>by
  obtain ⟨k1,k2,k3⟩:=inM w k;have:=cU.ways.mem_iff.1 hw;simp only [J1,JI,Jp] at this;rcases this with rfl | rfl | rfl
  ·exact k2 cR.turn.way
  ·exact g.get_none.1 he k3
  ·exact k1 cS.turn.turn.way)
 obtain ⟨f2,g2⟩:=Good.put (T:=mk D q C) g1 vV (λw hw k=>by
  have h:=cV.ways.mem_iff.1 hw;simp only [J1,JI,Jp] at h;rw [JE,JM] at k;rcases k with k | k
  ·have k:=cU.ways.mem_iff.1 k;simp only [J1,JI,Jp] at k;rcases h with rfl | rfl | rfl
   ·simp only [Jt] at k;rcases k with ⟨k,_⟩ | ⟨_,k⟩ | ⟨k,_⟩
    ·exact x1 k.symm
    ·exact y2 k
    ·exact x2 k
   ·simp only [Jt] at k;rcases k with ⟨_,k⟩ | ⟨k,_⟩ | ⟨_,k⟩
    ·exact x2 k.symm
    ·exact y1 k.symm
    ·exact x3 k
   ·simp only [Jt] at k;rcases k with ⟨k,_⟩ | ⟨k,_⟩ | ⟨_,k⟩
    ·exact x3 k
    ·exact x2 k.symm
    ·exact x1 k.symm
  ·obtain ⟨k1,k2,k3⟩:=inM w k;rcases h with rfl | rfl | rfl
   ·exact k2 cR.turn.turn.way
   ·exact k1 cS.turn.way
   ·exact g.get_none.1 hf k3)
 refine ⟨⟨h0,h1,hC,hD,Qh (by omega),Qh (by omega),rfl,rfl,he,hf,⟨yY vc,yY vd⟩,ye (g.val _ mS),ye (g.val _ mR),ye vU,ye vV,xL f1,xL f2⟩,M,hM,g2.order (List.Perm.swap _ _ _)⟩
theorem jd {E:Es} {L:List Tri3} (g:Good E L) {p q:Pt} {S R O:Tri3} {C D:Pt} (h0:getE E (p,q)=some S) (h1:getE E (q,p)=some R) (hC:apx S p q=C) (hD:apx R p q=D) (hdc:D≠C) (ho:(D,C)∈ways O\/(C,D)∈ways O):teq O S=false/\teq O R=false:=by
 obtain ⟨_,⟨cS,cR⟩,⟨p1,p2⟩,_⟩:=qP g h0 h1;rw [hC] at cS p1;rw [hD] at cR p2;obtain ⟨n1,n2,n3⟩:=zQ p1;obtain ⟨m1,m2,m3⟩:=zQ p2;have tf:∀ {X Y:Tri3},X≠Y->teq X Y=false:=λ{X Y} h=>by
  rw [<-QO];intro k;exact h (k9.1 k)
 constructor
 ·refine tf ?_;rintro rfl;rcases ho with ho | ho
  ·have:=cS.ways.mem_iff.1 ho;simp only [J1,Jt,JI,Jp] at this;rcases this with ⟨k,_⟩ | ⟨k,_⟩ | ⟨k,_⟩
   ·exact m2 k.symm
   ·exact m3 k
   ·exact hdc k
  ·have:=cS.ways.mem_iff.1 ho;simp only [J1,Jt,JI,Jp] at this;rcases this with ⟨k,_⟩ | ⟨k,_⟩ | ⟨_,k⟩
   ·exact n3 k
   ·exact n2 k.symm
   ·exact m2 k.symm
 ·refine tf ?_;rintro rfl;rcases ho with ho | ho
  ·have:=cR.ways.mem_iff.1 ho;simp only [J1,Jt,JI,Jp] at this;rcases this with ⟨k,_⟩ | ⟨k,_⟩ | ⟨_,k⟩
   ·exact m3 k
   ·exact m2 k.symm
   ·exact n2 k.symm
  ·have:=cR.ways.mem_iff.1 ho;simp only [J1,Jt,JI,Jp] at this;rcases this with ⟨k,_⟩ | ⟨k,_⟩ | ⟨k,_⟩
   ·exact n2 k.symm
   ·exact n3 k
   ·exact hdc k.symm
theorem rflip_any (mb b:Nat) (E:Es) (L:List Tri3) (g:Good E L) (p q:Pt) (hk:okW (p,q)) (w:World) (Bm:Box w mb [.map (some b)] 98) (Hm:Hs w b E):Calls prog 85 #[pt0 mb,p,q] w λe w'=>e=.returned (.int .i64 (flipD E p q).1)/\w.grownBy w' (some b)/\Hs w' b (flipD E p q).2:=by
 have no:∀ {r:Int} {e:Ending} {w':World},flipD E p q=(r,E)->e=.returned (.int .i64 r)/\Below w w w'->e=.returned (.int .i64 (flipD E p q).1)/\w.grownBy w' (some b)/\Hs w' b (flipD E p q).2:=λh ⟨k1,k2⟩=>by
  rw [h];exact ⟨k1,zM k2 _,Hm.ee k2⟩
 cases h0:getE E (p,q) with
 | none=>exact (rflip_n0 mb b E p q hk h0 w Bm Hm).mono λe w' h=>no (yn (.inl h0)) h
 | some S=>
  cases h1:getE E (q,p) with
  | none=>exact (rflip_n1 mb b E p q hk S h0 h1 w Bm Hm).mono λe w' h=>no (yn (.inr h1)) h
  | some R=>
   obtain ⟨_,_,_,vp,vq,vc,vd⟩:=qP g h0 h1;have hs:=xM h0 h1;obtain ⟨C,hC⟩:∃ C,apx S p q=C:=⟨_,rfl⟩;obtain ⟨D,hD⟩:∃ D,apx R p q=D:=⟨_,rfl⟩;rw [hC] at hs vc;rw [hD] at hs vd;have hc:okW (C,D):=⟨yY vc,yY vd⟩;by_cases o1:0 < ori p D C
   ·by_cases o2:0 < ori D q C
    ·have hdc : D ≠ C := λe => by rw [e] at o1; have := (qI vp vc vc).1 o1; have z : det p C C = 0 := by unfold det; grind
                                  omega
     cases he:getE E (D,C) with
     | some O=>
      obtain ⟨t1,t2⟩:=jd g h0 h1 hC hD hdc (.inl (g.get.1 he).2);refine (rflip_c1 mb b E p q hk S R C D h0 h1 hC hD (Qh (by omega)) (Qh (by omega)) hc O he t1 t2 w Bm Hm).mono λe w' h=>no ?_ h;rw [hs,J0 (by rw [he];simp)]
     | none=>
      cases hf:getE E (C,D) with
      | some O=>
       obtain ⟨t1,t2⟩:=jd g h0 h1 hC hD hdc (.inr (g.get.1 hf).2);refine (rflip_c2 mb b E p q hk S R C D h0 h1 hC hD (Qh (by omega)) (Qh (by omega)) hc O he hf t1 t2 w Bm Hm).mono λe w' h=>no ?_ h;rw [hs,J0 (by rw [hf];simp)]
      | none=>
       obtain ⟨fl,_⟩:=xg g h0 h1 hC hD o1 o2 he hf;rw [hs,JH ⟨o1,o2,he,hf⟩];exact Yo mb b E p q hk S R _ _ C D fl.h0 fl.h1 fl.hC fl.hD fl.o1 fl.o2 fl.hU fl.hV fl.he fl.hf fl.hc fl.hS fl.hR fl.hu fl.hv fl.f1 fl.f2 w Bm Hm
    ·refine (rflip_o2 mb b E p q hk S R C D h0 h1 hC hD (Qh (by omega)) (Qk (by omega)) w Bm Hm).mono λe w' h=>no ?_ h;rw [hs,J0 (λk=>o2 k.2.1)]
   ·refine (rflip_o1 mb b E p q hk S R C D h0 h1 hC hD (Qk (by omega)) w Bm Hm).mono λe w' h=>no ?_ h;rw [hs,J0 (λk=>o1 k.1)]
theorem good_flipD {E:Es} {L:List Tri3} (g:Good E L) (p q:Pt):∃ L',Good (flipD E p q).2 L':=by
 cases h0:getE E (p,q) with
 | none=>rw [yn (.inl h0)];exact ⟨L,g⟩
 | some S=>
  cases h1:getE E (q,p) with
  | none=>rw [yn (.inr h1)];exact ⟨L,g⟩
  | some R=>
   rw [xM h0 h1];split
   ·rename_i k
    obtain ⟨_,M,_,g'⟩:=xg g h0 h1 rfl rfl k.1 k.2.1 k.2.2.1 k.2.2.2;exact ⟨_,g'⟩
   ·exact ⟨L,g⟩
section
theorem qL:∀ (M N:List Pt),M.Nodup->(∀ p∈M,p∈N)->M.length<=N.length
 | [],_,_,_=>Jl _
 | p :: M,N,hn,h=>by
  have hp:=h p (by simp);have ih:=qL M (N.erase p) (Jf.1 hn).2 (λq hq=>(U8 (λe=>(Jf.1 hn).1 (by rw [<-e];exact hq))).2 (h q (by simp [hq])));rw [List.length_erase_of_mem hp] at ih;have:=Vi hp;simp only [JW];omega
theorem alloc_cellA (w:World) (o:Obj) (A:Addr) (h:(A.block=w.heap.size)=False):(w.alloc o).cell? A=w.cell? A:=by
 have h':A.block≠w.heap.size:=λe=>h.mp e;unfold World.alloc World.cell?;simp only [UA,J0 h']
attribute [local go_sem] alloc_cellA
end
end
section
open Go.RowKit Go.Sort
attribute [local go_sem] rOper rAt rUpon cell_set sg_i64 sg_u64 alloc_cell alloc_frozen
attribute [local go_sem 10000] pt_eql pt_neq tri_eql
attribute [local irreducible] rWalk
def onE (E:Es) (p q:Pt):List Pt:=(froms E).filter λx=>onR x p q
theorem tJ (E F:Es) (p q:Pt):onE (E ++ F) p q=onE E p q ++ onE F p q:=by unfold onE froms;rw [QC,Qf]
theorem onE_yes {u x p q:Pt} {T:Tri3} (h:onR u p q):onE [((u,x),T)] p q=[u]:=by simp [onE,froms,h]
theorem onE_no {u x p q:Pt} {T:Tri3} (h:onR u p q=false):onE [((u,x),T)] p q=[]:=by simp [onE,froms,h]
theorem Yx (E:Es) (p q:Pt):(onE E p q).length<=E.length:=by unfold onE froms;exact JY (Qn _ _) (by simp)
theorem onE_perm {E F:Es} (h:E.Perm F) (p q:Pt):(onE E p q).Perm (onE F p q):=(h.map _).filter _
def PartsL (E:Es) (p q:Pt) (M:List Pt):Prop:=(∀ x,x∈M↔x∈onE E p q)/\((Rising cmpP M/\M.head? = some p)\/(Rising cmpP M.reverse/\M.reverse.head? ≠ some p))
def PartsPost (E:Es) (p q:Pt) (w:World) (e:Ending) (w':World):Prop:=
 ∃ M a cap,e=.returned (.tuple #[.slice a M.length cap,()])/\RowAt cP 2 w' a M/\PartsL E p q M/\Below w w w'
theorem rparts_b0 (mb b:Nat) (E:Es) (p q:Pt) (h0:peqI p.x p.y q.x q.y) (w:World) (_Bm:Box w mb [.map (some b)] 98) (_Hm:Hs w b E):Calls prog 92 #[pt0 mb,p,q] w (Rt w (.tuple #[.slice none 0 0,.int .i64 2])):=by
 go_enter func92,ntmps92
 go_wp2;refine bodyPost_ret (v:=.tuple #[.slice none 0 0,.int .i64 2]) (by simp [results,results92,go_sem]) rfl ⟨rfl,by go_grown⟩
theorem rparts_b1 (mb b:Nat) (E:Es) (p q:Pt) (h0:peqI p.x p.y q.x q.y=false) (h1:vld p=false) (w:World) (_Bm:Box w mb [.map (some b)] 98) (_Hm:Hs w b E):Calls prog 92 #[pt0 mb,p,q] w (Rt w (.tuple #[.slice none 0 0,.int .i64 2])):=by
 have kp:=z7 p;rw [h1] at kp
 go_enter func92,ntmps92
 go_wp2_with fail;refine qE2 λW1 Bp Bq hw=>?_;refine qC2 (kp _) Bp Bq hw λw2 Bp Bq hw FJ=>?_;go_wp2;refine bodyPost_ret (v:=.tuple #[.slice none 0 0,.int .i64 2]) (by simp [results,results92,go_sem]) rfl ⟨rfl,by have hl:=hw.size;go_grown⟩
theorem rparts_b2 (mb b:Nat) (E:Es) (p q:Pt) (h0:peqI p.x p.y q.x q.y=false) (h1:vld p) (h2:vld q=false) (w:World) (_Bm:Box w mb [.map (some b)] 98) (_Hm:Hs w b E):Calls prog 92 #[pt0 mb,p,q] w (Rt w (.tuple #[.slice none 0 0,.int .i64 2])):=by
 have kp:=z7 p;rw [h1] at kp;have kq:=z7 q;rw [h2] at kq
 go_enter func92,ntmps92
 go_wp2_with fail;refine qE2 λW1 Bp Bq hw=>?_;refine qC2 (kp _) Bp Bq hw λw2 Bp Bq hw FJ=>?_;go_wp2_with fail;clear FJ;refine qC2 (kq _) Bp Bq hw λw3 Bp Bq hw FJ=>?_;go_wp2;refine bodyPost_ret (v:=.tuple #[.slice none 0 0,.int .i64 2]) (by simp [results,results92,go_sem]) rfl ⟨rfl,by have hl:=hw.size;go_grown⟩
theorem rparts_n1 (mb b:Nat) (E:Es) (p q:Pt) (hE:E.length<=500000) (h0:peqI p.x p.y q.x q.y=false) (h1:vld p) (h2:vld q) (s1:starE p E=[]) (w:World) (Bm:Box w mb [.map (some b)] 98) (Hm:Hs w b E):Calls prog 92 #[pt0 mb,p,q] w (Rt w (.tuple #[.slice none 0 0,.int .i64 16])):=by
 have kp:=z7 p;rw [h1] at kp;have kq:=z7 q;rw [h2] at kq;have cS:=λw0 B1 H1=>xP mb b E p (by omega) w0 B1 H1;have cT:=λw0 B1 H1=>xP mb b E q (by omega) w0 B1 H1;obtain ⟨n,hn⟩:∃ n,(srt cmpT (starE p E)).length=n:=⟨_,rfl⟩;obtain ⟨m,hm⟩:∃ m,(srt cmpT (starE q E)).length=m:=⟨_,rfl⟩;rw [hn] at cS;rw [hm] at cT;have hn0:n=0:=by rw [<-hn,(zU _).length_eq,s1];rfl
 subst hn0
 go_enter func92,ntmps92
 go_wp2_with fail;refine qE2 λW1 Bp Bq hw=>?_;refine qC2 (kp _) Bp Bq hw λw2 Bp Bq hw FJ=>?_;go_wp2_with fail;clear FJ;refine qC2 (kq _) Bp Bq hw λw3 Bp Bq hw FJ=>?_;go_wp2_with fail;refine (cS _ (Bm.ee hw) (Hm.ee hw)).mono ?_;rintro e w4 ⟨as1,cs1,rfl,hr1,hb⟩;clear FJ;obtain ⟨Bp,Bq,hw,-⟩:=qX2 Bp Bq hw hb;clear hb hr1;have FJ:=J2 Bp.f Bq.f;go_wp2;refine bodyPost_ret (v:=.tuple #[.slice none 0 0,.int .i64 16]) (by simp [results,results92,go_sem]) rfl ⟨rfl,by have hl:=hw.size;go_grown⟩
theorem rparts_n2 (mb b:Nat) (E:Es) (p q:Pt) (hE:E.length<=500000) (h0:peqI p.x p.y q.x q.y=false) (h1:vld p) (h2:vld q) (s1:starE p E≠[]) (s2:starE q E=[]) (w:World) (Bm:Box w mb [.map (some b)] 98) (Hm:Hs w b E):Calls prog 92 #[pt0 mb,p,q] w (Rt w (.tuple #[.slice none 0 0,.int .i64 16])):=by
 have kp:=z7 p;rw [h1] at kp;have kq:=z7 q;rw [h2] at kq;have cS:=λw0 B1 H1=>xP mb b E p (by omega) w0 B1 H1;have cT:=λw0 B1 H1=>xP mb b E q (by omega) w0 B1 H1;obtain ⟨n,hn⟩:∃ n,(srt cmpT (starE p E)).length=n:=⟨_,rfl⟩;obtain ⟨m,hm⟩:∃ m,(srt cmpT (starE q E)).length=m:=⟨_,rfl⟩;rw [hn] at cS;rw [hm] at cT;have hn0:((n:Int) == 0)=false:=by
  have:n≠0:=λe=>s1 (Ju.1 (by rw [<-(zU (c:=cmpT) (starE p E)).length_eq,hn,e]));simp;omega
 have hm0:m=0:=by rw [<-hm,(zU _).length_eq,s2];rfl
 subst hm0
 go_enter func92,ntmps92
 go_wp2_with fail;refine qE2 λW1 Bp Bq hw=>?_;refine qC2 (kp _) Bp Bq hw λw2 Bp Bq hw FJ=>?_;go_wp2_with fail;clear FJ;refine qC2 (kq _) Bp Bq hw λw3 Bp Bq hw FJ=>?_;go_wp2_with fail;refine (cS _ (Bm.ee hw) (Hm.ee hw)).mono ?_;rintro e w4 ⟨as1,cs1,rfl,hr1,hb⟩;clear FJ;obtain ⟨Bp,Bq,hw,-⟩:=qX2 Bp Bq hw hb;clear hb hr1;have FJ:=J2 Bp.f Bq.f;go_wp2_with fail;refine (cT _ (Bm.ee hw) (Hm.ee hw)).mono ?_;rintro e w5 ⟨as2,cs2,rfl,hr2,hb⟩;clear FJ;obtain ⟨Bp,Bq,hw,-⟩:=qX2 Bp Bq hw hb;clear hb hr2;have FJ:=J2 Bp.f Bq.f;go_wp2;refine bodyPost_ret (v:=.tuple #[.slice none 0 0,.int .i64 16]) (by simp [results,results92,go_sem]) rfl ⟨rfl,by have hl:=hw.size;go_grown⟩
theorem rparts_ok (mb b:Nat) (E:Es) (p q:Pt) (hE:E.length<=500000) (h0:peqI p.x p.y q.x q.y=false) (h1:vld p) (h2:vld q) (s1:starE p E≠[]) (s2:starE q E≠[]) (w:World) (Bm:Box w mb [.map (some b)] 98) (Hm:Hs w b E):Calls prog 92 #[pt0 mb,p,q] w (PartsPost E p q w):=by
 have kp:=z7 p;rw [h1] at kp;have kq:=z7 q;rw [h2] at kq;have cS:=λw0 B1 H1=>xP mb b E p (by omega) w0 B1 H1;have cT:=λw0 B1 H1=>xP mb b E q (by omega) w0 B1 H1;obtain ⟨n,hn⟩:∃ n,(srt cmpT (starE p E)).length=n:=⟨_,rfl⟩;obtain ⟨m,hm⟩:∃ m,(srt cmpT (starE q E)).length=m:=⟨_,rfl⟩;rw [hn] at cS;rw [hm] at cT;have hn0:((n:Int) == 0)=false:=by
  have:n≠0:=λe=>s1 (Ju.1 (by rw [<-(zU (c:=cmpT) (starE p E)).length_eq,hn,e]));simp;omega
 have hm0:((m:Int) == 0)=false:=by
  have:m≠0:=λe=>s2 (Ju.1 (by rw [<-(zU (c:=cmpT) (starE q E)).length_eq,hm,e]));simp;omega
 go_enter func92,ntmps92
 go_wp2_with fail;refine qE2 λW1 Bp Bq hw=>?_;refine qC2 (kp _) Bp Bq hw λw2 Bp Bq hw FJ=>?_;go_wp2_with fail;clear FJ;refine qK2 (kq _) Bp Bq hw λw3 Bp Bq hw=>?_;have Fp:=Bp.f;have Fq:=Bq.f;go_wp2_with fail;refine (cS _ (Bm.ee hw) (Hm.ee hw)).mono ?_;rintro e w4 ⟨as1,cs1,rfl,hr1,hb⟩;clear Fp Fq;obtain ⟨Bp,Bq,hw,-⟩:=qX2 Bp Bq hw hb;clear hb hr1;have Fp:=Bp.f;have Fq:=Bq.f;go_wp2_with fail;refine (cT _ (Bm.ee hw) (Hm.ee hw)).mono ?_;rintro e w5 ⟨as2,cs2,rfl,hr2,hb⟩;clear Fp Fq;obtain ⟨Bp,Bq,hw,-⟩:=qX2 Bp Bq hw hb;clear hb hr2;have B1:=Bm.ee hw;have H1:=Hm.ee hw;have Fm:=B1.f;have Fp:=Bp.f;have Fq:=Bq.f;have HPE:=hdd (show p∈onE E p q by
  have:starE p E≠[]:=s1;obtain ⟨T,hT⟩:=VY _ this;unfold starE at hT;obtain ⟨e,he,_⟩:=JS.1 hT;obtain ⟨he,hp⟩:=JZ.1 he;have hp:e.1.1=p:=by simpa using hp
  unfold onE froms;refine JZ.2 ⟨JS.2 ⟨e,he,hp⟩,?_⟩;unfold onR btw;have z:det p q p=0:=by unfold det;grind
  have k1:min p.x q.x<=p.x/\p.x<=max p.x q.x:=by omega
  have k2:min p.y q.y<=p.y/\p.y<=max p.y q.y:=by omega
  rw [h1,h2,z,Qk k1,Qk k2];rfl)
 clear s1 s2 hn hm h0 cS cT kp kq Bm Hm;go_wp2_with (at_range;refine yK _ rfl _ rfl kvR rfl H1 ?_)
 intro w20 HR0 hw20 hs20;generalize hit:w5.heap.size=it at HR0 ⊢
 have hwz:=hw.size;have hiz:=hdd (show w.heap.size+2<=it by have:=Bq.lt;omega);have Bp0:Box w20 w [p.x,p.y] 34:=Bp.ext hw20 (by first | rfl | simp);have Bq0:Box w20 (w+1) [q.x,q.y] 34:=Bq.ext hw20 (by first | rfl | simp);replace hw:=upB hw hw20;clear Fp Fq Fm Bp Bq hw20 hs20 B1 H1 hit hwz hn0 hm0;go_wp2
 go_loopw [8] (λv wr=>∃ D R:Es,Hi ((D ++ R).Perm E)/\wr.ownsRow (w.heap.size+2) 34 2 v (onE D p q).length ((onE D p q).flatMap cP)/\Ranging eW eT okW wr b it E R/\Box wr w [p.x,p.y] 34/\Box wr (w+1) [q.x,q.y] 34/\Below w w wr) (λ_ wr=>wr.rangeLeft b it)
 case atStart=>exact ⟨[],E,hdd (by simp),World.ownsRow_nil _ _ _ _,by simpa using HR0,Bp0,Bq0,hw⟩
 case round=>
  clear HR0 hw Bp0 Bq0;obtain ⟨D,R,hD,hown,HR,Bp,Bq,hw⟩:=hrel;go_wp2_with (at_next;refine yN _ rfl _ rfl rfl HR ?_ ?_)
  ·intro hR;subst hR;have hp0:(onE D p q).Perm (onE E p q):=onE_perm (by simpa using hD.o) p q;have hle:(onE D p q).length<=500000:=by have:=hp0.length_eq;have:=Yx E p q;omega
   have HPM:=hdd hp0;clear hp0;obtain ⟨a1,c1,rfl,hc1,hr1⟩:=zx tn hown;go_wp2_with fail;refine (rsortP_any _ _ _ _ (hdd rfl) hle _ hr1).mono ?_;rintro e w2 ⟨M,aM,cM,rfl,hrM,hriM,hmM,hb⟩;have HRI:=hdd hriM;have HMM:=hdd (show ∀ x,x∈M↔x∈onE E p q from λx=>by rw [hmM x,HPM.o.mem_iff]);have hM0:0 < M.length:=Vi ((HMM.o p).2 HPE.o);have hMl:=hdd (show M.length<=500000 from JY (qL M (onE E p q) (hriM.imp λ{x y} h e=>by subst e;have:=(zP (p:=x) (q:=x)).2 rfl;omega) (λx hx=>(HMM.o x).1 hx)) (by rw [<-HPM.o.length_eq];exact hle));have Bp2:=Bp.ee hb;have HZ2:=hdd (show w.heap.size+2<=w2.heap.size by have:=Bq.lt;have:=hb.size;omega);have hw2:=(upB hw hb);clear hown HR Bp Bq hw hb hr1 hriM hmM hc1 HPM;obtain ⟨ad,A,ea,eA,hA⟩:=hrM.two hM0;have HH:=hdd (show M.head? = some M[0] from List.head?_eq_getElem? ▸ JG hM0);generalize M[0]=x at *
   obtain ⟨n,hnM⟩:∃ n,M.length=n:=⟨_,rfl⟩;have HN:=hdd hnM;rw [hnM] at hM0 hMl;rw [hnM];clear hnM;have q0:(0:Int) < (n:Int):=by omega
   have gp:=Bp2.cells;obtain ⟨s0,s1⟩:=hA.cells;have ea2:=hdd ea;subst ea;go_wp2_with fail;refine rgn 4 (λw3 hb3=>?_);clear gp s0 s1;have r3:=hrM.ee hb3;have hw3:=(upB hw2 hb3);have HZ3:=hdd (show w.heap.size+2<=w3.heap.size by have:=HZ2.o;have:=hb3.size;omega);have HAD:=hdd (show ad.block < w3.heap.size by have hs:=hb3.size;have h1:=hA.1;rw [<-eA,zj] at h1;omega);clear hA hrM Bp2 hw2 hb3 HZ2;cases hx:peqI x.x x.y p.x p.y with
   | true=>
    have HR:=hdd (show PartsL E p q M from ⟨HMM.o,.inl ⟨HRI.o,by rw [HH.o,yo.1 hx]⟩⟩);go_wp2;refine bodyPost_ret (v:=.tuple #[.slice (some ad) n cM,()]) (by simp [results,results92,go_sem]) rfl ?_;exact ⟨M,some ad,cM,by rw [HN.o],r3,HR.o,hw3⟩
   | false=>
    have HR:=hdd (show PartsL E p q M.reverse from ⟨λy=>by rw [Vu];exact HMM.o y,.inr ⟨by rw [Vq];exact HRI.o,by rw [Vq,HH.o];intro e;rw [JU e] at hx;rw [yo.2 rfl] at hx;cases hx⟩⟩);have r4:RowAt cP 2 w3 (some ad) M:=r3;have e1:=hdd (show wrap64 ((n:Int) - 1)=(n:Int) - 1 by rw [w64];have:=hMl.o;omega);clear HPE HRI HMM HH r3;go_wp2
    go_loopw [10,11] (λvo vi wr=>∃ (j:Nat) (z:Int),vi=.int .i64 z/\z=(j:Int) - 1/\j<=n/\wr.ownsRow w3.heap.size 34 2 vo (M.drop j).reverse.length ((M.drop j).reverse.flatMap cP)/\RowAt cP 2 wr (some ad) M/\Hi (w3.heap.size<=wr.heap.size)/\Below w w wr) (λ_ vi _=>(intOf vi+1).toNat)
    case atStart=>exact ⟨n,_,rfl,by first | rfl | exact e1.o,JJ _,by rw [List.drop_of_length_le (by rw [HN.o];omega)];exact World.ownsRow_nil _ _ _ _,r4,hdd (JJ _),hw3⟩
    case round=>
     clear r4 hw3;obtain ⟨j,z,rfl,hz,hj,hown,r4,hz3,hw3⟩:=hrel;cases j with
     | zero=>
      have q2:decide ((0:Int)<=z)=false:=by simp;omega
      clear hz hj;obtain ⟨a1,c1,rfl,hc1,hr1⟩:=zx tn hown;rw [QZ] at hr1;have HL0:=hdd (show (M.drop 0).reverse.length=M.reverse.length from rfl);go_wp2;refine bodyPost_ret (v:=.tuple #[.slice a1 (M.drop 0).reverse.length c1,()]) (by simp [results,results92,go_sem]) rfl ?_;exact ⟨M.reverse,a1,c1,by rw [<-HL0.o],hr1,HR.o,hw3⟩
     | succ j=>
      obtain rfl:z=(j:Int):=by omega
      have hjM:j < M.length:=by rw [HN.o];omega
      obtain ⟨ad2,A2,ea3,eA2,hA2⟩:=r4.two hjM;obtain rfl:ad=ad2:=JU ea3;have HT:=hdd (show (M.drop j).reverse=(M.drop (j+1)).reverse ++ [M[j]] by rw [Q9 hjM,List.reverse_cons]);have hle2:(M.drop (j+1)).reverse.length<=1000000:=by rw [List.length_reverse,Ja,HN.o];have:=hMl.o;omega
      generalize M[j]=y at *
      have q2:decide ((0:Int)<=(j:Int))=true:=by simp
      have q3:(j:Int) < (n:Int):=by omega
      have q4:(0:Int)<=(j:Int):=by omega
      have e2:=hdd (show wrap64 ((j:Int) - 1)=(j:Int) - 1 by rw [w64];have:=hMl.o;omega);have hjn:=hdd (show j<=n by omega);obtain ⟨z1,t0,t1⟩:=hA2.f;have hbw:=hz3.o;have hsz:=hdd (show w3.heap.size<=wr.heap.size from hbw);clear hj hz ea3 hA2 hbw;go_wp2_with (at_builtin;refine tr rfl _ _ rfl w3.heap.size _ (M.drop (j+1)).reverse rfl (hown.alloc _) wr.heap.size y rfl (Box.new rfl) hle2 (by have:=hsz.o;simp;omega) ?_;intro w4 v4 hown4 hg4 hn4)
      have hlt:=λk hk=>((hown.alloc (.cells (cP y).toArray 34)).lt k hk).1;have hw4:=(hw3.alloc (by have:=hsz.o;have:=HZ3.o;omega) (.cells (cP y).toArray 34)).grown hg4 (by have:=hsz.o;have:=HZ3.o;simp;omega) (λk hk=>by have:=hlt k hk;have:=HZ3.o;omega);have r5:=(r4.ext (w':=wr.alloc (.cells (cP y).toArray 34)) (by go_grown) rfl);have r6:RowAt cP 2 w4 (some ad) M:=r5.kept hg4 (λad' e k=>by cases e;have:=hlt _ k.symm;have:=HAD.o;omega);clear z1 t0 t1 hlt
      go_roundw
      case rel=>exact ⟨j,_,rfl,by first | rfl | exact e2.o,hjn.o,by rw [HT.o];exact hown4,r6,hdd (by have:=hg4.size;have:=hsz.o;simp at *;omega),hw4⟩
      case measure=>simp [intOf];have:=e2.o;omega
  ·intro u x T R' w1 hperm HR1 hg1 hs1 hen;have hD2:=hdd (show ((D ++ [((u,x),T)]) ++ R').Perm E by have:=(hperm.append_left D).symm.trans hD.o;simpa using this);have own1:=hown.kept hg1 (.inr (λe=>zw hown HR e.symm));have hzi:=hiz.o;have Bp1:=Bp.grown2 hg1 (λk hk=>by cases hk;omega);have Bq1:=Bq.grown2 hg1 (λk hk=>by cases hk;omega);have hw1:=hw.grown hg1 hw.size (λk hk=>by cases hk;omega);have HL:=hdd (show w1.rangeLeft b it < wr.rangeLeft b it by rw [zT HR1,zT HR,hperm.length_eq];simp);have hen2:(Instr.entry (.pointer (some ⟨it,0,none⟩))).run prog w1=.ok (.tuple #[.agg #[u.x,u.y,x.x,x.y],T]) w1:=hen;have hle:(onE D p q).length<=1000000:=by have:=hD2.o.length_eq;have:=Yx D p q;simp at *;omega
   have HB:=hdd hw1.size;have HQ:=hdd Bq1.lt;clear hown HR hg1 hs1 hen hperm hw Bp Bq hzi;have Fp:=Bp1.f;have Fq:=Bq1.f;have con:=λw0=>vG u p q w0;have hb2:Below w1 w1 (w1.alloc (.cells #[u.x,u.y,x.x,x.y] 100)):=by go_grown
   go_wp2_with fail;refine zI λW2 hW=>?_;have Be:Box W2 w1 [u.x,u.y,x.x,x.y] 100:=by rw [hW];exact Box.new rfl
   have hw2:Below w1 w1 W2:=by rw [hW];go_grown
   clear hW hb2;refine (con _).mono ?_;rintro e w3 ⟨rfl,hb⟩;have hb3:=(upB hw2 hb);have Be3:=Be.ee hb;have Bp3:=Bp1.ee hb3;have Bq3:=Bq1.ee hb3;have own3:=yp own1 hb3;have HR3:=HR1.ee hb3;have hw3:=(upB hw1 hb3);have HL3:=hdd (show w3.rangeLeft b it < wr.rangeLeft b it by rw [zT HR3,<-zT HR1];exact HL.o);have HB3:=hdd (show w.heap.size+2<=w3.heap.size by have:=HQ.o;have:=hb3.size;omega);clear con hb hb3 hw2 Be Bp1 Bq1 own1 HR1 hw1 HL HB HQ hen2 Fp Fq;have Fe:=Be3.f;cases hon:onR u p q with
   | true=>
    have HH:=hdd (show onE (D ++ [((u,x),T)]) p q=onE D p q ++ [u] by rw [tJ,onE_yes hon]);clear hon;go_wp2_with (at_builtin;refine tr rfl _ _ rfl (w.heap.size+2) _ (onE D p q) rfl (own3.alloc _) w3.heap.size u rfl (Box.new rfl) hle (by have:=HB3.o;simp;omega) ?_;intro w4 v4 hown4 hg4 hn4)
    have hR3:=HR3.kept (World.grownBy_alloc _ (.cells (cP u).toArray 34) none) (by simp) (by simp);have hR4:=hR3.kept hg4 (yF (own3.alloc _) hR3.holds) (zw (own3.alloc _) hR3);have hlt:=λk hk=>((own3.alloc (.cells (cP u).toArray 34)).lt k hk).1;have hw4:=(hw3.alloc (by have:=HB3.o;omega) (.cells (cP u).toArray 34)).grown hg4 (by have:=HB3.o;simp;omega) (λk hk=>by have:=hlt k hk;omega);have Bp4:=(Bp3.old _).grown2 hg4 (λk hk=>by have:=hlt k hk;omega);have Bq4:=(Bq3.old _).grown2 hg4 (λk hk=>by have:=hlt k hk;omega);clear Fe hlt
    go_roundw
    case rel=>exact ⟨D ++ [((u,x),T)],R',hD2,by rw [HH.o];exact hown4,hR4,Bp4,Bq4,hw4⟩
    case measure=>rw [zT hR4,<-zT HR3];exact HL3.o
   | false=>
    have HH:=hdd (show onE (D ++ [((u,x),T)]) p q=onE D p q by rw [tJ,onE_no hon,Ji]);clear hon;go_wp2
    go_roundw
    case rel=>exact ⟨D ++ [((u,x),T)],R',hD2,by rw [HH.o];exact own3,HR3,Bp3,Bq3,hw3⟩
    case measure=>exact HL3.o
section
def crossD (a b:Pt) (D:Es):List Wl:=D.filterMap λe=>if decide (cmpP e.1.1 e.1.2 < 0) && decide (meetR a b e.1.1 e.1.2=1) then some ⟨e.1.1,e.1.2,0⟩ else none
theorem qT (a b:Pt) (D F:Es):crossD a b (D ++ F)=crossD a b D ++ crossD a b F:=by unfold crossD;rw [List.filterMap_append]
theorem jm (a b u x:Pt) (T:Tri3):crossD a b [((u,x),T)]=if (decide (cmpP u x < 0) && decide (meetR a b u x=1))=true then [⟨u,x,0⟩] else []:=by
 unfold crossD;simp only [List.filterMap_cons,List.filterMap_nil];generalize (decide (cmpP u x < 0) && decide (meetR a b u x=1))=c
 cases c <;> rfl
theorem th (a b:Pt) (D:Es):(crossD a b D).length<=D.length:=List.length_filterMap_le _ _
theorem crossD_perm (a b:Pt) {D F:Es} (h:D.Perm F):(crossD a b D).Perm (crossD a b F):=h.filterMap _
theorem qS {a b:Pt} {D:Es} {x:Wl} (h:x∈crossD a b D):x.K=0/\cmpP x.A x.B < 0/\meetR a b x.A x.B=1/\∃ T,((x.A,x.B),T)∈D:=by
 unfold crossD at h;rw [VR] at h;obtain ⟨e,he,hx⟩:=h;split at hx
 ·rename_i hc
  simp only [JB,JA] at hc;simp only [Qi] at hx;rw [<-hx];exact ⟨rfl,hc.1,hc.2,e.2,he⟩
 ·cases hx
def fstep (a b:Pt) (E:Es) (x:Wl) (Q:List Wl):Es×List Wl:=
 match getE E (x.A,x.B),getE E (x.B,x.A) with
 | some S,some R=>
  if (flipD E x.A x.B).1≠0 then ((flipD E x.A x.B).2,Q ++ [x])
  else if meetR a b (apx S x.A x.B) (apx R x.A x.B)=1 then ((flipD E x.A x.B).2,Q ++ [⟨rl (apx S x.A x.B) (apx R x.A x.B),rg (apx S x.A x.B) (apx R x.A x.B),0⟩]) else ((flipD E x.A x.B).2,Q)
 | _,_=>(E,Q)
def forceR (a b:Pt):Nat->Es->List Wl->Es×List Wl
 | 0,E,Q=>(E,Q)
 | _+1,E,[]=>(E,[])
 | n+1,E,x :: Q=>forceR a b n (fstep a b E x Q).1 (fstep a b E x Q).2
theorem forceR_nil (a b:Pt) (E:Es):∀ n,forceR a b n E []=(E,[])
 | 0=>rfl
 | _+1=>rfl
def capN:Nat:=1000000
theorem xi {a b:Pt} {E:Es} {x:Wl} {Q:List Wl} (h:getE E (x.A,x.B)=none\/getE E (x.B,x.A)=none):fstep a b E x Q=(E,Q):=by
 unfold fstep;rcases h with h | h
 ·rw [h]
 ·rw [h];cases getE E (x.A,x.B) <;> rfl
theorem kM {a b:Pt} {E:Es} {x:Wl} {Q:List Wl} {S R:Tri3} (h0:getE E (x.A,x.B)=some S) (h1:getE E (x.B,x.A)=some R):fstep a b E x Q=if (flipD E x.A x.B).1≠0 then ((flipD E x.A x.B).2,Q ++ [x]) else if meetR a b (apx S x.A x.B) (apx R x.A x.B)=1 then ((flipD E x.A x.B).2,Q ++ [⟨rl (apx S x.A x.B) (apx R x.A x.B),rg (apx S x.A x.B) (apx R x.A x.B),0⟩]) else ((flipD E x.A x.B).2,Q):=by
 unfold fstep;rw [h0,h1]
theorem append_wls {w:World} {ops:Array Oper} {rest:List Oper} {o:Oper} {a:Act} {Q:Exit->Act->World->Prop} (hgd:o.guard=none) (s x:Operand) (ho:o.op=.call { callee:=.builtin .append,args:=#[s,x],argTypes:=#[41,41] }) (B:Nat) (v:Value) (L:List Wl) (hs:a.eval s=v) (hown:WRow w B v L) (ad:Option Addr) (n c:Nat) (M:List Wl) (hx:a.eval x=.slice ad n c) (hM:M.length=n) (hrow:RowAt cW 5 w ad M) (hfl:Flat ad) (hnn:ad≠none) (hn:L.length+n<=1000000) (hbase:B<=w.heap.size) (h:∀ w' v',WRow w' B v' (L ++ M)->w.grownBy w' v.ownBlock->wpList prog ops Q rest (a.put o.dst v') w'):wpList prog ops Q (o :: rest) a w:=by
 obtain ⟨i0,hi,hz0,hz1,hz2⟩:=info_parts xT;cases ad with
 | none=>exact absurd rfl hnn
 | some A=>
  have hA:A=⟨A.block,A.off,none⟩:=by have:=hfl A rfl;cases A;simp_all
  rw [hA] at hx hrow;refine wpList_append_own w hgd s x 41 ho B 71 i0 _ 5 40 underlying41 hi hz0 hz1 hz2 rfl (by decide) v L.length _ hs hown ⟨A.block,A.off,none⟩ n c (M.flatMap cW) hx (by rw [zS yS,hM]) (λj u hu=>by rw [Addr.add_lit];exact (hrow.flat j u hu).2) (λu hu=>by
   obtain ⟨y,_,hy⟩:=JO.1 hu;exact jA y u hy) (by unfold maxLen;omega) (by omega) hbase ?_
  intro v' w' hown' hg _;refine h w' v' ?_ hg;unfold WRow;rw [JC,Je,hM];exact hown'
theorem uU {w w' w2:World} {b:Nat} {r:Option Nat} (h:w.grownBy w' (some b)) (hg:w'.grownBy w2 r) (hr:∀ k,r=some k->w.heap.size<=k):w.grownBy w2 (some b):=
 ⟨hg.os.trans h.os,hg.tape.trans h.tape,hg.output.trans h.output,JY h.size hg.size,λk hk hn=>(hg.block k (QN hk h.size) (λe=>by have:=hr k e.symm;omega)).trans (h.block k hk hn)⟩
theorem made_row2 (w:World) (o:Obj):WRow ((w.alloc o).alloc (.cells #[] 71)) w.heap.size (.slice (some ⟨w+1,0,none⟩) 0 0) []:=by
 have h:=kl (w.alloc o) w.heap.size (by simp)
 simpa using h
def tl1 (ad:Addr) (cap:Nat):Addr:=if cap=1 then ad else ad.add 5
theorem run_tail_wal (ad:Addr) (n cap:Nat) (w:World):(Instr.slice 41 (.slice (some ad) (n+1) cap) (some (.int .i64 1)) none none).run prog w=.ok (.slice (some (tl1 ad cap)) n (cap - 1)) w:=by
 have h:=jT (some ad) (n+1) cap 1 (by omega) w;refine (show _=_ from h).trans ?_;unfold tl1;split <;> simp
attribute [local go_sem ↓ 10000] run_tail_wal
def ForcePost (b:Nat) (E:Es) (a b0:Pt) (w:World) (e:Ending) (w':World):Prop:=
 e=.returned (.tuple #[])/\∃ Q0:List Wl,Q0.Perm (crossD a b0 E)/\w.grownBy w' (some b)/\Hs w' b (forceR a b0 capN E Q0).1
theorem rforce_any (mb b:Nat) (E:Es) (L:List Tri3) (hE:E.length<=100000) (g:Good E L) (a b0:Pt) (w:World) (Bm:Box w mb [.map (some b)] 98) (Hm:Hs w b E):Calls prog 94 #[pt0 mb,a,b0] w (ForcePost b E a b0 w):=by
 have hok:∀ e∈E,okW e.1:=ZM g;have HG:=hdd g;clear g;have Fm:=Bm.f;have e1:(mb=w.heap.size+1)=False:=by have:=Bm.lt;simp;omega
 have e2:(mb=w.heap.size+1+1)=False:=by have:=Bm.lt;simp;omega
 go_enter func94,ntmps94
 go_wp2_with (at_range;refine yK _ rfl _ rfl kvR rfl (((Hm.alloc _).alloc _).alloc _) ?_)
 intro w0 HR0 hw0 hs0;have Ba0:Box w0 w [a.x,a.y] 34:=(((Box.new rfl).old _).old _).ext hw0 (by simp);have Bb0:Box w0 (w+1) [b0.x,b0.y] 34:=((Box.new (by simp)).old _).ext hw0 (by simp);have So0:DocAt w0 (w.heap.size+1+1) (.slice none 0 0) []:=⟨(Box.new (by simp)).ext hw0 (by simp),World.ownsRow_nil _ _ _ _,by simp [Value.ownBlock],by simp⟩;replace hw0:Below w w w0:=((((Below.refl w.heap.size w).alloc (JJ _) _).alloc (by simp) _).alloc (by simp;omega) _).trans (hw0.mono (by omega));clear Fm hs0 e1 e2;go_wp2
 go_loopw [] (λwr=>∃ (D R:Es) (v:Value) (L:List Wl),Hi ((D ++ R).Perm E)/\Hi (L.Perm (crossD a b0 D))/\DocAt wr (w.heap.size+1+1) v L/\Hi (∀ k,v.ownBlock=some k->w.heap.size+3<=k)/\Ranging eW eT okW wr b (w.heap.size+1+1+1) E R/\Box wr w [a.x,a.y] 34/\Box wr (w+1) [b0.x,b0.y] 34/\Below w w wr) (λwr=>wr.rangeLeft b (w.heap.size+1+1+1))
 case atStart=>exact ⟨[],E,_,[],hdd (by simp),hdd (.refl _),So0,hdd (by simp [Value.ownBlock]),by simpa using HR0,Ba0,Bb0,hw0⟩
 case round=>
  clear HR0 hw0 So0 Ba0 Bb0;obtain ⟨D,R,v,L,hD,hL,So,hB,HR,Ba,Bb,hw⟩:=hrel;go_wp2_with (at_next;refine yN _ rfl _ rfl rfl HR ?_ ?_)
  ·intro hR;subst hR;have hp0:=hdd (show L.Perm (crossD a b0 E) from hL.o.trans (crossD_perm a b0 (by simpa using hD.o)));have hlE:=hdd (show L.length<=100000 by rw [hp0.o.length_eq];exact JY (th a b0 E) hE);obtain ⟨a1,c',rfl,Dr,hz⟩:=So.rd;have Fo:=Dr.box.f;have hown:WRow wr (w.heap.size+2) (.slice a1 L.length c') L:=by
    rcases So.row.box with ⟨e1,e2⟩ | ⟨g,cap,tl,e1,_,k1,k2,k3,k4⟩
    ·rw [e1,e2];exact WRow.nil0 _ _
    ·rw [e1];exact WRow.of_box (by have:=hB.o g (by rw [e1];rfl);omega) k1 k2 k3 k4
   have HK0:=hdd (show ∀ x∈L,okW (x.A,x.B) from λx hx=>by
    obtain ⟨_,_,_,T,hT⟩:=qS (hp0.o.mem_iff.1 hx);exact hok _ hT)
   have Hb:=HR.holds;have HQ0:=hdd (show ∃ L1,Good E L1 from ⟨_,HG.o⟩);have HP0:=hdd (show forceR a b0 (capN - 0) E L=forceR a b0 capN E L by rw [Nat.sub_zero]);have hg0:w.grownBy wr (some b):=zM hw _;clear So Dr hz HR hw hB hL hD HG;go_wp2
   go_loopw [8,9] (λv8 v9 wr=>∃ (k:Nat) (E1:Es) (Q:List Wl),v9=.int .i64 k/\k<=1000000/\WRow wr (w.heap.size+2) v8 Q/\Hi (Q.length<=100000)/\Hi (∀ x∈Q,okW (x.A,x.B))/\Hs wr b E1/\Hi (∃ L1,Good E1 L1)/\Hi (forceR a b0 (capN - k) E1 Q=forceR a b0 capN E L)/\Box wr w [a.x,a.y] 34/\Box wr (w+1) [b0.x,b0.y] 34/\w.grownBy wr (some b)) (λ_ v9 _=>1000000 - (intOf v9).toNat)
   case atStart=>exact ⟨0,E,L,rfl,Jl _,hown,hlE,HK0,Hb,HQ0,HP0,Ba,Bb,hg0⟩
   case round=>
    clear hown hlE Hb HQ0 HP0 Ba Bb hg0 HK0 Fo;obtain ⟨k,E1,Q,rfl,hk,hown,hlE,HK0,Hb,HQ0,HP0,Ba,Bb,hg0⟩:=hrel;cases Q with
    | nil=>
     obtain ⟨a8,c8,rfl,_,_⟩:=hown.row;have HE:=hdd (show (forceR a b0 capN E L).1=E1 by rw [<-HP0.o,forceR_nil]);go_wp2;exact bodyPost_end (results_none rfl _ _ _) rfl ⟨rfl,L,hp0.o,hg0,by rw [HE.o];exact Hb⟩
    | cons x Q=>
     by_cases hlt:k < 1000000
     case neg=>
      obtain ⟨a8,c8,rfl,_,_⟩:=hown.row;have q1:decide ((k:Int) < 1000000)=false:=by simp;omega
      have q2:decide (0 < (Q.length:Int)+1)=true:=Qk (by omega);have HE:=hdd (show (forceR a b0 capN E L).1=E1 by rw [<-HP0.o,show capN - k=0 by unfold capN;omega];rfl);clear hlt;go_wp2;exact bodyPost_end (results_none rfl _ _ _) rfl ⟨rfl,L,hp0.o,hg0,by rw [HE.o];exact Hb⟩
     case pos=>
      have q1:decide ((k:Int) < 1000000)=true:=by simp;omega
      have HF:=hdd (show forceR a b0 (capN - (k+1)) (fstep a b0 E1 x Q).1 (fstep a b0 E1 x Q).2=forceR a b0 capN E L by
       rw [<-HP0.o,show capN - k=capN - (k+1)+1 by unfold capN;omega];rfl)
      clear HP0;obtain ⟨a8,c8,rfl,hr8,hf8⟩:=hown.row;obtain ⟨m,hm⟩:∃ m,Q.length=m:=⟨_,rfl⟩;have HM:=hdd hm;have hn8:(x :: Q).length=m+1:=by rw [JW,hm]
      have hnc:m+1<=c8:=by
       rcases hown.box with ⟨e1,e2⟩ | ⟨g,cap,tl,e1,_,_,k2,_⟩
       ·cases e2
       ·simp only [Value.slice.injEq] at e1;omega
      obtain ⟨ad,A,ea,eA,hA⟩:=hr8.five (j:=0) (by simp);subst ea;obtain ⟨ad1,hd1,hr1,hf1,hz1⟩:=jO (k:=1) hr8 hn8 hnc hf8 (by omega) (λe=>by cases e);have e1:ad1=some (tl1 ad c8):=by rw [<-hd1];unfold tl1;split <;> simp
      rw [e1] at hr1 hf1;have hnn:some (tl1 ad c8)≠none:=by simp
      rw [hn8];have q2:decide (0 < (m:Int)+1)=true:=Qk (by omega);simp only [dP1,dP0] at hr1;have hA:Five wr A x:=hA;have hAb:=hA.1;obtain ⟨zA,d0,d1,d2,d3,d4⟩:=hA.f;have hle2:([]:List Wl).length+m<=1000000:=by have:=hlE.o;rw [JW,hm] at this;simp;omega
      clear e1 hd1 hz1 hown hf8 hr8 hnc hn8 hA hk;go_wp2_with (
       at_builtin
       (refine append_wls rfl _ _ rfl wr.heap.size (.slice (some ⟨wr+1,0,none⟩) 0 0) [] rfl (made_row2 wr _) _ m (c8 - 1) Q rfl HM.o ((hr1.old _).old _) hf1 hnn hle2 (by simp;omega) ?_)
       intro w4 v4 hown4 hg4;have hne:∀ k,(Value.slice (some ⟨wr+1,0,none⟩) 0 0).ownBlock=some k->k=wr.heap.size+1:=λk hk=>by have hk':some (wr.heap.size+1)=some k:=hk;cases hk';rfl
       have lA:=Ba.lt;have lB:=Bb.lt;have Bw:Box w4 wr [x.A.x,x.A.y,x.B.x,x.B.y,x.K] 71:=((Box.new rfl).old _).grown2 hg4 (λk hk=>by have:=hne k hk;omega);have Ba4:=((Ba.old _).old _).grown2 hg4 (λk hk=>by have:=hne k hk;omega);have Bb4:=((Bb.old _).old _).grown2 hg4 (λk hk=>by have:=hne k hk;omega);have hw:Below wr wr w4:=(((Below.refl wr.heap.size wr).alloc (JJ _) _).alloc (by simp) _).grown hg4 (by simp;omega) (λk hk=>by have:=hne k hk;omega);rw [Jz] at hown4;have hwr2:=hdd (show w.heap.size+1 < wr.heap.size from lB);clear hne lA lB Ba Bb hg4 zA d0 d1 d2 d3 d4 hr1;have Fw:=Bw.f;have Fa:=Ba4.f;have Fb:=Bb4.f)
      have hkx:okW (x.A,x.B):=HK0.o x (by simp);have HKQ:=hdd (show ∀ y∈Q,okW (y.A,y.B) from λy hy=>HK0.o y (JN _ hy));have HXK:=hdd hkx;have hl2:=hdd (show Q.length+1<=100000 by have:=hlE.o;rw [JW] at this;exact this);have B4:Box w4 mb [.map (some b)] 98:=(Bm.turn Hm hg0).ee hw;have H4:=Hb.ee hw;have hg4:=zO hg0 hw;have hrz:=hdd (show w.heap.size+2<=wr.heap.size by have:=hwr2.o;omega);have own4:=hown4.base (show w.heap.size+2<=wr.heap.size from hrz.o);have Ba:=Ba4;have Bb:=Bb4;clear hw Hb hg0 HK0 hlE hnn hf1 Ba4 Bb4;have hw:Below w4 w4 w4:=Below.refl _ _;have cl:=zZ mb b E1 x.A x.B hkx;have cr:=zZ mb b E1 x.B x.A ⟨hkx.2,hkx.1⟩;clear hkx;cases h0:getE E1 (x.A,x.B) with
      | none=>
       have HFN:=hdd (show forceR a b0 (capN - (k+1)) E1 Q=forceR a b0 capN E L by rw [<-HF.o,xi (.inl h0)]);rw [yW h0] at cl;generalize lftE E1 x.B x.A=Z at cr
       obtain ⟨Y,y⟩:=Z;dsimp only at cr;clear HF h0;clear Fw Fa Fb;refine qC3 (cl _ (B4.ee hw) (H4.ee hw)) Bw Ba Bb hw λw51 Bw Ba Bb hw Hj=>?_;go_wp2_with fail;clear Hj;refine zI λW52 hW=>?_;obtain ⟨bks,hbs⟩:∃ b,w51.heap.size=b:=⟨_,rfl⟩;rw [hbs];obtain ⟨lws,las,lbs,fs,Bs,Bw,Ba,Bb,hw⟩:=qM3 hW hbs Bw Ba Bb hw;clear hW hbs;refine qK4 (cr _ (B4.ee hw) (H4.ee hw)) Bw Ba Bb Bs hw λw53 Bw Ba Bb Bs hw=>?_;have Fw:=Bw.f;have Fa:=Ba.f;have Fb:=Bb.f;have Fs:=Bs.f;go_wp2
       go_roundw
       case rel=>exact ⟨k+1,E1,Q,by go_num,by omega,own4.ext (by have hl:=hw.size;go_grown) rfl,hdd (by have:=hl2.o;omega),HKQ,H4.ext (by have hl:=hw.size;go_grown) rfl,HQ0,HFN,Ba.ext (by have hl:=hw.size;go_grown) rfl,Bb.ext (by have hl:=hw.size;go_grown) rfl,zO hg4 (by have hl:=hw.size;go_grown)⟩
       case measure=>simp [intOf];omega
      | some S=>
       rw [zf h0] at cl;cases h1:getE E1 (x.B,x.A) with
       | none=>
        have HFN:=hdd (show forceR a b0 (capN - (k+1)) E1 Q=forceR a b0 capN E L by rw [<-HF.o,xi (.inr h1)]);rw [yW h1] at cr;clear HF h0 h1;clear Fw Fa Fb;refine qC3 (cl _ (B4.ee hw) (H4.ee hw)) Bw Ba Bb hw λw51 Bw Ba Bb hw Hj=>?_;go_wp2_with fail;clear Hj;refine zI λW52 hW=>?_;obtain ⟨bks,hbs⟩:∃ b,w51.heap.size=b:=⟨_,rfl⟩;rw [hbs];obtain ⟨lws,las,lbs,fs,Bs,Bw,Ba,Bb,hw⟩:=qM3 hW hbs Bw Ba Bb hw;clear hW hbs;refine qK4 (cr _ (B4.ee hw) (H4.ee hw)) Bw Ba Bb Bs hw λw53 Bw Ba Bb Bs hw=>?_;have Fw:=Bw.f;have Fa:=Ba.f;have Fb:=Bb.f;have Fs:=Bs.f;go_wp2
        go_roundw
        case rel=>exact ⟨k+1,E1,Q,by go_num,by omega,own4.ext (by have hl:=hw.size;go_grown) rfl,hdd (by have:=hl2.o;omega),HKQ,H4.ext (by have hl:=hw.size;go_grown) rfl,HQ0,HFN,Ba.ext (by have hl:=hw.size;go_grown) rfl,Bb.ext (by have hl:=hw.size;go_grown) rfl,zO hg4 (by have hl:=hw.size;go_grown)⟩
        case measure=>simp [intOf];omega
       | some R=>
        rw [zf h1] at cr;have HS:=hdd (kM (a:=a) (b:=b0) (Q:=Q) h0 h1);have HGD:=hdd (show ∃ L1,Good (flipD E1 x.A x.B).2 L1 from by obtain ⟨L1,g1⟩:=HQ0.o;exact good_flipD g1 _ _);have HVC:=hdd (show vld (apx S x.A x.B)=true/\vld (apx R x.A x.B)=true from by obtain ⟨L1,g1⟩:=HQ0.o;obtain ⟨_,_,_,_,_,v1,v2⟩:=qP g1 h0 h1;exact ⟨v1,v2⟩);obtain ⟨L1,g1⟩:=HQ0.o;have cf:=λw0 B1 H1=>rflip_any mb b E1 L1 g1 x.A x.B HXK.o w0 B1 H1;clear g1 HQ0 L1;have k1:=xB S x.A x.B;have k2:=xB R x.A x.B;generalize apx S x.A x.B=C at *
        generalize apx R x.A x.B=D at *
        generalize flipD E1 x.A x.B=RE at *
        obtain ⟨r,E2⟩:=RE;dsimp only at cf HS HGD;clear h0 h1;clear Fw Fa Fb;refine qC3 (cl _ (B4.ee hw) (H4.ee hw)) Bw Ba Bb hw λw51 Bw Ba Bb hw Hj=>?_;go_wp2_with fail;clear Hj;refine zI λW52 hW=>?_;obtain ⟨bks,hbs⟩:∃ b,w51.heap.size=b:=⟨_,rfl⟩;rw [hbs];obtain ⟨lws,las,lbs,fs,Bs,Bw,Ba,Bb,hw⟩:=qM3 hW hbs Bw Ba Bb hw;clear hW hbs;refine qC4 (cr _ (B4.ee hw) (H4.ee hw)) Bw Ba Bb Bs hw λw53 Bw Ba Bb Bs hw RQ=>?_;go_wp2_with fail;clear RQ;refine zG λW54 hW=>?_;obtain ⟨bkt,hbt⟩:∃ b,w53.heap.size=b:=⟨_,rfl⟩;rw [hbt];obtain ⟨lwt,lat,lbt,lst,ft,Bt,Bw,Ba,Bb,Bs,hw⟩:=qM4 hW hbt Bw Ba Bb Bs hw;clear hW hbt;have gw:=Bw.cells;have ga:=Ba.cells;have gb:=Bb.cells;have gs:=Bs.cells;have gt:=Bt.cells;refine zn 14 [⟨12,15,34,[(),()]⟩,⟨13,16,34,[(),()]⟩] ?_ (by kernel_rfl) (by decide) (by decide) (by kernel_rfl) (by decide) (C:=λw'=>∃ p:Regrown,w'=grow (redrawn W54 p.d) p.os) rgB ?_
        ·simp only [QT];refine ⟨⟨_,rfl,rfl,rfl,rfl,λρ W=>by simp [execOp,go_sem]⟩,⟨_,rfl,rfl,rfl,rfl,λρ W=>by simp [execOp,go_sem]⟩,λ_ h=>(by cases h)⟩
        simp only [Q5,Qd,Jm,Qw,dropIdx,Qe,Qj,Nat.reduceBEq,Nat.reduceAdd,V6,VF,VG,QA,VZ,VT];refine wkx ?_;intro w55 β hL;simp only [putD,QY,QZ];have qc:=hL.box ⟨12,15,34,[(),()]⟩ (by simp) (by simp);simp only at qc;have qd:=hL.box ⟨13,16,34,[(),()]⟩ (by simp) (by simp);simp only at qd;have ncd:=hL.apart 15 (by simp) 16 (by simp) (by decide);have ndc:=hL.apart 16 (by simp) 15 (by simp) (by decide);have hb:=hL.below;have lw:=Bw.lt;have la:=Ba.lt;have lb:=Bb.lt;have ls:=Bs.lt;have lt:=Bt.lt;clear gw ga gb gs gt;replace Bw:=Bw.ee hb;replace Ba:=Ba.ee hb;replace Bb:=Bb.ee hb;replace Bs:=Bs.ee hb;replace Bt:=Bt.ee hb;have hw0:=hw.size;replace hw:=upB hw hb;clear hb hL;generalize β 15=bkc at *
        generalize β 16=bkd at *
        clear β;obtain ⟨fc,Bc⟩:=qc;obtain ⟨fd,Bd⟩:=qd;simp only [Act.put];have Fc:=Bc.f;have Fd:=Bd.f;have Fw:=Bw.f;have Fa:=Ba.f;have Fb:=Bb.f;have Fs:=Bs.f;have Ft:=Bt.f;have ewbkc:(wr.heap.size=bkc)=False:=by simp;omega
        have ewbkc':(bkc=wr.heap.size)=False:=by simp;omega
        have ewbkd:(wr.heap.size=bkd)=False:=by simp;omega
        have ewbkd':(bkd=wr.heap.size)=False:=by simp;omega
        have eabkc:(w.heap.size=bkc)=False:=by simp;omega
        have eabkc':(bkc=w.heap.size)=False:=by simp;omega
        have eabkd:(w.heap.size=bkd)=False:=by simp;omega
        have eabkd':(bkd=w.heap.size)=False:=by simp;omega
        have ebbkc:(w.heap.size+1=bkc)=False:=by simp;omega
        have ebbkc':(bkc=w.heap.size+1)=False:=by simp;omega
        have ebbkd:(w.heap.size+1=bkd)=False:=by simp;omega
        have ebbkd':(bkd=w.heap.size+1)=False:=by simp;omega
        have esbkc:(bks=bkc)=False:=by simp;omega
        have esbkc':(bkc=bks)=False:=by simp;omega
        have esbkd:(bks=bkd)=False:=by simp;omega
        have esbkd':(bkd=bks)=False:=by simp;omega
        have etbkc:(bkt=bkc)=False:=by simp;omega
        have etbkc':(bkc=bkt)=False:=by simp;omega
        have etbkd:(bkt=bkd)=False:=by simp;omega
        have etbkd':(bkd=bkt)=False:=by simp;omega
        have ebkcbkd:(bkc=bkd)=False:=by simp;omega
        have ebkdbkc:(bkd=bkc)=False:=by simp;omega
        go_wp2_with fail;refine zI λW56 hW=>?_;replace Bw:=sto Bw hW;replace Ba:=sto Ba hW;replace Bb:=sto Bb hW;replace Bs:=sto Bs hW;replace Bt:=sto Bt hW;replace Bc:=sto Bc hW;replace Bd:=sto Bd hW;replace hw:=stw hw hW;clear Fc Fd;clear Fw Fa Fb Fs Ft ewbkc ewbkc' ewbkd ewbkd' eabkc eabkc' eabkd eabkd' ebbkc ebbkc' ebbkd ebbkd' esbkc esbkc' esbkd esbkd' etbkc etbkc' etbkd etbkd' ebkcbkd ebkdbkc;clear hW;refine (cf _ (B4.ee hw) (H4.ee hw)).mono ?_;rintro e w90 ⟨rfl,hh,H6⟩;have HX:=H4.ee hw;replace Bw:=Bw.turn HX hh;replace Ba:=Ba.turn HX hh;replace Bb:=Bb.turn HX hh;replace Bs:=Bs.turn HX hh;replace Bt:=Bt.turn HX hh;replace Bc:=Bc.turn HX hh;replace Bd:=Bd.turn HX hh;have own6:=(own4.ee hw).kept hh (.inr (λe=>yF (own4.ee hw) HX e.symm));have hg6:=zR (zO hg4 hw) hh;clear hw hh HX own4 H4 B4 hg4 cf k1 k2;have hw:Below w90 w90 w90:=Below.refl _ _;have hle:Q.length<=1000000:=by have:=hl2.o;omega
        by_cases hr:r=0
        case neg=>
         have hr1:(r != 0)=true:=by simp;exact hr
         have HFN:=hdd (show forceR a b0 (capN - (k+1)) E2 (Q ++ [x])=forceR a b0 capN E L by rw [<-HF.o,HS.o,JH hr]);have hbz:w.heap.size+2<=w90.heap.size:=by have:=Bb.lt;omega
         clear HF HS hr;have Fw:=Bw.f;have Fa:=Ba.f;have Fb:=Bb.f;have Fs:=Bs.f;have Ft:=Bt.f;have Fc:=Bc.f;have Fd:=Bd.f;go_wp2_with (at_builtin;refine jQ rfl _ _ rfl (w.heap.size+2) _ Q rfl (own6.alloc _) w90.heap.size x rfl (Box.new rfl) hle (by simp;omega) ?_;intro w91 v91 own8 hg8 hn8)
         clear Fw Fa Fb Fs Ft Fc Fd;have hlt:=λq hq=>(((own6.ee hw).alloc (.cells (cW x).toArray 71)).lt q hq).1;have hla:Below w90 w90 (w90.alloc (.cells (cW x).toArray 71)):=by have hl:=hw.size;go_grown
         have H7:=(H6.ee hla).kept hg8 (yF ((own6.ee hw).alloc (.cells (cW x).toArray 71)) (H6.ee hla));have Ba7:=(Ba.old _).grown2 hg8 (λq hq=>by have:=hlt q hq;omega);have Bb7:=(Bb.old _).grown2 hg8 (λq hq=>by have:=hlt q hq;omega);have hg7:=uU (zO hg6 hla) hg8 (λq hq=>by have:=hlt q hq;omega);clear hlt hla hg8 hn8 H6 own6 hg6 Ba Bb hw
         go_roundw
         case rel=>exact ⟨k+1,E2,Q ++ [x],by go_num,by omega,own8,hdd (by have:=hl2.o;simp;omega),hdd (λy hy=>by rcases JM.1 hy with h | h;exact HKQ.o y h;rw [QP.1 h];exact HXK.o),H7,HGD,HFN,Ba7,Bb7,hg7⟩
         case measure=>simp [intOf];omega
        case pos=>
         subst hr;have cm:=uG a b0 C D;have Fw:=Bw.f;have Fa:=Ba.f;have Fb:=Bb.f;have Fs:=Bs.f;have Ft:=Bt.f;have Fc:=Bc.f;have Fd:=Bd.f;go_wp2_with fail;refine (cm _).mono ?_;rintro e w57 ⟨rfl,hb⟩;clear Fw Fa Fb Fs Ft Fc Fd;replace Bw:=Bw.ee hb;obtain ⟨Ba,Bb,Bs,Bt,Bc,Bd,hw,-⟩:=qX6 Ba Bb Bs Bt Bc Bd hw hb;clear hb;cases hm:decide (meetR a b0 C D=1)
         case false=>
          have hm1:(meetR a b0 C D == 1)=false:=by simpa using hm
          have HFN:=hdd (show forceR a b0 (capN - (k+1)) E2 Q=forceR a b0 capN E L by rw [<-HF.o,HS.o,J0 (by simp),J0 (by simpa using hm)]);clear HF HS hm;have Fw:=Bw.f;have Fa:=Ba.f;have Fb:=Bb.f;have Fs:=Bs.f;have Ft:=Bt.f;have Fc:=Bc.f;have Fd:=Bd.f;go_wp2
          go_roundw
          case rel=>exact ⟨k+1,E2,Q,by go_num,by omega,own6.ext (by have hl:=hw.size;go_grown) rfl,hdd (by have:=hl2.o;omega),HKQ,H6.ext (by have hl:=hw.size;go_grown) rfl,HGD,HFN,Ba.ext (Below.refl _ _) rfl,Bb.ext (Below.refl _ _) rfl,zO hg6 (by have hl:=hw.size;go_grown)⟩
          case measure=>simp [intOf];omega
         case true=>
          have hm1:(meetR a b0 C D == 1)=true:=by simpa using hm
          have HFN:=hdd (show forceR a b0 (capN - (k+1)) E2 (Q ++ [⟨rl C D,rg C D,0⟩])=forceR a b0 capN E L by rw [<-HF.o,HS.o,J0 (by simp),JH (by simpa using hm)]);have HKN:=hdd (show okW (rl C D,rg C D) from by
           unfold rl rg;split
           ·exact ⟨yY HVC.o.1,yY HVC.o.2⟩
           ·exact ⟨yY HVC.o.2,yY HVC.o.1⟩)
          have k3:=ju C D;have k4:=jv C D;generalize rl C D=U at *
          generalize rg C D=V at *
          clear HF HS hm;have Fw:=Bw.f;have Fa:=Ba.f;have Fb:=Bb.f;have Fs:=Bs.f;have Ft:=Bt.f;have Fc:=Bc.f;have Fd:=Bd.f;go_wp2_with fail;have gw:=Bw.cells;have ga:=Ba.cells;have gb:=Bb.cells;have gs:=Bs.cells;have gt:=Bt.cells;have gc:=Bc.cells;have gd:=Bd.cells;have hcB:∀ w',(∃ p:Regrown,w'=grow (redrawn w57 p.d) p.os)->Below w57 w57 w':=λw' h=>by obtain ⟨p,rfl⟩:=h;exact below_regrown _ _ _
          refine FT.wp_region_flow 9 (.run 0 (.run 1 (.run 2 (.run 4 (.run 5 (.alt 3 (.alt 6 (.run 7 (.alt 8 .tail .stop)) .stop) .stop)))))) rfl (by kernel_rfl) (λ_ x _ _ _ h=>by cases x <;> exact h) (C:=λw'=>∃ p:Regrown,w'=grow (redrawn w57 p.d) p.os) rgB hcB ?_;have hC:∀ x y,Ext x y->(∃ p:Regrown,x=grow (redrawn w57 p.d) p.os)->(∃ p:Regrown,y=grow (redrawn w57 p.d) p.os):=λx y h1 h2=>regrown_of_below ((hcB x h2).trans (h1.mono (hcB x h2).size))
          iterate 5 (refine FT.flow_run rfl (λK hK=>?_);go_simp;first | (refine hK _ ?_;clear hK K) | (apply Exists.intro;refine ⟨λ_=>?_,hK _ ?_⟩;rotate_left;clear hK K))
          refine FT.flow_at hC rfl trivial (λw71 hw71 K hK=>?_);go_simp;refine (k3 w71).mono ?_;rintro e w72 ⟨rfl,hb2⟩;have hb3:=Below.trans hw71 (hb2.mono (Below.size hw71));go_simp;refine hK _ _ (regrown_of_below hb3) ?_;clear hK K;refine FT.flow_at hC rfl trivial (λw73 hw73 K hK=>?_);have hb4:=(upB hb3 hw73);go_simp;refine (k4 w73).mono ?_;rintro e w74 ⟨rfl,hb5⟩;have hb6:=(upB hb4 hb5);go_simp;refine hK _ _ (regrown_of_below hb6) ?_;clear hK K
          iterate 1 (refine FT.flow_run rfl (λK hK=>?_);go_simp;first | (refine hK _ ?_;clear hK K) | (apply Exists.intro;refine ⟨λ_=>?_,hK _ ?_⟩;rotate_left;clear hK K))
          refine FT.flow_at hC rfl trivial (λw75 hw75 K hK=>?_);have hb7:=(upB hb6 hw75);go_simp;have hb8:=hb7.alloc hb7.size (.cells #[U.x,U.y,V.x,V.y,()] 71);obtain ⟨bz,hbz0⟩:∃ bv,w75.heap.size=bv:=⟨_,rfl⟩;have Bz0:Box (w75.alloc (.cells #[U.x,U.y,V.x,V.y,()] 71)) bz [U.x,U.y,V.x,V.y,()] 71:=by rw [<-hbz0];exact Box.new rfl
          refine hK _ _ (regrown_of_below hb8) ?_;clear hK K;rw [hbz0];generalize hw8:w75.alloc (.cells #[U.x,U.y,V.x,V.y,()] 71)=w76 at *
          clear hw8 hbz0 hw75 hw73 hw71 hb2 hb3 hb4 hb5 hb6 hb7 hcB hC k3 k4;intro w77 hw77;have hb9:=(upB hb8 hw77);have Bz:=Bz0.ee hw77;simp only [dP1,dP0];clear Fw Fa Fb Fs Ft Fc Fd;replace Bw:=Bw.ee hb9;replace Ba:=Ba.ee hb9;replace Bb:=Bb.ee hb9;replace Bs:=Bs.ee hb9;replace Bt:=Bt.ee hb9;replace Bc:=Bc.ee hb9;replace Bd:=Bd.ee hb9;clear gw ga gb gs gt gc gd;replace hw:=upB hw hb9;clear hb9 hb8 hw77 Bz0;have own7:=own6.ee hw;have H7:=H6.ee hw;have hg7:=zO hg6 hw;have hbz:w.heap.size+2<=w77.heap.size:=by have:=Bb.lt;omega
          clear hw own6 H6 hg6;go_wp2_with (at_builtin;refine jQ rfl _ _ rfl (w.heap.size+2) _ Q rfl own7 bz ⟨U,V,0⟩ rfl Bz hle hbz ?_;intro w91 v91 own8 hg8 hn8)
          have hlt:=λq hq=>(own7.lt q hq).1;have H8:=H7.kept hg8 (yF own7 H7);have Ba7:=Ba.grown2 hg8 (λq hq=>by have:=hlt q hq;omega);have Bb7:=Bb.grown2 hg8 (λq hq=>by have:=hlt q hq;omega);have hg9:=uU hg7 hg8 (λq hq=>by have:=hlt q hq;omega);clear hlt hg8 hn8 H7 own7 hg7 Ba Bb Bz
          go_roundw
          case rel=>exact ⟨k+1,E2,Q ++ [⟨U,V,0⟩],by go_num,by omega,own8,hdd (by have:=hl2.o;simp;omega),hdd (λy hy=>by rcases JM.1 hy with h | h;exact HKQ.o y h;rw [QP.1 h];exact HKN.o),H8,HGD,HFN,Ba7,Bb7,hg9⟩
          case measure=>simp [intOf];omega
  ·intro u x T R' w1 hperm HR1 hg1 hs1 hen;have hD2:=hdd (show ((D ++ [((u,x),T)]) ++ R').Perm E by have:=(hperm.append_left D).symm.trans hD.o;simpa using this);have hk:okW (u,x):=hok ((u,x),T) (hD2.o.mem_iff.1 (by simp));have So1:DocAt w1 (w.heap.size+1+1) v L:=⟨So.box.grown2 hg1 (λk hk=>by cases hk;omega),So.row.kept hg1 (.inr (λe=>zw So.row HR e.symm)),So.ne,So.le⟩;have Ba1:=Ba.grown2 hg1 (λk hk=>by cases hk;omega);have Bb1:=Bb.grown2 hg1 (λk hk=>by cases hk;omega);have hw1:=hw.grown hg1 hw.size (λk hk=>by cases hk;omega);have HL:=hdd (show w1.rangeLeft b (w.heap.size+1+1+1) < wr.rangeLeft b (w.heap.size+1+1+1) by rw [zT HR1,zT HR,hperm.length_eq];simp);have hen2:(Instr.entry (.pointer (some ⟨w+1+1+1,0,none⟩))).run prog w1=.ok (.tuple #[.agg #[u.x,u.y,x.x,x.y],T]) w1:=hen;have hle:L.length < 1000000:=by have:=hL.o.length_eq;have:=th a b0 D;have:=hD2.o.length_eq;simp at *;omega
   have hgk:∀ X∈L,0<=X.K/\X.K<=2:=λX hX=>by have:=(qS (hL.o.mem_iff.1 hX)).1;omega
   clear So HR hg1 hs1 hen hperm hw Ba Bb;go_wp2_with fail;refine zI λW2 hW=>?_;have Be:Box W2 w1 [u.x,u.y,x.x,x.y] 100:=by rw [hW];exact Box.new rfl
   have hw2:Below w1 w1 W2:=by rw [hW];go_grown
   clear hW;have So2:=So1.ee hw2;have HR2:=HR1.ee hw2;have Ba2:=Ba1.ee hw2;have Bb2:=Bb1.ee hw2;have hwx:=(upB hw1 hw2);have HL2:=hdd (show W2.rangeLeft b (w.heap.size+1+1+1) < wr.rangeLeft b (w.heap.size+1+1+1) by rw [zT HR2,<-zT HR1];exact HL.o);clear So1 HR1 hw1 hw2 HL Ba1 Bb1;refine (zV u x _).mono ?_;rintro e w3 ⟨rfl,hb⟩;replace Be:=Be.ee hb;have Ba3:=Ba2.ee hb;have Bb3:=Bb2.ee hb;replace So2:=So2.ee hb;have HR3:=HR2.ee hb;replace hwx:=upB hwx hb;have HL3:=hdd (show w3.rangeLeft b (w.heap.size+1+1+1) < wr.rangeLeft b (w.heap.size+1+1+1) by rw [zT HR3,<-zT HR2];exact HL2.o);have HF:=hdd (λ(h1:decide (cmpP u x < 0)=false)=>show L.Perm (crossD a b0 (D ++ [((u,x),T)])) by
    rw [qT,jm,h1,Bool.false_and,J0 (by decide),Ji];exact hL.o)
   have HG2:=hdd (λ(h1:decide (meetR a b0 u x=1)=false)=>show L.Perm (crossD a b0 (D ++ [((u,x),T)])) by
    rw [qT,jm,h1,Bool.and_false,J0 (by decide),Ji];exact hL.o)
   have HH:=hdd (λ(h1:decide (cmpP u x < 0)=true) (h2:decide (meetR a b0 u x=1)=true)=>show ∀ k,(L.take k ++ (⟨u,x,0⟩:Wl) :: L.drop k).Perm (crossD a b0 (D ++ [((u,x),T)])) from λk=>by
    rw [qT,jm,h1,h2,Qq,JH rfl];exact (xV k).trans ((hL.o.cons _).trans (Jq (l₁:=[(⟨u,x,0⟩:Wl)]))))
   clear hb HR2 HL2 hL Ba2 Bb2;have cm:=λw0=>uG a b0 u x w0;have Fe:=Be.f;have Fa:=Ba3.f;have Fb:=Bb3.f;cases h1:decide (cmpP u x < 0) with
   | false=>
    have HQ:=hdd (HF.o h1);clear HF HG2 HH;go_wp2
    go_roundw
    case rel=>exact ⟨D ++ [((u,x),T)],R',v,L,hD2,HQ,So2,hB,HR3,Ba3,Bb3,hwx⟩
    case measure=>exact HL3.o
   | true=>
    have HH:=hdd (HH.o h1);clear HF;go_wp2_with fail;refine (cm _).mono ?_;rintro e w4 ⟨rfl,hb⟩;clear Fe Fa Fb;replace Be:=Be.ee hb;have Ba4:=Ba3.ee hb;have Bb4:=Bb3.ee hb;have So4:=So2.ee hb;have HR4:=HR3.ee hb;have hw4:=(upB hwx hb);have HL4:=hdd (show w4.rangeLeft b (w.heap.size+1+1+1) < wr.rangeLeft b (w.heap.size+1+1+1) by rw [zT HR4,<-zT HR3];exact HL3.o);clear hb So2 HR3 hwx HL3 Ba3 Bb3 cm;have Fe:=Be.f;cases h2:decide (meetR a b0 u x=1) with
    | false=>
     have HQ:=hdd (HG2.o h2);have hm:(meetR a b0 u x == 1)=false:=by simpa using h2
     clear HG2 HH;go_wp2
     go_roundw
     case rel=>exact ⟨D ++ [((u,x),T)],R',v,L,hD2,HQ,So4,hB,HR4,Ba4,Bb4,hw4⟩
     case measure=>exact HL4.o
    | true=>
     have HQ:=hdd (HH.o h2);have hm:(meetR a b0 u x == 1)=true:=by simpa using h2
     have hwz:=hw4.size;have hwy:=hdd (show w.heap.size+3<=w4.heap.size by have:=Bb4.lt;have:=So4.box.lt;omega);clear HG2 HH h2;have cp:=xq (w.heap.size+1+1) v L ⟨u,x,0⟩ hle hgk ⟨by show (0:Int)<=0;decide,by show (0:Int)<=2;decide⟩ w4 So4;go_wp2_with fail;refine cp.mono ?_;rintro e w5 ⟨k,v',rfl,hk5,So5,hf5,hv5⟩;have hg5:=hf5.grown;have HR5:=HR4.kept hg5 (λe=>So4.box.ne_map HR4.holds (JU e).symm) (by simp);have Ba5:=Ba4.grown2 hg5 (λk hk=>by cases hk;omega);have Bb5:=Bb4.grown2 hg5 (λk hk=>by cases hk;omega);have hw5:=hf5.below (n:=w.heap.size) (λk hk=>by have hk:k=w.heap.size+1+1:=hk;omega) hw4.size;have HL5:=hdd (show w5.rangeLeft b (w.heap.size+1+1+1) < wr.rangeLeft b (w.heap.size+1+1+1) by rw [zT HR5,<-zT HR4];exact HL4.o);have HP:=hdd (HQ.o k);have hB5:=hdd (show ∀ k,v'.ownBlock=some k->w.heap.size+3<=k from λk hk=>by
      have:=hv5 k hk;have:=hwy.o;omega)
     clear Fe cp HQ hf5 hg5 hwz;go_wp2
     go_roundw
     case rel=>exact ⟨D ++ [((u,x),T)],R',v',_,hD2,HP,So5,hB5,HR5,Ba5,Bb5,hw4.trans hw5⟩
     case measure=>exact HL5.o
end
theorem ZW (p a b:Pt):tch p a b=0\/tch p a b=2:=by unfold tch;(repeat' split) <;> simp
theorem mx4_two {a b c d:Int} (ha:a=0\/a=2) (hb:b=0\/b=2) (hc:c=0\/c=2) (hd:d=0\/d=2):mx4 a b c d≠1:=by
 rcases ha with rfl | rfl <;> rcases hb with rfl | rfl <;> rcases hc with rfl | rfl <;> rcases hd with rfl | rfl <;> decide
theorem kP {a b c d:Pt}:meetR a b c d=1↔(vld a=true/\vld b=true/\vld c=true/\vld d=true)/\((0 < det a b c/\det a b d < 0)\/(det a b c < 0/\0 < det a b d))/\((0 < det c d a/\det c d b < 0)\/(det c d a < 0/\0 < det c d b)):=by
 unfold meetR;cases va:vld a with
 | false=>simp
 | true=>
  cases vb:vld b with
  | false=>simp
  | true=>
   cases vc:vld c with
   | false=>simp
   | true=>
    cases vd:vld d with
    | false=>simp
    | true=>
     have zab:peqI a.x a.y b.x b.y=true->∀ p,det a b p=0:=λh p=>by
      rw [yo.1 h];unfold det;grind
     have zcd:peqI c.x c.y d.x d.y=true->∀ p,det c d p=0:=λh p=>by
      rw [yo.1 h];unfold det;grind
     rw [ori_v va vb vc,ori_v va vb vd,ori_v vc vd va,ori_v vc vd vb];have l1:lap a b c d≠1:=by unfold lap;split <;> decide
     have l2:=mx4_two (ZW a c d) (ZW b c d) (ZW c a b) (ZW d a b);have s1:=zL (det a b c);have s2:=zL (det a b d);have s3:=zL (det c d a);have s4:=zL (det c d b);simp only [Bool.true_eq_false,VT,and_self,true_and];split
     ·rename_i h;have:=zab h c;have:=zab h d;simp;omega
     ·split
      ·rename_i h;have:=zcd h a;have:=zcd h b;simp;omega
      ·split
       ·rename_i h;simp only [l1,false_iff];omega
       ·split
        ·rename_i h
         simp only [true_iff];rcases s1 with ⟨e1,_⟩ | ⟨e1,_⟩ | ⟨e1,_⟩ <;> rcases s2 with ⟨e2,_⟩ | ⟨e2,_⟩ | ⟨e2,_⟩ <;> rcases s3 with ⟨e3,_⟩ | ⟨e3,_⟩ | ⟨e3,_⟩ <;> rcases s4 with ⟨e4,_⟩ | ⟨e4,_⟩ | ⟨e4,_⟩ <;> rw [e1,e2,e3,e4] at h <;> first | omega | (simp at h)
        ·rename_i h
         simp only [l2,false_iff];rintro ⟨k1,k2⟩;apply h;rcases s1 with ⟨e1,_⟩ | ⟨e1,_⟩ | ⟨e1,_⟩ <;> rcases s2 with ⟨e2,_⟩ | ⟨e2,_⟩ | ⟨e2,_⟩ <;> rcases s3 with ⟨e3,_⟩ | ⟨e3,_⟩ | ⟨e3,_⟩ <;> rcases s4 with ⟨e4,_⟩ | ⟨e4,_⟩ | ⟨e4,_⟩ <;> rw [e1,e2,e3,e4] <;> first | omega | (simp)
theorem kI {a b c d:Pt} (h:meetR a b c d=1):meetR a b d c=1:=by
 rw [kP] at *;obtain ⟨⟨v1,v2,v3,v4⟩,h1,h2⟩:=h;have e1:=zW c d a;have e2:=zW c d b;exact ⟨⟨v1,v2,v4,v3⟩,by omega,by omega⟩
theorem Zf (p q:Pt):(rl p q=p/\rg p q=q)\/(rl p q=q/\rg p q=p):=by
 unfold rl rg;split
 ·exact .inl ⟨rfl,rfl⟩
 ·exact .inr ⟨rfl,rfl⟩
theorem X9 {a b c d:Pt} (h:meetR a b c d=1):meetR a b (rl c d) (rg c d)=1:=by
 rcases Zf c d with ⟨e1,e2⟩ | ⟨e1,e2⟩
 ·rw [e1,e2];exact h
 ·rw [e1,e2];exact kI h
theorem Y8 {E:Es} {L:List Tri3} (g:Good E L) (p q:Pt):∃ L',Good (flipD E p q).2 L'/\L'.length=L.length:=by
 cases h0:getE E (p,q) with
 | none=>rw [yn (.inl h0)];exact ⟨L,g,rfl⟩
 | some S=>
  cases h1:getE E (q,p) with
  | none=>rw [yn (.inr h1)];exact ⟨L,g,rfl⟩
  | some R=>
   rw [xM h0 h1];split
   ·rename_i k
    obtain ⟨_,M,pM,g'⟩:=xg g h0 h1 rfl rfl k.1 k.2.1 k.2.2.1 k.2.2.2;exact ⟨_,g',by rw [pM.length_eq];rfl⟩
   ·exact ⟨L,g,rfl⟩
theorem fstep_len2 {E:Es} {L:List Tri3} (g:Good E L) (a b:Pt) (x:Wl) (Q:List Wl):∃ L',Good (fstep a b E x Q).1 L'/\L'.length=L.length:=by
 cases h0:getE E (x.A,x.B) with
 | none=>rw [xi (.inl h0)];exact ⟨L,g,rfl⟩
 | some S=>
  cases h1:getE E (x.B,x.A) with
  | none=>rw [xi (.inr h1)];exact ⟨L,g,rfl⟩
  | some R=>
   rw [kM h0 h1];split
   ·exact Y8 g _ _
   ·split <;> exact Y8 g _ _
theorem tV {a b:Pt}:∀ (n:Nat) {E:Es} {L:List Tri3} {Q:List Wl},Good E L->∃ L',Good (forceR a b n E Q).1 L'/\L'.length=L.length
 | 0,_,L,_,g=>⟨L,g,rfl⟩
 | _+1,_,L,[],g=>⟨L,g,rfl⟩
 | n+1,E,L,x :: Q,g=>by
  obtain ⟨L1,g1,h1⟩:=fstep_len2 g a b x Q;obtain ⟨L2,g2,h2⟩:=tV n (Q:=(fstep a b E x Q).2) g1;exact ⟨L2,g2,h2.trans h1⟩
theorem flipD_keep {W H:Int} {E:Es} {L:List Tri3} (hW:W < 16777216) (hH:H < 16777216) (g:Good E L) (t:Tiles W H L) {K:Pt->Pt->Prop} {p q:Pt} (hK:¬ K p q/\¬ K q p):((flipD E p q).1≠0->(flipD E p q).2=E)/\∃ L',Good (flipD E p q).2 L'/\Tiles W H L'/\Kept K L L':=by
 cases h0:getE E (p,q) with
 | none=>rw [yn (.inl h0)];exact ⟨λ_=>rfl,L,g,t,Kept.refl _ _⟩
 | some S=>
  cases h1:getE E (q,p) with
  | none=>rw [yn (.inr h1)];exact ⟨λ_=>rfl,L,g,t,Kept.refl _ _⟩
  | some R=>
   rw [xM h0 h1];split
   ·rename_i k
    refine ⟨λh=>absurd rfl h,?_⟩;obtain ⟨_,⟨cS,cR⟩,_,vp,vq,vc,vd⟩:=qP g h0 h1;obtain ⟨_,M,pM,g'⟩:=xg g h0 h1 rfl rfl k.1 k.2.1 k.2.2.1 k.2.2.2;have f:Flp K L S R M p q (apx S p q) (apx R p q):=⟨pM,cS,cR,hK,by have:=(qI vp vd vc).1 k.1;rw [zX] at this;exact (by have e:=zX (apx S p q) p (apx R p q);omega),(qI vd vq vc).1 k.2.1⟩;have e:mk p (apx R p q) (apx S p q)=mk (apx S p q) p (apx R p q):=ZH _ _ _;rw [e] at g' ⊢;exact ⟨_,g',f.tiles t hW hH,f.kept t hW hH⟩
   ·exact ⟨λ_=>rfl,L,g,t,Kept.refl _ _⟩
theorem yu {W H:Int} (hW:W < 16777216) (hH:H < 16777216) {a b:Pt}:∀ (n:Nat) {E:Es} {L:List Tri3} {Q:List Wl},Good E L->Tiles W H L->(∀ x∈Q,meetR a b x.A x.B=1)->∃ L',Good (forceR a b n E Q).1 L'/\Tiles W H L'/\Kept (λx y=>meetR a b x y≠1) L L'
 | 0,E,L,Q,g,t,_=>⟨L,g,t,Kept.refl _ _⟩
 | n+1,E,L,[],g,t,_=>⟨L,g,t,Kept.refl _ _⟩
 | n+1,E,L,x :: Q,g,t,hq=>by
  show ∃ L',Good (forceR a b n (fstep a b E x Q).1 (fstep a b E x Q).2).1 L'/\_;have hx:=hq x (by simp);have hQ:∀ y∈Q,meetR a b y.A y.B=1:=λy hy=>hq y (JN _ hy);cases h0:getE E (x.A,x.B) with
  | none=>rw [xi (.inl h0)];exact yu hW hH n g t hQ
  | some S=>
   cases h1:getE E (x.B,x.A) with
   | none=>rw [xi (.inr h1)];exact yu hW hH n g t hQ
   | some R=>
    obtain ⟨_,L1,g1,t1,k1⟩:=flipD_keep (K:=λx y=>meetR a b x y≠1) hW hH g t (p:=x.A) (q:=x.B) ⟨λk=>k hx,λk=>k (kI hx)⟩;rw [kM h0 h1];split
    ·obtain ⟨L2, g2, t2, k2⟩ := yu hW hH n g1 t1 (Q := Q ++ [x]) (λy hy => by
       rcases JM.1 hy with hy | hy
       ·exact hQ y hy
       ·rw [QP.1 hy];exact hx)
     exact ⟨L2,g2,t2,k1.trans k2⟩
    ·split
     ·rename_i hm
      obtain ⟨L2,g2,t2,k2⟩:=yu hW hH n g1 t1 (Q:=Q ++ [⟨rl (apx S x.A x.B) (apx R x.A x.B),rg (apx S x.A x.B) (apx R x.A x.B),0⟩]) (λy hy=>by
       rcases JM.1 hy with hy | hy
       ·exact hQ y hy
       ·rw [QP.1 hy];exact X9 hm)
      exact ⟨L2,g2,t2,k1.trans k2⟩
     ·obtain ⟨L2,g2,t2,k2⟩:=yu hW hH n g1 t1 (Q:=Q) hQ;exact ⟨L2,g2,t2,k1.trans k2⟩
end
end Go.Proofs.YthhcehmmglmlfaaGreat
