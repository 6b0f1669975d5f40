/- Put together: DocD, DocF, CdtL, CdtM, CdtN, CdtO. -/
import Derived.Test.YtogffkimgmlilaaGreatPfb32
set_option maxRecDepth 100000
set_option maxHeartbeats 8000000
set_option linter.all false
namespace Go.Proofs.YtogffkimgmlilaaGreat
open Go.RowKit Go.Sort _root_.Go.Proofs.Tryz
section
attribute [local go_sem] rOper rAt rUpon cell_set sg_i64 sg_u64 alloc_cell alloc_frozen
attribute [local go_sem 10000] pt_eql pt_neq wal_eql wal_neq
attribute [local irreducible] rWalk
def onD (p:Pt) (x:Wl):Bool := !decide (p=x.A) && (!decide (p=x.B) && onR p x.A x.B)
theorem zNn (p:Pt) (x:Wl):onD p x=(!peqI p.x p.y x.A.x x.A.y && (!peqI p.x p.y x.B.x x.B.y && onR p x.A x.B)):=by rw [zAz,zAz];rfl
theorem ron_set_any (db:Nat) (a0:Option Addr) (c n:Nat) (L:List Wl) (p:Pt) (w:World) (D:DocRd w db a0 c n L):Calls prog 106 #[pt0 db,p] w (Rt w (onV (L.find? (onD p)))):=by
 have hdb:=D.box.lt;have HM:=hdd D.len;have hn:n≤1000000:=D.len▸D.le;have HD:=hdd D;clear D
 go_enter func106,ntmps106
 go_wp2_with fail;refine zA1 fun W1 hW=>?_;have BP:Box W1 w [p.x,p.y] 54:=by rw [hW];exact (Box.new rfl).old _
 have BR:Box W1 (w+1) [(),(),(),(),()] 60:=by rw [hW];exact Box.new (by simp)
 have hw:Below w w W1:=by rw [hW];go_grown
 clear hW
 go_loopw [6] (fun vi wr=>∃ k:Nat,k≤n∧vi=.int .i64 k∧Hid ((L.take k).find? (onD p)=none)∧Below w w wr∧Box wr w [p.x,p.y] 54∧Box wr (w+1) [(),(),(),(),()] 60) (fun vi _=>n - (intOf vi).toNat)
 case atStart=>exact ⟨0,jAt _,rfl,hdd rfl,hw,BP,BR⟩
 case round=>
  clear BP BR hw;obtain ⟨k,hk,rfl,HI,hwr,BP,BR⟩:=hrel;have BD:=(HD.out.ee hwr).box;by_cases hlt:k < n
  ·have hkL:k < L.length:=by rw [HM.out];exact hlt
   obtain ⟨ad,A,ea,eA,hA⟩:=(HD.out.ee hwr).row.five (j:=k) hkL;have HX:Hid (L[k]=L[k]):=hdd rfl;generalize hX:L[k]=X at hA HX
   clear HX;have HX:=hdd hX;clear hX;obtain ⟨u0,u1,u2,u3,u4,u5⟩:=hA.f;obtain ⟨y0,y1,y2,y3⟩:=BP.f;obtain ⟨d0,d1,d2,d3⟩:=BD.f;obtain ⟨z0,z1,z2,z3⟩:=BR.f;subst ea;have c1:=zGz p X.A X.B;cases e1:peqI p.x p.y X.A.x X.A.y with
   | true=>
    have HE:Hid (onD p X=false):=hdd (by rw [zNn,e1];rfl);have HF:Hid ((L.take (k+1)).find? (onD p)=none):=hdd (zCz hkL HI.out (by rw [HX.out];exact HE.out));clear HE HX HI;have HP:=hdd BP;have HR:=hdd BR;clear BP BR BD;go_wp2
    go_roundw
    case rel=>exact ⟨k+1,hlt,by go_num,HF,by have hl:=hwr.size;go_grown,HP.out.old _,HR.out.old _⟩
    case measure=>simp [intOf];omega
   | false=>
    cases e2:peqI p.x p.y X.B.x X.B.y with
    | true=>
     have HE:Hid (onD p X=false):=hdd (by rw [zNn,e1,e2];rfl);have HF:Hid ((L.take (k+1)).find? (onD p)=none):=hdd (zCz hkL HI.out (by rw [HX.out];exact HE.out));clear HE HX HI;have HP:=hdd BP;have HR:=hdd BR;clear BP BR BD;go_wp2
     go_roundw
     case rel=>exact ⟨k+1,hlt,by go_num,HF,by have hl:=hwr.size;go_grown,HP.out.old _,HR.out.old _⟩
     case measure=>simp [intOf];omega
    | false=>
     cases e4:onR p X.A X.B with
     | false=>
      have HE:Hid (onD p X=false):=hdd (by rw [zNn,e1,e2,e4];rfl);rw [e4] at c1;clear e4;have HF:Hid ((L.take (k+1)).find? (onD p)=none):=hdd (zCz hkL HI.out (by rw [HX.out];exact HE.out));clear HE HX HI;have HP:=hdd BP;have HR:=hdd BR;have HW:=hdd hwr;go_wp2_with fail;refine zA4 fun W2 hW=>?_;have BP2:Box W2 w [p.x,p.y] 54:=by rw [hW];exact HP.out.old _
      have BR2:Box W2 (w+1) [(),(),(),(),()] 60:=by rw [hW];exact HR.out.old _
      have BX2:Box W2 wr [X.A.x,X.A.y,X.B.x,X.B.y,X.K] 60:=by rw [hW];exact Box.new rfl
      have hw2:Below w w W2:=by have hl:=hwr.size;rw [hW];go_grown
      clear hW BP BR hwr y0 y1 y2 y3 z0 z1 z2 z3 u0 u1 u2 u3 u4 u5 hA d0 d1 d2 d3 BD;refine (c1 W2).mono ?_;rintro e w3 ⟨rfl,hb⟩;have l1:w.heap.size+1 < wr.heap.size:=HR.out.lt;replace BP2:=BP2.ee hb;replace BR2:=BR2.ee hb;replace BX2:=BX2.ee hb;replace hw2:=upB hw2 hb;clear hb;obtain ⟨y0,y1,y2,y3⟩:=BP2.f;obtain ⟨z0,z1,z2,z3⟩:=BR2.f;obtain ⟨u0,u1,u2,u3⟩:=BX2.f;go_wp2
      go_roundw
      case rel=>exact ⟨k+1,hlt,by go_num,HF,hw2,BP2,BR2⟩
      case measure=>simp [intOf];omega
     | true=>
      have HE:Hid (onD p X=true):=hdd (by rw [zNn,e1,e2,e4];rfl);rw [e4] at c1;clear e4;have HP:=hdd BP;have HR:=hdd BR;have HW:=hdd hwr;go_wp2_with fail;refine zA4 fun W2 hW=>?_;have BP2:Box W2 w [p.x,p.y] 54:=by rw [hW];exact HP.out.old _
      have BR2:Box W2 (w+1) [(),(),(),(),()] 60:=by rw [hW];exact HR.out.old _
      have BX2:Box W2 wr [X.A.x,X.A.y,X.B.x,X.B.y,X.K] 60:=by rw [hW];exact Box.new rfl
      have hw2:Below w w W2:=by have hl:=hwr.size;rw [hW];go_grown
      clear hW BP BR hwr y0 y1 y2 y3 z0 z1 z2 z3 u0 u1 u2 u3 u4 u5 hA d0 d1 d2 d3 BD;refine (c1 W2).mono ?_;rintro e w3 ⟨rfl,hb⟩;have l1:w.heap.size+1 < wr.heap.size:=HR.out.lt;replace BP2:=BP2.ee hb;replace BR2:=BR2.ee hb;replace BX2:=BX2.ee hb;replace hw2:=upB hw2 hb;clear hb;obtain ⟨y0,y1,y2,y3⟩:=BP2.f;obtain ⟨z0,z1,z2,z3⟩:=BR2.f;obtain ⟨u0,u1,u2,u3⟩:=BX2.f;have HF:Hid (L.find? (onD p)=some X):=hdd (by rw [←HX.out];exact zL6 hkL HI.out (by rw [HX.out];exact HE.out));clear HE HX HI;go_wp2_with fail;refine bodyPost_ret (v:=.tuple #[.agg #[X.A.x,X.A.y,X.B.x,X.B.y,X.K],.bool true]) (by simp [results,results106,go_sem,z0]) rfl ⟨?_,by have hl:=hw2.size;go_grown⟩;rw [HF.out];rfl
  ·obtain rfl:k=n:=by omega
   have HF:Hid (L.find? (onD p)=none):=hdd (zN0 (by rw [HM.out];exact HI.out));clear HI;obtain ⟨z0,z1,z2,z3⟩:=BR.f;obtain ⟨d0,d1,d2,d3⟩:=BD.f;go_wp2_with fail;refine bodyPost_ret (v:=.tuple #[.agg #[(),(),(),(),()],.bool false]) (by simp [results,results106,go_sem,z0]) rfl ⟨?_,by have hl:=hwr.size;go_grown⟩;rw [HF.out];rfl
attribute [local go_sem ↓ 10000] zG3 run_upto_wal
def RemAt (L:List Wl) (p q:Pt) (r:Int) (L':List Wl):Prop:=
 (r=16∧L'=L∧∀ x∈L,isW p q x=false)∨(r=0∧∃ (k:Nat) (h:k < L.length),isW p q L[k]=true∧L'=L.take k ++ L.drop (k+1))
theorem zOx (p q:Pt) (x:Wl):isW p q x=(peqI x.A.x x.A.y p.x p.y && peqI x.B.x x.B.y q.x q.y):=by rw [zAz,zAz];rfl
theorem rrem_any (db:Nat) (v:Value) (L:List Wl) (a b:Pt) (w:World) (S:DocAt w db v L):Calls prog 107 #[pt0 db,a,b] w fun e w'=>∃ r v' L',e=.returned (.int .i64 r)∧RemAt L (rl a b) (rg a b) r L'∧DocAt w' db v' L'∧Frm w w' (· = db)∧(∀ g,v'.ownBlock=some g→v.ownBlock=some g∨w.heap.size≤g):=by
 obtain ⟨a0,c,rfl,D,hz⟩:=S.rd;have HS:=hdd S;clear S;have hdb:=D.box.lt;have hle:=D.le;obtain ⟨n,hn⟩:∃ n,L.length=n:=⟨_,rfl⟩;rw [hn] at D HS hle;have HM:=hdd hn;have hnc:=D.nc;have hfl:=D.flat;have HD:=hdd D;clear D hn;have c1:=zGr a b;have c2:=zGs a b;generalize rl a b=p at *
 generalize rg a b=q at *
 go_enter func107,ntmps107
 go_wp2_with fail;refine zA1 fun W1 hW=>?_;have BA:Box W1 w [a.x,a.y] 54:=by rw [hW];exact (Box.new rfl).old _
 have BB:Box W1 (w+1) [b.x,b.y] 54:=by rw [hW];exact Box.new (by simp)
 have hw:Below w w W1:=by rw [hW];go_grown
 clear hW
 go_loopw [7] (fun vi wr=>∃ k:Nat,k≤n∧vi=.int .i64 k∧Hid (∀ (j:Nat) (h:j < L.length),j < k→isW p q L[j]=false)∧Below w w wr∧Box wr w [a.x,a.y] 54∧Box wr (w+1) [b.x,b.y] 54) (fun vi _=>n - (intOf vi).toNat)
 case atStart=>exact ⟨0,jAt _,rfl,hdd (fun j h hj=>by omega),hw,BA,BB⟩
 case round=>
  clear BA BB hw;obtain ⟨k,hk,rfl,HA,hwr,BA,BB⟩:=hrel;have BD:=(HD.out.ee hwr).box;have hrow:=(HD.out.ee hwr).row;by_cases hkn:k < n
  ·have hkL:k < L.length:=by rw [HM.out];exact hkn
   obtain ⟨aj,A,ea,eA,hA5⟩:=hrow.five (j:=k) hkL;have HY:Hid (L[k]=L[k]):=hdd rfl;generalize hY:L[k]=Y at hA5 HY
   clear HY;have HY:=hdd hY;clear hY;obtain ⟨s0,s1,s2,s3,s4⟩:=hA5.cells;have gA:=BA.cells;have gB:=BB.cells;have gD:=BD.cells;obtain ⟨d0,d1,d2,d3⟩:=BD.f;have q3:(k:Int) < (n:Int):=by omega
   have q4:(0:Int)≤(k:Int):=by omega
   subst ea;clear hA5;cases e1:peqI Y.A.x Y.A.y p.x p.y with
   | false=>
    have HE:Hid (isW p q Y=false):=hdd (by rw [zOx,e1];rfl);have HA2:Hid (∀ (j:Nat) (h:j < L.length),j < k+1→isW p q L[j]=false):=hdd (fun j h hj=>by
     by_cases e:j=k
     ·subst e;rw [HY.out];exact HE.out
     ·exact HA.out j h (by omega))
    clear HA HY HE;go_wp2_with fail;refine (wp_region_tail 25 (by kernel_rfl) (by kernel_rfl) (C:=fun w'=>∃ p:Regrown,w'=grow (redrawn wr p.d) p.os) rgB ?_);simp only [tK1,tK0,dP1,dP0];refine wkx ?_;intro wx hb;replace BA:=BA.ee hb;replace BB:=BB.ee hb;replace BD:=BD.ee hb;replace hrow:=hrow.ee hb;replace hwr:=upB hwr hb;clear hb gA gB gD d0 d1 d2 d3 s0 s1 s2 s3 s4 c1 c2 q3 q4;have HQ:=hdd hwr;have HBA:=hdd BA;have HBB:=hdd BB;clear BA BB BD hrow hwr;go_wp2
    go_roundw
    case rel=>exact ⟨k+1,hkn,by go_num,HA2,HQ.out,HBA.out,HBB.out⟩
    case measure=>simp [intOf];omega
   | true=>
    cases e2:peqI Y.B.x Y.B.y q.x q.y with
    | false=>
     have HE:Hid (isW p q Y=false):=hdd (by rw [zOx,e1,e2];rfl);have HA2:Hid (∀ (j:Nat) (h:j < L.length),j < k+1→isW p q L[j]=false):=hdd (fun j h hj=>by
      by_cases e:j=k
      ·subst e;rw [HY.out];exact HE.out
      ·exact HA.out j h (by omega))
     clear HA HY HE;go_wp2_with fail;refine (wp_region_tail 25 (by kernel_rfl) (by kernel_rfl) (C:=fun w'=>∃ p:Regrown,w'=grow (redrawn wr p.d) p.os) rgB ?_);simp only [tK1,tK0,dP1,dP0];refine wkx ?_;intro wx hb;replace BA:=BA.ee hb;replace BB:=BB.ee hb;replace BD:=BD.ee hb;replace hrow:=hrow.ee hb;replace hwr:=upB hwr hb;clear hb gA gB gD d0 d1 d2 d3 s0 s1 s2 s3 s4 c1 c2 q3 q4;have HQ:=hdd hwr;have HBA:=hdd BA;have HBB:=hdd BB;clear BA BB BD hrow hwr;go_wp2
     go_roundw
     case rel=>exact ⟨k+1,hkn,by go_num,HA2,HQ.out,HBA.out,HBB.out⟩
     case measure=>simp [intOf];omega
    | true=>
     have HE:Hid (isW p q Y=true):=hdd (by rw [zOx,e1,e2];rfl);obtain ⟨k1,hk1⟩:∃ k1,k+1=k1:=⟨_,rfl⟩;have HREM:Hid (RemAt L p q 0 (L.take k ++ L.drop k1)):=hdd (.inr ⟨rfl,k,hkL,by rw [HY.out];exact HE.out,by rw [hk1]⟩);clear HA HY HE;go_wp2_with fail;refine (wp_region_tail 25 (by kernel_rfl) (by kernel_rfl) (C:=fun w'=>∃ p:Regrown,w'=grow (redrawn wr p.d) p.os) rgB ?_);simp only [tK1,tK0,dP1,dP0];refine wkx ?_;intro wx hb;replace BA:=BA.ee hb;replace BB:=BB.ee hb;replace BD:=BD.ee hb;replace hrow:=hrow.ee hb;replace hwr:=upB hwr hb;clear hb gA gB gD d0 d1 d2 d3 s0 s1 s2 s3 s4 c1 c2 q3 q4;obtain ⟨ad,had,hdr,hfl2,hnil⟩:=zFv hrow HM.out hnc hfl (show k1≤n by omega) hz;have HAD:=hdd had;have HT1:=hdd (show (L.take k).length=k by rw [jB3,HM.out];omega);have HT2:=hdd (show (L.drop k1).length=n - k1 by rw [jBm,HM.out]);have hk6:k≤1000000:=by omega
     have hk7:k+(n - k1)≤1000000:=by omega
     have q5:IntKind.i64.wrap ((k:Int)+1)=(k1:Int):=by rw [IntKind.wrap_i64];omega
     have gD:=BD.cells;have z2:k≤c:=by omega
     have z3:k1≤n:=by omega
     clear had hk1 e1 e2;go_wp2_with fail;have hcB:∀ w',(∃ p:Regrown,w'=grow (redrawn wx p.d) p.os)→Below wx wx w':=fun w' h=>by obtain ⟨p,rfl⟩:=h;exact below_regrown _ _ _
     refine FT.wp_region_flow 17 (.run 0 (.run 2 (.run 3 (.run 4 (.run 5 (.run 6 (.run 7 (.run 9 (.run 10 (.run 11 (.run 12 (.run 13 (.run 14 (.run 15 (.alt 1 (.alt 8 (.alt 16 (.tail) .stop) .stop) .stop))))))))))))))) rfl (by kernel_rfl) (fun _ x _ _ _ h=>by cases x <;> exact h) (C:=fun w'=>∃ p:Regrown,w'=grow (redrawn wx p.d) p.os) rgB hcB ?_;have hC:∀ x y,Ext x y→(∃ p:Regrown,x=grow (redrawn wx p.d) p.os)→(∃ p:Regrown,y=grow (redrawn wx p.d) p.os):=fun x y h1 h2=>regrown_of_below ((hcB x h2).trans (h1.mono (hcB x h2).size))
     iterate 14 (refine FT.flow_run rfl (fun K hK=>?_);go_simp;first | (refine hK _ ?_;clear hK K) | (apply Exists.intro;refine ⟨fun _=>?_,hK _ ?_⟩;rotate_left;clear hK K))
     first | rw [HAD.out] | (have hq:=HAD.out;simp only [jDz] at hq;rw [hq];clear hq)
     refine FT.flow_at hC rfl trivial (fun w1 hw1 K hK=>?_);go_simp;have hbM:Below wx wx (w1.alloc (.cells #[] 60)):=Below.alloc hw1 (Below.size hw1) _;have hrM:=zF4 w1 wx.heap.size (Below.size hw1);refine hK _ _ (regrown_of_below hbM) ?_;clear hK K;refine FT.flow_at hC rfl trivial (fun w2 hw2 K hK=>?_);have hb2:=hbM.trans (Below.mono hw2 hbM.size);refine zAl (by rfl) _ _ (by rfl) wx.heap.size _ [] (by rfl) (hrM.ee hw2) _ k c (L.take k) (by rfl) HT1.out ((hrow.ee hb2).take k) hfl (fun e=>by cases e) (by simpa using hk6) (Below.size hb2) (some 51) (by rfl) ?_;intro w3 v12 hr12 hf12 hs12;rw [jBd] at hr12;have hb3:=hb2.trans (hf12.below (fun k e=>((hrM.ee hw2).lt k e).1) hb2.size);refine hK _ _ (regrown_of_below hb3) ?_;clear hK K;simp only [Act.put,sT2,sT1,sT0];refine FT.flow_at hC rfl trivial (fun w6 hw6 K hK=>?_);have hb6:=(upB hb3 hw6);refine zAl (by rfl) _ _ (by rfl) wx.heap.size v12 (L.take k) (by rfl) (hr12.ee hw6) ad (n - k1) (c - k1) (L.drop k1) (by rfl) HT2.out (hdr.ee hb6) hfl2 hnil (by rw [HT1.out];exact hk7) hb6.size (some 59) (by rfl) ?_;intro w7 v18 hr18 hf18 hs18;have hb7:=hb6.trans (hf18.below (fun k e=>((hr12.ee hw6).lt k e).1) hb6.size);refine hK _ _ (regrown_of_below hb7) ?_;clear hK K;simp only [Act.put,sT2,sT1,sT0];intro w8 hw8;have hb8:=(upB hb7 hw8);have BD8:=BD.ee hb8;have hw8':=(upB hwr hb8);obtain ⟨hS8,hF8,hG8⟩:=zGk HS.out hw8' ((hr18.ee hw8).base hwr.size) (by rw [jAa,HT1.out,HT2.out];exact hk7);obtain ⟨a18,n18,c18,rfl⟩:=hr18.form;obtain ⟨d0,d1,d2,d3⟩:=BD8.f;clear hr12 hr18 hf12 hs12 hf18 hs18 gD;simp only [dP1,dP0];go_wp2
     go_ret
     exact ⟨0,_,_,rfl,HREM.out,hS8,hF8,fun g e=>.inr (hG8 g e)⟩
  ·obtain rfl:k=n:=by omega
   have HREM:Hid (RemAt L p q 16 L):=hdd (.inl ⟨rfl,rfl,fun x hx=>by
    obtain ⟨j,hj,rfl⟩:=jDe.1 hx;exact HA.out j hj (by have:=HM.out;omega)⟩)
   have hF:Frm w wr (· = db):=Frm.of_below hwr;have hS:=HS.out.ee hwr;have HF:=hdd hF;have HS2:=hdd hS;obtain ⟨d0,d1,d2,d3⟩:=BD.f;clear hS hF HA;go_wp2
   go_ret
   exact ⟨16,_,L,rfl,HREM.out,HS2.out,HF.out,fun g e=>.inl (by rw [HM.out];exact e)⟩
end
section
attribute [local go_sem] rOper rAt rUpon cell_set sg_i64 sg_u64 alloc_cell alloc_frozen
attribute [local go_sem 10000] pt_eql pt_neq tri_eql
attribute [local irreducible] rWalk
def putF (E:Es) (T:Tri3):Es:=if freeE E T=true then putT E T else E
theorem rputF_any (mb b:Nat) (E:Es) (T:Tri3) (hk:okT T) (w:World) (Bm:Box w mb [.map (some b)] 90) (Hm:HoldsMap eW eT okW w b E):Calls prog 80 #[pt0 mb,T] w fun e w'=>∃ r,e=.returned (.bool r)∧w.grownBy w' (some b)∧HoldsMap eW eT okW w' b (putF E T):=by
 unfold putF;cases hf:freeE E T with
 | true=>exact (zHl mb b E T hf hk w Bm Hm).mono fun e w' ⟨h1,h2,h3⟩=>⟨true,h1,h2,by rw [jAc rfl];exact h3⟩
 | false=>exact (zNx mb b E T hf hk w Bm Hm).mono fun e w' ⟨h1,h2⟩=>⟨false,h1,zA6 h2 _,by rw [jA0 (by decide)];exact Hm.ee h2⟩
def atE (E:Es) (p:Pt):List Tri3:=srt cmpT (heads (fun T=>hasP T p) E)
def cutS (p:Pt) (T:Tri3):List Tri3:=srt cmpT (cutR T p)
def addPE (E:Es) (p:Pt):Es:=(atE E p).foldl (fun E T=>(cutS p T).foldl putF E) ((atE E p).foldl takeT E)
section
variable (mb b db:Nat) (E:Es) (p:Pt) (hE:E.length≤1000000) (w:World) (Bm:Box w mb [.map (some b)] 90) (Hm:HoldsMap eW eT okW w b E)
include hE Bm Hm
theorem raddP_none (hat:atE E p=[]):Calls prog 73 #[pt0 mb,pt0 db,p] w (Rt w (.int .i64 1)):=by
 have cA:=fun w0 B1 H1=>zM3 mb b E p hE w0 B1 H1
 change ∀ (w0:World) B1 H1,Calls _ _ _ _ fun e w'=>∃ a cap,e=.returned (.slice a (atE E p).length cap)∧RowAt cT 6 w' a (atE E p)∧Below w0 w0 w' at cA
 rw [hat] at cA;clear hat
 go_enter func73,ntmps73
 go_wp2_with fail;refine zA4 fun W1 hW=>?_;have hw:Below w w W1:=by rw [hW];go_grown
 clear hW;refine (cA _ (Bm.ee hw) (Hm.ee hw)).mono ?_;rintro e w2 ⟨a,cap,rfl,hr,hb⟩;have hw2:=(upB hw hb);clear hb cA;go_wp2
 go_ret
 exact ⟨rfl,hw2⟩
theorem raddP_have (hat:atE E p≠[]) (hst:starE p E≠[]):Calls prog 73 #[pt0 mb,pt0 db,p] w (Rt w (.int .i64 5)):=by
 have cA:=fun w0 B1 H1=>zM3 mb b E p hE w0 B1 H1
 change ∀ (w0:World) B1 H1,Calls _ _ _ _ fun e w'=>∃ a cap,e=.returned (.slice a (atE E p).length cap)∧RowAt cT 6 w' a (atE E p)∧Below w0 w0 w' at cA
 have cS:=fun w0 B1 H1=>zCe mb b E p hE w0 B1 H1;obtain ⟨n,hn⟩:∃ n,(atE E p).length=n:=⟨_,rfl⟩;obtain ⟨m,hm⟩:∃ m,(srt cmpT (starE p E)).length=m:=⟨_,rfl⟩;have hn0:((n:Int) == 0)=false:=by
  have:n≠0:=fun e=>hat (jB8.1 (hn.trans e));simp;omega
 have hm1:0 < m:=by
  have:m≠0:=fun e=>hst (jB8.1 (by rw [←(srt_perm (c:=cmpT) (starE p E)).length_eq,hm,e]));omega
 have hm0:decide (0 < (m:Int))=true:=by simp;omega
 have hm2:(0 < (m:Int))=True:=by simp;omega
 rw [hn] at cA;rw [hm] at cS;clear hat hst hn hm
 go_enter func73,ntmps73
 go_wp2_with fail;refine zA4 fun W1 hW=>?_;have hw:Below w w W1:=by rw [hW];go_grown
 have Bp:Box W1 w [p.x,p.y] 54:=by rw [hW];exact Box.new rfl
 clear hW;refine (cA _ (Bm.ee hw) (Hm.ee hw)).mono ?_;rintro e w2 ⟨a,cap,rfl,hr,hb⟩;have hw2:=(upB hw hb);have Bp2:=Bp.ee hb;clear hb cA hr;have Fp:=Bp2.f;go_wp2_with fail;refine (cS _ (Bm.ee hw2) (Hm.ee hw2)).mono ?_;rintro e w3 ⟨a3,cap3,rfl,hr3,hb3⟩;have hw3:=(upB hw2 hb3);clear hb3 cS hr3 Fp;go_wp2
 go_ret
 exact ⟨rfl,hw3⟩
end
end
section
attribute [local go_sem] rOper rAt rUpon cell_set sg_i64 sg_u64 alloc_cell alloc_frozen
attribute [local go_sem 10000] pt_eql pt_neq tri_eql
attribute [local irreducible] rWalk
theorem DocAt.turn {w w':World} {db b:Nat} {v:Value} {L:List Wl} {E:Es} (S:DocAt w db v L) (H:HoldsMap eW eT okW w b E) (hg:w.grownBy w' (some b)):DocAt w' db v L:=
 ⟨S.box.turn H hg,S.row.kept hg (.inr (fun e=>zB5 S.row H e.symm)),S.ne,S.le⟩
theorem zHh {α β:Type} (f:β→α→β) (L:List α) (e:β) {i:Nat} (hi:i < L.length):(L.take (i+1)).foldl f e=f ((L.take i).foldl f e) L[i]:=by
 rw [jAb hi,jFa];rfl
def insW (L:List Wl) (X:Wl) (k:Nat):List Wl:=L.take k ++ X :: L.drop k
def AddD (D:List Wl) (p:Pt) (D':List Wl):Prop:=
 (D.find? (onD p)=none∧D'=D)∨∃ X r D1 k1 k2,D.find? (onD p)=some X∧RemAt D (rl X.A X.B) (rg X.A X.B) r D1∧PutAt D1 ⟨X.A,p,X.K⟩ k1∧PutAt (insW D1 ⟨X.A,p,X.K⟩ k1) ⟨p,X.B,X.K⟩ k2∧D'=insW (insW D1 ⟨X.A,p,X.K⟩ k1) ⟨p,X.B,X.K⟩ k2
def AddPost (b db:Nat) (E:Es) (p:Pt) (v:Value) (D:List Wl) (w:World) (e:Ending) (w':World):Prop:=
 ∃ v' D',e=.returned (.int .i64 0)∧HoldsMap eW eT okW w' b (addPE E p)∧DocAt w' db v' D'∧AddD D p D'∧Frm w w' (fun k=>k=b∨k=db)∧(∀ g,v'.ownBlock=some g→v.ownBlock=some g∨w.heap.size≤g)
theorem raddP_ok (mb b db:Nat) (E:Es) (p:Pt) (v:Value) (D:List Wl) (hE:E.length≤1000000) (hn1:(atE E p).length≤1000) (hok:∀ T∈atE E p,okT T) (hok2:∀ T∈atE E p,∀ U∈cutS p T,okT U) (hat:atE E p≠[]) (hst:starE p E=[]) (w:World) (Bm:Box w mb [.map (some b)] 90) (Hm:HoldsMap eW eT okW w b E) (Dw:DocAt w db v D) (hD:D.length+2 < 1000000) (hgk:∀ x∈D,0≤x.K∧x.K≤2):Calls prog 73 #[pt0 mb,pt0 db,p] w (AddPost b db E p v D w):=by
 have cA:=fun w0 B1 H1=>zM3 mb b E p hE w0 B1 H1
 change ∀ (w0:World) B1 H1,Calls _ _ _ _ fun e w'=>∃ a cap,e=.returned (.slice a (atE E p).length cap)∧RowAt cT 6 w' a (atE E p)∧Below w0 w0 w' at cA
 have cS:=fun w0 B1 H1=>zCe mb b E p hE w0 B1 H1;have z:srt cmpT ([]:List Tri3)=[]:=jB8.1 (by rw [(srt_perm _).length_eq];rfl);rw [hst,z] at cS;have HA:=hdd (show addPE E p=(atE E p).foldl (fun E T=>(cutS p T).foldl putF E) ((atE E p).foldl takeT E) from rfl);obtain ⟨EE,hEE⟩:∃ EE,addPE E p=EE:=⟨_,rfl⟩;rw [hEE] at HA;have HEE:=hdd hEE;clear hEE;generalize atE E p=F at *
 obtain ⟨n,hn⟩:∃ n,F.length=n:=⟨_,rfl⟩;have hn0:((n:Int) == 0)=false:=by
  have:n≠0:=fun e=>hat (jB8.1 (hn.trans e));simp;omega
 rw [hn] at cA hn1;have HN:=hdd hn;have HG:=hdd hgk;clear hat hst hn z hgk
 go_enter func73,ntmps73
 go_wp2_with fail;refine zA4 fun W1 hW=>?_;have hw:Below w w W1:=by rw [hW];go_grown
 have Bp:Box W1 w [p.x,p.y] 54:=by rw [hW];exact Box.new rfl
 clear hW;refine (cA _ (Bm.ee hw) (Hm.ee hw)).mono ?_;rintro e w2 ⟨a,cap,rfl,hr,hb⟩;have hw2:=(upB hw hb);have Bp2:=Bp.ee hb;clear hb cA Bp hw;have Fp:=Bp2.f;go_wp2_with fail;refine (cS _ (Bm.ee hw2) (Hm.ee hw2)).mono ?_;rintro e w3 ⟨a3,cap3,rfl,hr3,hb3⟩;have hw3:=(upB hw2 hb3);have Bp3:=Bp2.ee hb3;have r3:=hr.ee hb3;have H3:=Hm.ee hw3;have g3:w.grownBy w3 (some b):=zA6 hw3 _;clear hb3 cS hr3 Fp hr Bp2 hw2 hw3;go_wp2
 go_loopw [8] (fun v8 wr=>∃ i:Nat,v8=.int .i64 i∧i≤n∧HoldsMap eW eT okW wr b ((F.take i).foldl takeT E)∧w.grownBy wr (some b)∧Box wr w [p.x,p.y] 54∧RowAt cT 6 wr a F) (fun v8 _=>n - (intOf v8).toNat)
 case atStart=>exact ⟨0,rfl,jAt _,H3,g3,Bp3,r3⟩
 case round=>
  clear H3 g3 Bp3 r3;obtain ⟨i,rfl,hi,H3,g3,Bp3,r3⟩:=hrel;by_cases hlt:i < n
  ·have hil:i < F.length:=by rw [HN.out];exact hlt
   have q0:(i:Int) < (n:Int):=by omega
   obtain ⟨ad,A,ea,eA,hA⟩:=r3.six (j:=i) hil;have hkT:=hok F[i] (jAx hil);have HT:=hdd (zHh takeT F E hil);generalize F[i]=T at *
   generalize hE1:(F.take i).foldl takeT E=E1 at *
   have ct:=zHk mb b E1 T hkT wr (Bm.turn Hm g3) H3;obtain ⟨zA,q1,q2,q3,q4,q5,q6⟩:=hA.f;have hlA:=hA.1;subst ea;clear hE1 hkT;go_wp2_with fail;refine ct.mono ?_;rintro e w5 ⟨rfl,h5,H5⟩;have Bp5:=Bp3.turn H3 h5;have r5:=r3.turn cT_ne H3 h5;have g5:=zAa g3 h5;clear ct zA q1 q2 q3 q4 q5 q6 hA H3 Bp3 r3 g3 h5;go_wp2
   go_roundw
   case rel=>exact ⟨i+1,by go_num,by omega,by rw [HT.out];exact H5,g5,Bp5,r5⟩
   case measure=>simp [intOf];omega
  ·have q0:decide ((i:Int) < (n:Int))=false:=by simpa using hlt
   have hin:i=n:=by omega
   have e1:F.take i=F:=jAe (by rw [HN.out];omega);rw [e1] at H3;clear hin e1;go_wp2;generalize hEb:F.foldl takeT E=Eb at *
   clear hEb;obtain ⟨stp,hstp⟩:∃ stp:Es→Tri3→Es,stp=fun E T=>(cutS p T).foldl putF E:=⟨_,rfl⟩;rw [←hstp] at HA;have HSTP:=hdd hstp;clear hstp
   go_loopw [9] (fun v9 wr=>∃ i:Nat,v9=.int .i64 i∧i≤n∧HoldsMap eW eT okW wr b ((F.take i).foldl stp Eb)∧w.grownBy wr (some b)∧Box wr w [p.x,p.y] 54∧RowAt cT 6 wr a F) (fun v9 _=>n - (intOf v9).toNat)
   case atStart=>exact ⟨0,rfl,jAt _,H3,g3,Bp3,r3⟩
   case round=>
    clear H3 g3 Bp3 r3 q0 hlt hi;obtain ⟨i,rfl,hi,H3,g3,Bp3,r3⟩:=hrel;by_cases hlt:i < n
    ·have hil:i < F.length:=by rw [HN.out];exact hlt
     have q0:(i:Int) < (n:Int):=by omega
     obtain ⟨ad,A,ea,eA,hA⟩:=r3.six (j:=i) hil;have hk2:=hok2 F[i] (jAx hil);have HT:=hdd (show (F.take (i+1)).foldl stp Eb=(cutS p F[i]).foldl putF ((F.take i).foldl stp Eb) by rw [zHh stp F Eb hil,HSTP.out]);generalize F[i]=T at *
     generalize (F.take i).foldl stp Eb=E1 at *
     have cc:=fun w0=>rcut_any T p w0
     change ∀ (w0:World),Calls _ _ _ _ fun e w'=>∃ a cap,e=.returned (.slice a (cutS p T).length cap)∧RowAt cT 6 w' a (cutS p T)∧Below w0 w0 w' at cc
     have hcl:(cutS p T).length≤3:=by
      unfold cutS;rw [(srt_perm _).length_eq];unfold cutR;split
      ·exact zN4 p T
      ·simp
     generalize cutS p T=C at *
     obtain ⟨m,hm⟩:∃ m,C.length=m:=⟨_,rfl⟩;have HM:=hdd hm;rw [hm] at cc hcl;clear hm;obtain ⟨s0,s1,s2,s3,s4,s5⟩:=hA.cells;have gP:=Bp3.cells;have ea2:=ea;subst ea;go_wp2_with fail;refine rgn 5 (fun w4 hb=>?_);clear s0 s1 s2 s3 s4 s5 gP;have Bp4:=Bp3.ee hb;have r4:=r3.ee hb;have H4:=H3.ee hb;have g4:=zA9 g3 hb;clear hb hA Bp3 r3 H3 g3;go_wp2_with fail;refine (cc _).mono ?_;rintro e w5 ⟨a5,cap5,rfl,r5c,hb⟩;have Bp5:=Bp4.ee hb;have r5:=r4.ee hb;have H5:=H4.ee hb;have g5:=zA9 g4 hb;clear hb Bp4 r4 H4 g4 cc;go_wp2
     go_loopw [11] (fun v11 wr=>∃ k:Nat,v11=.int .i64 k∧k≤m∧HoldsMap eW eT okW wr b ((C.take k).foldl putF E1)∧w.grownBy wr (some b)∧Box wr w [p.x,p.y] 54∧RowAt cT 6 wr (some ad) F∧RowAt cT 6 wr a5 C) (fun v11 _=>m - (intOf v11).toNat)
     case atStart=>exact ⟨0,rfl,jAt _,H5,g5,Bp5,r5,r5c⟩
     case round=>
      clear H5 g5 Bp5 r5 r5c;obtain ⟨k,rfl,hkm,H5,g5,Bp5,r5,r5c⟩:=hrel;by_cases hlk:k < m
      ·have hkl:k < C.length:=by rw [HM.out];exact hlk
       have q1:(k:Int) < (m:Int):=by omega
       obtain ⟨ad2,A2,ea2',eA2,hA2⟩:=r5c.six (j:=k) hkl;have hkU:=hk2 C[k] (jAx hkl);have HU:=hdd (zHh putF C E1 hkl);generalize C[k]=U at *
       generalize (C.take k).foldl putF E1=E2 at *
       have cp:=rputF_any mb b E2 U hkU wr (Bm.turn Hm g5) H5;obtain ⟨zA,t1,t2,t3,t4,t5,t6⟩:=hA2.f;subst ea2';clear hkU;go_wp2_with fail;refine cp.mono ?_;rintro e w6 ⟨rr,rfl,h6,H6⟩;have Bp6:=Bp5.turn H5 h6;have r6:=r5.turn cT_ne H5 h6;have r6c:=r5c.turn cT_ne H5 h6;have g6:=zAa g5 h6;clear cp zA t1 t2 t3 t4 t5 t6 hA2 H5 Bp5 r5 r5c g5 h6;go_wp2
       go_roundw
       case rel=>exact ⟨k+1,by go_num,by omega,by rw [HU.out];exact H6,g6,Bp6,r6,r6c⟩
       case measure=>simp [intOf];omega
      ·have q1:decide ((k:Int) < (m:Int))=false:=by simpa using hlk
       have hkm2:k=m:=by omega
       have e1:C.take k=C:=jAe (by rw [HM.out];omega);rw [e1] at H5;clear hkm2 e1 r5c;go_wp2
       go_roundw
       case rel=>exact ⟨i+1,by go_num,by omega,by rw [HT.out];exact H5,g5,Bp5,r5⟩
       case measure=>simp [intOf];omega
    ·have q0:decide ((i:Int) < (n:Int))=false:=by simpa using hlt
     have hin:i=n:=by omega
     have e1:F.take i=F:=jAe (by rw [HN.out];omega);rw [e1,←HA.out] at H3;clear hin e1 r3;clear hok2 hok HN HA HSTP hE hn1 hn0;have Dw3:=Dw.turn Hm g3;have hgo:=fun (p:Nat→Prop) (hp:p b)=>Frm.of_grown g3 (p:=p) (fun g e=>by cases e;exact hp);have F3:Frm w wr (fun k=>k=b∨k=db):=hgo _ (.inl rfl);have hwp:w.heap.size < wr.heap.size:=Bp3.lt;have hdb:db < w.heap.size:=Dw.box.lt;have hbd:(some b)≠(some db):=fun e=>(Dw3.box.ne_map H3) (jAl e).symm;obtain ⟨a9,c9,hv9,Dr,_⟩:=Dw3.rd;have cO:=ron_set_any db a9 c9 D.length D p wr Dr;clear hgo g3 Dr hv9;have Fp:=Bp3.f;cases hO:D.find? (onD p) with
     | none=>
      rw [hO] at cO
      change Calls _ _ _ _ fun e w'=>e=.returned (.tuple #[.agg #[(),(),(),(),()],.bool false])∧_ at cO
      have HO:=hdd hO;clear hO;go_wp2_with fail;refine cO.mono ?_;rintro e w6 ⟨rfl,hb⟩;have H6:=H3.ee hb;have D6:=Dw3.ee hb;have F6:=F3.trans (Frm.of_below hb);clear cO hb Fp Bp3 H3 Dw3 F3 hwp;go_wp2
      go_ret
      exact ⟨v,D,rfl,by rw [HEE.out];exact H6.alloc _,D6.ext (by go_grown) rfl,.inl ⟨HO.out,rfl⟩,F6.trans (Frm.of_below (by go_grown)),fun g e=>.inl e⟩
     | some X=>
      rw [hO] at cO
      change Calls _ _ _ _ fun e w'=>e=.returned (.tuple #[.agg #[X.A.x,X.A.y,X.B.x,X.B.y,X.K],.bool true])∧_ at cO
      have hXm:=jC6 hO;have hXk:=HG.out X hXm;have HO:=hdd hO;clear hO hXm;go_wp2_with fail;refine cO.mono ?_;rintro e w6 ⟨rfl,hb⟩;have H6:=H3.ee hb;have D6:=Dw3.ee hb;have F6:=F3.trans (Frm.of_below hb);have Bp6:=Bp3.ee hb;have hs6:=hb.size;clear cO hb Fp Bp3 H3 Dw3 F3;have Fp:=Bp6.f;go_wp2_with fail;refine zA4 fun w7 hW=>?_;have Bw:Box w7 w6 [X.A.x,X.A.y,X.B.x,X.B.y,X.K] 60:=by rw [hW];exact Box.new rfl
      have Bp7:Box w7 w [p.x,p.y] 54:=by rw [hW];exact Bp6.old _
      have H7:HoldsMap eW eT okW w7 b EE:=by rw [hW];exact H6.alloc _
      have hb7:Below w6 w6 w7:=by rw [hW];go_grown
      have D7:=D6.ee hb7;have F7:=F6.trans (Frm.of_below hb7);clear hW hb7 Fp Bp6 H6 D6 F6;refine (rrem_any db v D X.A X.B w7 D7).mono ?_;rintro e w8 ⟨r,v1,D1,rfl,hR,D8,f8,fr8⟩;have Bw8:=f8.box Bw (by omega);have Bp8:=f8.box Bp7 (by omega);have H8:=H7.kept f8.grown hbd;have F8:=F7.trans2 f8 (fun k hk _=>.inr hk);have h1:D1.length≤D.length∧∀ x∈D1,x∈D:=by
       rcases hR with ⟨_,e,_⟩ | ⟨_,k,hk,_,e⟩
       ·rw [e];exact ⟨jA9 _,fun x hx=>hx⟩
       ·rw [e];refine ⟨by simp;omega,fun x hx=>?_⟩;rcases jAg.1 hx with hx | hx
        ·exact jC7 hx
        ·exact jCq hx
      have hs8:=f8.size;have cp1:=zCt db v1 D1 ⟨X.A,p,X.K⟩ (by omega) (fun x hx=>HG.out x (h1.2 x hx)) hXk w8 D8;have HR8:=hdd hR;have HL1:=hdd h1;clear hR Bw Bp7 H7 D7 F7 f8 h1;have Fp:=Bp8.f;have Fw:=Bw8.f;go_wp2_with fail;refine cp1.mono ?_;rintro e w9 ⟨k1,v2,rfl,hk1,D9,f9,fr9⟩;have Bw9:=f9.box Bw8 (by omega);have Bp9:=f9.box Bp8 (by omega);have H9:=H8.kept f9.grown hbd;have F9:=F8.trans2 f9 (fun k hk _=>.inr hk);have hln:(D1.take k1 ++ (⟨X.A,p,X.K⟩:Wl) :: D1.drop k1).length=D1.length+1:=by
       rw [jAa,jAm,jB3,jBm];have:=hk1.1;omega
      have cp2:=zCt db v2 (D1.take k1 ++ (⟨X.A,p,X.K⟩:Wl) :: D1.drop k1) ⟨p,X.B,X.K⟩ (by rw [hln];have:=HL1.out.1;omega) (fun x hx=>by
       rcases jAg.1 hx with hx | hx
       ·exact HG.out x (HL1.out.2 x (jC7 hx))
       ·rcases jA1.1 hx with rfl | hx
        ·exact hXk
        ·exact HG.out x (HL1.out.2 x (jCq hx))) hXk w9 D9
      have HK1:=hdd hk1;clear Fp Fw Bp8 Bw8 H8 D8 F8 f9 cp1 hln hk1;have Fp:=Bp9.f;have Fw:=Bw9.f;go_wp2_with fail;refine cp2.mono ?_;rintro e w10 ⟨k2,v3,rfl,hk2',D10,f10,fr10⟩;have H10:=H9.kept f10.grown hbd;have F10:=F9.trans2 f10 (fun k hk _=>.inr hk);have HADD:=hdd (show AddD D p ((D1.take k1 ++ (⟨X.A,p,X.K⟩:Wl) :: D1.drop k1).take k2 ++ (⟨p,X.B,X.K⟩:Wl) :: (D1.take k1 ++ (⟨X.A,p,X.K⟩:Wl) :: D1.drop k1).drop k2) from .inr ⟨X,r,D1,k1,k2,HO.out,HR8.out,HK1.out,hk2',rfl⟩);have HV:=hdd (show ∀ g,v3.ownBlock=some g→v.ownBlock=some g∨w.heap.size≤g from fun g e=>.inr (by have:=fr10 g e;have:=F9.size;omega));clear Fp Fw Bp9 Bw9 H9 D9 F9 f10 cp2 hk2' fr10 fr9 fr8;generalize ((D1.take k1 ++ (⟨X.A,p,X.K⟩:Wl) :: D1.drop k1).take k2 ++ (⟨p,X.B,X.K⟩:Wl) :: (D1.take k1 ++ (⟨X.A,p,X.K⟩:Wl) :: D1.drop k1).drop k2)=DD at *
      go_wp2
      go_ret
      exact ⟨v3,DD,rfl,by rw [HEE.out];exact H10,D10,HADD.out,F10,HV.out⟩
end
section
theorem zGh (f:Tri3→Bool):∀ (L:List Tri3),(∀ T∈L,valT T=true)→heads f (L.flatMap wys)=L.filter f
 | [],_=>rfl
 | T :: L,h=>by
  obtain ⟨a1,a2,a3⟩:=zFj (h T (by simp));rw [jA5,zAs,zGh f L (fun S hS=>h S (by simp [hS]))];have:heads f (wys T)=if f T=true then [T] else []:=by
   unfold heads wys;cases hf:f T <;> simp [Ne.symm a1,a3,hf]
  rw [this];cases hf:f T <;> simp [hf]
theorem good_heads {E:Es} {L:List Tri3} (h:Good E L) (f:Tri3→Bool):(heads f E).Perm (L.filter f):=by
 have:=zCl (p:=f) h.perm
 rwa [zGh f L h.val] at this
def isCb (p:Pt) (T:Tri3):Bool:=decide (p=T.A) || (decide (p=T.B) || decide (p=T.C))
theorem zMn {p:Pt} {T:Tri3}:isCb p T=true↔isCnr T p:=by
 unfold isCb isCnr;simp
theorem zGw (p:Pt):∀ (L:List Tri3),(∀ T∈L,valT T=true)→starE p (L.flatMap wys)=L.filter (isCb p)
 | [],_=>rfl
 | T :: L,h=>by
  obtain ⟨a1,a2,a3⟩:=zFj (h T (by simp));rw [jA5,zE1,zGw p L (fun S hS=>h S (by simp [hS]))];have:starE p (wys T)=if isCb p T=true then [T] else []:=by
   unfold starE wys isCb;by_cases h1:p=T.A
   ·subst h1;simp [Ne.symm a1,a3]
   ·by_cases h2:p=T.B
    ·subst h2;simp [a1,Ne.symm a2]
    ·by_cases h3:p=T.C
     ·subst h3;simp [Ne.symm a3,a2]
     ·simp [h1,h2,h3,Ne.symm h1,Ne.symm h2,Ne.symm h3]
  rw [this];cases hf:isCb p T <;> simp [hf]
theorem Good.star_f {E:Es} {L:List Tri3} (h:Good E L) (p:Pt):(starE p E).Perm (L.filter (isCb p)):=by
 have:=zIi (p:=p) h.perm
 rwa [zGw p L h.val] at this
theorem Good.star_nil {E:Es} {L:List Tri3} (h:Good E L) (p:Pt):starE p E=[]↔¬ someC L p:=by
 constructor
 ·intro e ⟨T,hT,hc⟩;have:=h.star_f p;rw [e] at this;have hm:T∈L.filter (isCb p):=jAq.2 ⟨hT,zMn.2 hc⟩;rw [←this.mem_iff] at hm;cases hm
 ·intro hn;have:=h.star_f p;refine List.Perm.eq_nil (this.trans ?_);rw [jDm.2 (fun T hT hc=>hn ⟨T,hT,zMn.1 hc⟩)]
theorem zHp {f g:Tri3→List Tri3}:∀ {L:List Tri3},(∀ T∈L,(f T).Perm (g T))→(L.flatMap f).Perm (L.flatMap g)
 | [],_=>.refl _
 | T :: L,h=>by
  rw [jA5,jA5];exact (h T (by simp)).append (zHp fun S hS=>h S (by simp [hS]))
theorem Good.putsF:∀ {I:List Tri3} {E:Es} {M:List Tri3},Good E M→(∀ T∈I,valT T=true)→((I ++ M).flatMap ways).Nodup→Good (I.foldl putF E) (I ++ M)
 | [],_,_,h,_,_=>h
 | T :: I,E,M,h,hv,hn=>by
  have hn':(ways T ++ (I ++ M).flatMap ways).Nodup:=by rw [←jA5];exact hn
  rw [jAz] at hn';obtain ⟨h1,h2⟩:=Good.put (E:=E) (T:=T) (M:=M) h (hv T (by simp)) (fun w hw k=>hn'.2.2 w hw w (by rw [jBe];exact jBa _ k) rfl);have:=Good.putsF (I:=I) h2 (fun S hS=>hv S (by simp [hS])) ((flat_perm (jC2 (a:=T) (l₁:=I) (l₂:=M))).nodup_iff.2 hn);have e:putF E T=putT E T:=by unfold putF;rw [jAc (zCb h1)]
  rw [List.foldl_cons,e];exact this.order jC2
theorem zI1 (f:Es→Tri3→Es) (g:Tri3→List Tri3):∀ (L:List Tri3) (E:Es),L.foldl (fun E T=>(g T).foldl f E) E=(L.flatMap g).foldl f E
 | [],_=>rfl
 | T :: L,E=>by rw [List.foldl_cons,jA5,jFa,zI1 f g L]
section
variable {W H:Int} {E:Es} {L:List Tri3} (hW:W < 16777216) (hH:H < 16777216) (g:Good E L) (t:Tiles W H L) {p:Pt}
include hW hH g t
omit t in
theorem zNe (hp:inBox W H p):(atE E p).Perm (L.filter fun T=>hasP T p)∧∀ T∈L,hasP T p=true↔hasT T p:=by
 have vp:vld p=true:=by rw [zAm];unfold inBox at hp;omega
 refine ⟨?_,fun T hT=>?_⟩
 ·unfold atE;exact (srt_perm _).trans (good_heads g _)
 ·rw [zMq (g.val T hT) vp];rfl
omit hW hH in
theorem at_none (hp:¬ inBox W H p):atE E p=[]:=by
 have h1:(atE E p).Perm (L.filter fun T=>hasP T p):=by unfold atE;exact (srt_perm _).trans (good_heads g _)
 refine List.Perm.eq_nil (h1.trans ?_);rw [jDm.2];intro T hT hh;have vp:vld p=true:=by
  unfold hasP at hh;simp only [jA3] at hh;exact hh.2.1
 exact hp (has_box (t.pos T hT) (t.box T hT) ((zMq (g.val T hT) vp).1 hh))
theorem zOi (hW0:0 < W) (hH0:0 < H) (hp:inBox W H p):atE E p≠[]:=by
 obtain ⟨h1,h2⟩:=zNe hW hH g hp;obtain ⟨T,hT,k⟩:=t.covers hW0 hH0 hp;intro e;rw [e] at h1;have:T∈L.filter fun T=>hasP T p:=jAq.2 ⟨hT,(h2 T hT).2 k⟩;rw [←h1.mem_iff] at this;cases this
theorem add_good (hW0:0 < W) (hH0:0 < H) (hp:inBox W H p) (hn:¬ someC L p):(∀ T∈atE E p,valT T=true)∧(∀ T∈atE E p,∀ U∈cutS p T,valT U=true)∧(atE E p).length≤2∧∃ L',Good (addPE E p) L'∧Tiles W H L'∧(∀ q,someC L' q↔someC L q∨q=p)∧(L'.length=L.length+2∧¬ atRim W H p∨L'.length=L.length+1∧atRim W H p):=by
 obtain ⟨h1,h2⟩:=zNe hW hH g hp;have hn':∀ T∈L,¬ isCnr T p:=fun T hT hc=>hn ⟨T,hT,hc⟩;obtain ⟨F,hF,f1,f2⟩:=t.spots hW0 hH0 hp hn' h2;have fa:=h1.trans f1;have hv:∀ T∈atE E p,valT T=true:=fun T hT=>g.val T (jAq.1 (h1.mem_iff.1 hT)).1;have hcut:∀ T∈atE E p,(cutS p T).Perm (cutP p T):=by
  intro T hT;have hm:=jAq.1 (h1.mem_iff.1 hT);have hc:=hn' T hm.1;have:cutOk T p=true:=by
   unfold cutOk isCnr at *;simp only [jFd] at hc;rw [hm.2,zBr.2 hc.1,zBr.2 hc.2.1,zBr.2 hc.2.2];rfl
  unfold cutS cutR;rw [jAc this];exact srt_perm _
 obtain ⟨t',tv⟩:=zK4 t hW0 hH0 hW hH hp hn' hF f2;obtain ⟨c1,c2⟩:=cut_counts t hW hH hp hF;have pI:((atE E p).flatMap (cutS p)).Perm (F.flatMap (cutP p)):=(zHp hcut).trans (fa.flatMap_right _);have lenF:F.length≤2:=by cases hF <;> simp
 refine ⟨hv,fun T hT U hU=>(tv U (pI.mem_iff.1 (jAh.2 ⟨T,hT,hU⟩))).1,by rw [fa.length_eq];exact lenF,(atE E p).flatMap (cutS p) ++ L.filter (fun x => !hasP x p),?_,?_,?_,?_⟩
 ·unfold addPE;rw [zI1];have k:=Good.takesF (F:=atE E p) (E:=E) (M:=L.filter fun x => !hasP x p) (g.order (f2.trans (fa.symm.append_right _)));refine Good.putsF k (fun U hU=>(tv U (pI.mem_iff.1 hU)).1) ?_;exact (flat_perm (pI.append_right _)).nodup_iff.2 t'.once
 ·exact t'.perm (pI.symm.append_right _)
 ·intro q;rw [zG1,zE9 pI,c1,zE9 f2,zG1];constructor
  ·rintro ((k | k) | k)
   ·exact .inl (.inl k)
   ·exact .inr k
   ·exact .inl (.inr k)
  ·rintro ((k | k) | k)
   ·exact .inl (.inl k)
   ·exact .inr k
   ·exact .inl (.inr k)
 ·have e1:L.length=F.length+(L.filter fun x => !hasP x p).length:=by rw [f2.length_eq,jAa]
  rw [jAa,pI.length_eq];rcases c2 with ⟨k1,k2⟩ | ⟨k1,k2⟩
  ·exact .inl ⟨by omega,k2⟩
  ·exact .inr ⟨by omega,k2⟩
end
end
section
attribute [local go_sem] rOper rAt rUpon cell_set sg_i64 sg_u64 alloc_cell alloc_frozen
attribute [local go_sem 10000] pt_eql pt_neq tri_eql
attribute [local irreducible] rWalk
structure CdtAt (w:World) (cb mb b db:Nat) (v:Value) (W H:Int) (E:Es) (D:List Wl):Prop where
 box:Box w cb [W,H,pt0 mb,pt0 db] 43
 mesh:Box w mb [.map (some b)] 90
 map:HoldsMap eW eT okW w b E
 doc:DocAt w db v D
 cdb:cb≠db
 mdb:mb≠db
theorem CdtAt.ext {w w':World} {cb mb b db n:Nat} {v:Value} {W H:Int} {E:Es} {D:List Wl} (S:CdtAt w cb mb b db v W H E D) (hb:Below n w w') (hn:n=w.heap.size):CdtAt w' cb mb b db v W H E D:=
 ⟨S.box.ext hb hn,S.mesh.ext hb hn,S.map.ext hb hn,S.doc.ext hb hn,S.cdb,S.mdb⟩
theorem CdtAt.ee {w w':World} {cb mb b db:Nat} {v:Value} {W H:Int} {E:Es} {D:List Wl} (S:CdtAt w cb mb b db v W H E D) (hb:Below w w w'):CdtAt w' cb mb b db v W H E D:=S.ext hb rfl
theorem add_kinds {D D':List Wl} {p:Pt} (h:AddD D p D') (hk:∀ x∈D,0≤x.K∧x.K≤2):(∀ x∈D',0≤x.K∧x.K≤2)∧D'.length≤D.length+2:=by
 rcases h with ⟨_,e⟩ | ⟨X,r,D1,k1,k2,hX,hR,h1,h2,e⟩
 ·rw [e];exact ⟨hk,by omega⟩
 ·have hXk:=hk X (jC6 hX);have hD1:D1.length≤D.length∧∀ x∈D1,x∈D:=by
   rcases hR with ⟨_,e,_⟩ | ⟨_,k,hk,_,e⟩
   ·rw [e];exact ⟨jA9 _,fun x hx=>hx⟩
   ·rw [e];refine ⟨by simp;omega,fun x hx=>?_⟩;rcases jAg.1 hx with hx | hx
    ·exact jC7 hx
    ·exact jCq hx
  have ins:∀ (L:List Wl) (Y:Wl) (k:Nat),(∀ x∈L,0≤x.K∧x.K≤2)→(0≤Y.K∧Y.K≤2)→∀ x∈insW L Y k,0≤x.K∧x.K≤2:=by
   intro L Y k hL hY x hx;unfold insW at hx;rcases jAg.1 hx with hx | hx
   ·exact hL x (jC7 hx)
   ·rcases jA1.1 hx with rfl | hx
    ·exact hY
    ·exact hL x (jCq hx)
  have len:∀ (L:List Wl) (Y:Wl) (k:Nat),(insW L Y k).length=L.length+1:=by
   intro L Y k;unfold insW;have:=(zCh (L:=L) (X:=Y) k).length_eq
   simpa using this
  rw [e];exact ⟨ins _ _ _ (ins _ _ _ (fun x hx=>hk x (hD1.2 x hx)) hXk) hXk,by rw [len,len];omega⟩
def AddRes (W H:Int) (L:List Tri3) (p:Pt) (r:Int):Prop:=(r=1∧¬ inBox W H p)∨(r=5∧inBox W H p∧someC L p)∨(r=0∧inBox W H p∧¬ someC L p)
end
end Go.Proofs.YtogffkimgmlilaaGreat
