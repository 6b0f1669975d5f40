/- Put together: DocE. -/
import Derived.Test.YtogffkimgmlilaaGreatPfb22
import Derived.Test.YtogffkimgmlilaaGreatPfb24
import Derived.Maps.AppendAt
import Derived.Laws.AppendOwnNone
set_option maxRecDepth 100000
set_option maxHeartbeats 8000000
set_option linter.all false
namespace Go.Proofs.YtogffkimgmlilaaGreat
open Go.RowKit Go.Sort _root_.Go.Proofs.Tryz
section
attribute [local go_sem] rOper rAt rUpon cell_set sg_i64 sg_u64 alloc_cell alloc_frozen
attribute [local go_sem 10000] pt_eql pt_neq wal_eql wal_neq
attribute [local irreducible] rWalk
theorem RowAt.partW {α : Type} {c : α → List Value} {k : Nat} {w : World} {a : Option Addr} {L : List α} (h : RowAt c k w a L) (lo m cap : Nat) (hcap : L.length ≤ cap) :
    RowAt c k w (if cap=lo then a else a.map fun x=>x.add (lo * k)) ((L.drop lo).take m):=fun j x hj=>by
 have hj2:L[lo+j]? = some x:=by
  rw [jBw] at hj;split at hj
  ·rwa [jCr] at hj
  ·cases hj
 obtain ⟨ad,h1,h2,h3⟩:=h (lo+j) x hj2;have hl:=(jAj.1 hj2).1;refine ⟨ad.add (lo * k),?_,by rw [zAo];exact h2,fun i u hu=>?_⟩
 ·rw [jA0 (by omega),h1];rfl
 ·rw [show (ad.add (lo * k)).add (j * k)=ad.add ((lo+j) * k) by rw [Go.Deep.add_add,←jFc]];exact h3 i u hu
theorem zG3 (a:Option Addr) (n cap lo:Nat) (h1:lo≤n) (w:World):(Instr.slice 37 (.slice a n cap) (some (.int .i64 lo)) none none).run prog w=.ok (.slice (if cap=lo then a else a.map fun x=>x.add (lo * 5)) (n - lo) (cap - lo)) w:=by
 simp [Instr.slice,Instr.sliceBounds,Instr.sliceBound,asIntOf,run_underlying underlying37,go_sem,h1]
theorem run_upto_wal (a:Option Addr) (n cap hi:Nat) (h1:hi≤cap) (w:World):(Instr.slice 37 (.slice a n cap) none (some (.int .i64 hi)) none).run prog w=.ok (.slice a hi cap) w:=by
 cases a <;> simp [Instr.slice,Instr.sliceBounds,Instr.sliceBound,asIntOf,run_underlying underlying37,go_sem,h1,Addr.add]
attribute [local go_sem ↓ 10000] zG3 run_upto_wal
theorem zAl {ops:Array Oper} {o:Oper} {a:Act} {w:World} {K:Act→World→Prop} {Q:Exit→Act→World→Prop} {E:Prop} (hw:Region.wanted o (yielded ops a.tmps)=true) (d x:Operand) (hop:o.op=Op.call { callee:=Callee.builtin Builtin.append,args:=#[d,x],argTypes:=#[37,37] }) (B:Nat) (v:Value) (L:List Wl) (hd:a.eval d=v) (hown:WRow w B v L) (ad:Option Addr) (n c:Nat) (M:List Wl) (hx:a.eval x=.slice ad n c) (hM:M.length=n) (hrow:RowAt cW 5 w ad M) (hfl:Flat ad) (hnil:ad=none→n=0∧c=0) (hL:L.length+n≤1000000) (hbase:B≤w.heap.size) (d0:Option Tmp) (hd0:o.dst=d0) (h:∀ w' v',WRow w' B v' (L ++ M)→Frm w w' (fun k=>v.ownBlock=some k)→Fresh v v' w.heap.size→K (a.put d0 v') w'):if Region.wanted o (yielded ops a.tmps)=true then Oper.wp prog o a w K Q else E:=by
 subst hd0;rw [jAc hw];obtain ⟨i0,hi,hz0,hz1,hz2⟩:=info_parts zEk;cases ad with
 | none=>
  obtain ⟨rfl,rfl⟩:=hnil rfl;have hM0:M=[]:=jCe hM;subst hM0;rw [jAs] at h;have hr:=run_append_owned_none (P:=prog) (w:=w) B 37 o.type 60 i0 5 underlying37 hi v L.length _ hown;unfold Oper.wp;simp [execOp,hop,resolve,invoke,builtin,hd,hx,hr,Result.andThen];exact h w v hown (Frm.refl w _) (fun g e=>.inl e)
 | some A=>
  have hA:A=⟨A.block,A.off,none⟩:=by have:=hfl A rfl;cases A;simp_all
  rw [hA] at hx hrow;obtain ⟨v',w',hr,h2,h3,_,h4⟩:=run_append_own_at (P:=prog) w B 37 o.type 60 i0 _ 5 40 underlying37 hi hz0 hz1 hz2 rfl (by decide) v L.length _ hown ⟨A.block,A.off,none⟩ n c (M.flatMap cW) (by rw [zAf zCs,hM]) (fun j u hu=>by rw [Addr.add_lit];exact (hrow.flat j u hu).2) (fun u hu=>by
   obtain ⟨y,_,hy⟩:=jAh.1 hu;exact zLp y u hy) (by unfold maxLen;omega) (by omega) hbase
  have hR:WRow w' B v' (L ++ M):=by
   unfold WRow;rw [jAa,jBe,hM];exact h2
  unfold Oper.wp;simp [execOp,hop,resolve,invoke,builtin,hd,hx,hr,Result.andThen];exact h w' v' hR (Frm.of_grown h3 (p:=fun k=>v.ownBlock=some k) (fun g e=>e)) (fun g e=>by
   rcases h4 with h4 | h4
   ·exact .inl (h4▸e)
   ·right;rw [h4] at e;exact Nat.le_of_eq (jAl e))
theorem zF4 (w:World) (B:Nat) (hB:B≤w.heap.size):WRow (w.alloc (.cells #[] 60)) B (.slice (some ⟨w,0,none⟩) 0 0) []:=World.ownsRow_made w #[] 0 hB (jAt _) (by simp)
structure DocAt (w:World) (db:Nat) (v:Value) (L:List Wl):Prop where
 box:Box w db [v] 50
 row:WRow w 0 v L
 ne:v.ownBlock≠some db
 le:L.length≤1000000
theorem DocAt.rd {w:World} {db:Nat} {v:Value} {L:List Wl} (S:DocAt w db v L):∃ a c,v=.slice a L.length c∧DocRd w db a c L.length L∧(a=none→L=[]∧c=0):=by
 obtain ⟨a,c,h1,h2,h3⟩:=S.row.row;refine ⟨a,c,h1,⟨h1▸S.box,h2,rfl,S.le,?_,h3⟩,fun e=>?_⟩
 ·rcases S.row.box with ⟨e,e2⟩ | ⟨_,_,_,e,_,_,h,_⟩
  ·rw [e2];exact jAt _
  ·rw [h1] at e;simp only [Value.slice.injEq] at e;omega
 ·rcases S.row.box with ⟨e1,e2⟩ | ⟨_,_,_,e2,_⟩
  ·rw [h1] at e1;simp only [Value.slice.injEq] at e1;exact ⟨e2,e1.2.2⟩
  ·rw [h1,e] at e2;simp at e2
theorem DocAt.ext {w w':World} {db:Nat} {v:Value} {L:List Wl} {n:Nat} (S:DocAt w db v L) (hb:Below n w w') (hn:n=w.heap.size):DocAt w' db v L:=
 ⟨S.box.ext hb hn,S.row.ext hb hn,S.ne,S.le⟩
theorem DocAt.ee {w w':World} {db:Nat} {v:Value} {L:List Wl} (S:DocAt w db v L) (hb:Below w w w'):DocAt w' db v L:=S.ext hb rfl
theorem zGk {w wq:World} {db:Nat} {v v':Value} {L L':List Wl} (S:DocAt w db v L) (hb:Below w w wq) (hown:WRow wq w.heap.size v' L') (hl:L'.length≤1000000):DocAt (wq.setCell ⟨db,0,none⟩ v') db v' L'∧Frm w (wq.setCell ⟨db,0,none⟩ v') (· = db)∧(∀ g,v'.ownBlock=some g→w.heap.size≤g):=by
 have hdb:=S.box.lt;have hge:∀ g,v'.ownBlock=some g→w.heap.size≤g:=fun g e=>(hown.lt g e).1;have BQ:Box wq db [v] 50:=S.box.ee hb;have hne:v'.ownBlock≠some db:=fun e=>by have:=hge db e;omega
 exact ⟨⟨BQ.set 0 v',((Frm.refl wq (· = db)).setCell ⟨db,0,none⟩ rfl v').row (hown.base (jAt _)) (fun g e=>fun h=>hne (by rw [e,h])),hne,hl⟩,(Frm.of_below (p:=(· = db)) hb).setCell ⟨db,0,none⟩ rfl v',hge⟩
def PutAt (L:List Wl) (X:Wl) (k:Nat):Prop:=k≤L.length∧(∀ (j:Nat) (h:j < L.length),k≤j→0 < cmpW L[j] X)∧(∀ h:k - 1 < L.length,0 < k→¬ 0 < cmpW L[k - 1] X)
theorem zFv {w:World} {a0:Option Addr} {c n k:Nat} {L:List Wl} (hrow:RowAt cW 5 w a0 L) (hl:L.length=n) (hnc:n≤c) (hfl:Flat a0) (hk:k≤n) (hz:a0=none→L=[]∧c=0):∃ ad,(if c=k then a0 else a0.map fun x=>x.add (k * 5))=ad∧RowAt cW 5 w ad (L.drop k)∧Flat ad∧(ad=none→n - k=0∧c - k=0):=by
 have h:=hrow.partW k (n - k) c (by omega);rw [jAe (by rw [jBm];omega)] at h;refine ⟨_,rfl,h,fun A hA=>?_,fun e=>?_⟩
 ·split at hA
  ·exact hfl A hA
  ·cases a0 with
   | none=>cases hA
   | some A0=>
    have h0:=hfl A0 rfl;have:A0=⟨A0.block,A0.off,none⟩:=by cases A0;simp_all
    rw [this] at hA;simp only [jDz,Addr.add_lit,jCh] at hA;rw [←hA]
 ·have h0 : a0 = none := by
    split at e
    ·exact e
    ·cases a0 with
     | none=>rfl
     | some _=>cases e
  obtain ⟨h1,h2⟩:=hz h0;subst h1 h2;simp at hl;omega
theorem zCt (db:Nat) (v:Value) (L:List Wl) (X:Wl) (hL:L.length < 1000000) (hgk:∀ x∈L,0≤x.K∧x.K≤2) (hXk:0≤X.K∧X.K≤2) (w:World) (S:DocAt w db v L):Calls prog 49 #[pt0 db,.agg #[X.A.x,X.A.y,X.B.x,X.B.y,X.K]] w fun e w'=>∃ k v',e=.returned (.tuple #[])∧PutAt L X k∧DocAt w' db v' (L.take k ++ X :: L.drop k)∧Frm w w' (· = db)∧(∀ g,v'.ownBlock=some g→w.heap.size≤g):=by
 obtain ⟨a0,c,rfl,D,hz⟩:=S.rd;have HS:=hdd S;clear S;have hdb:=D.box.lt;obtain ⟨n,hn⟩:∃ n,L.length=n:=⟨_,rfl⟩;rw [hn] at D hL HS;have HM:=hdd hn;have hnc:=D.nc;have hfl:=D.flat;obtain ⟨d0,d1,d2,d3⟩:=D.box.f;have HD:=hdd D;have HG:=hdd hgk;have HXK:=hdd hXk;clear D hn hgk hXk
 go_enter func49,ntmps49
 go_wp2_with fail;refine zA1 fun W1 hW=>?_;have BX:Box W1 w [X.A.x,X.A.y,X.B.x,X.B.y,X.K] 60:=by rw [hW];exact Box.new rfl
 have hw:Below w w W1:=by rw [hW];go_grown
 clear hW d0 d1 d2 d3
 go_loopw [4] (fun vat wr=>∃ k:Nat,k≤n∧vat=.int .i64 k∧Hid (∀ (j:Nat) (h:j < L.length),k≤j→0 < cmpW L[j] X)∧Below w w wr∧Box wr w [X.A.x,X.A.y,X.B.x,X.B.y,X.K] 60) (fun vat _=>(intOf vat).toNat)
 case atStart=>exact ⟨n,jA9 _,rfl,hdd (fun j h hj=>by have:=HM.out;omega),hw,BX⟩
 case round=>
  clear BX hw;obtain ⟨k,hk,rfl,HA,hwr,BX⟩:=hrel;have BD:=(HD.out.ee hwr).box;have hrow:=(HD.out.ee hwr).row;by_cases hk0:k=0
  ·have q1:decide (0 < k)=false:=by simp;omega
   have HK0:=hdd hk0;clear hk0;have g_XD:=J2 BX.cells BD.cells;obtain ⟨d0,d1,d2,d3⟩:=BD.f;go_wp2_with fail;refine (wp_region_tail 14 (by kernel_rfl) (by kernel_rfl) (C:=fun w'=>∃ p:Regrown,w'=grow (redrawn wr p.d) p.os) rgB ?_);simp only [tK1,tK0,dP1,dP0];refine wkx ?_;intro wx hb;replace BX:=BX.ee hb;replace BD:=BD.ee hb;replace hrow:=hrow.ee hb;replace hwr:=upB hwr hb;clear hb;clear g_XD d0 d1 d2 d3 q1;have HPUT:Hid (PutAt L X k):=hdd ⟨by rw [HM.out];exact hk,HA.out,fun _ h=>by have:=HK0.out;omega⟩;obtain ⟨ad,had,hdr,hfl2,hnil⟩:=zFv hrow HM.out hnc hfl hk hz;have HAD:=hdd had;have HT1:=hdd (show (L.take k).length=k by rw [jB3,HM.out];omega);have HT2:=hdd (show (L.drop k).length=n - k by rw [jBm,HM.out]);clear had HA;have g_XD:=J2 BX.cells BD.cells;obtain ⟨d0,d1,d2,d3⟩:=BD.f;have z2:k≤c:=by omega
   go_wp2_with fail;clear d0 d1 d2 d3;have hcB:∀ w',(∃ p:Regrown,w'=grow (redrawn wx p.d) p.os)→Below wx wx w':=fun w' h=>by obtain ⟨p,rfl⟩:=h;exact below_regrown _ _ _
   refine FT.wp_region_flow 19 (.run 0 (.run 2 (.run 3 (.run 4 (.run 5 (.run 6 (.run 7 (.run 9 (.run 12 (.run 13 (.run 14 (.run 15 (.run 16 (.run 17 (.alt 1 (.alt 8 (.alt 10 (.alt 11 (.alt 18 (.tail) .stop) .stop) .stop) (.alt 10 (.alt 8 (.alt 11 (.alt 18 (.tail) .stop) .stop) .stop) .stop)) (.alt 10 (.alt 1 (.alt 8 (.alt 11 (.alt 18 (.tail) .stop) .stop) .stop) .stop) .stop)))))))))))))))) rfl (by kernel_rfl) (fun _ x _ _ _ h=>by cases x <;> exact h) (C:=fun w'=>∃ p:Regrown,w'=grow (redrawn wx p.d) p.os) rgB hcB ?_;have hC:∀ x y,Ext x y→(∃ p:Regrown,x=grow (redrawn wx p.d) p.os)→(∃ p:Regrown,y=grow (redrawn wx p.d) p.os):=fun x y h1 h2=>regrown_of_below ((hcB x h2).trans (h1.mono (hcB x h2).size))
   iterate 14 (refine FT.flow_run rfl (fun K hK=>?_);go_simp;first | (refine hK _ ?_;clear hK K) | (apply Exists.intro;refine ⟨fun _=>?_,hK _ ?_⟩;rotate_left;clear hK K))
   first | rw [HAD.out] | (have hq:=HAD.out;simp only [jDz] at hq;rw [hq];clear hq)
   refine FT.flow_at hC rfl ?y10 (fun w1 hw1 K hK=>?y1)
   case y1=>
    go_simp;have hbM:Below wx wx (w1.alloc (.cells #[] 60)):=Below.alloc hw1 (Below.size hw1) _;have hrM:=zF4 w1 wx.heap.size (Below.size hw1);refine hK _ _ (regrown_of_below hbM) ?_;clear hK K;refine FT.flow_at hC rfl ?z10 (fun w2 hw2 K hK=>?z8)
    case z8=>
     have hb2:=hbM.trans (Below.mono hw2 hbM.size);refine zAl (by rfl) _ _ (by rfl) wx.heap.size _ [] (by rfl) (hrM.ee hw2) _ k c (L.take k) (by rfl) HT1.out ((hrow.ee hb2).take k) hfl (fun e=>⟨by have h1:=(hz e).1;have h2:=HM.out;rw [h1] at h2;simp at h2;omega,(hz e).2⟩) (by simp;omega) (Below.size hb2) (some 35) (by rfl) ?_;intro w3 v12 hr12 hf12 hs12;rw [jBd] at hr12;have hb3:=hb2.trans (hf12.below (fun k e=>((hrM.ee hw2).lt k e).1) hb2.size);refine hK _ _ (regrown_of_below hb3) ?_;clear hK K;simp only [Act.put,sT2,sT1,sT0];refine FT.flow_at hC rfl trivial (fun w9 hw9 K hK=>?_);go_simp;have hb9:=(upB hb3 hw9);have hbW:=hb9.alloc hb9.size (.cells #[X.A.x,X.A.y,X.B.x,X.B.y,X.K] 60);refine hK _ _ (regrown_of_below hbW) ?_;clear hK K;obtain ⟨bx,hbx0⟩:∃ bx,w9.heap.size=bx:=⟨_,rfl⟩;have hbx:Box (w9.alloc (.cells #[X.A.x,X.A.y,X.B.x,X.B.y,X.K] 60)) bx (cW X) 60:=by rw [←hbx0];exact Box.new rfl
     replace hr12:=(hr12.ee hw9).alloc (.cells #[X.A.x,X.A.y,X.B.x,X.B.y,X.K] 60);rw [hbx0];clear hbx0;refine FT.flow_at hC rfl trivial (fun w4 hw4 K hK=>?_);have hb4:=(upB hbW hw4);refine zAl (by rfl) _ _ (by rfl) wx.heap.size v12 (L.take k) (by rfl) (hr12.ee hw4) (some ⟨bx,0,none⟩) 1 1 [X] (by rfl) rfl (zDr (by simpa using hbx.ee hw4)) (zF6 _ _) (fun e=>by cases e) (by rw [HT1.out];omega) hb4.size (some 38) (by rfl) ?_;intro w5 v13 hr13 hf13 hs13;have hb5:=hb4.trans (hf13.below (fun k e=>((hr12.ee hw4).lt k e).1) hb4.size);refine hK _ _ (regrown_of_below hb5) ?_;clear hK K;simp only [Act.put,sT2,sT1,sT0];refine FT.flow_at hC rfl trivial (fun w6 hw6 K hK=>?_);have hb6:=(upB hb5 hw6);refine zAl (by rfl) _ _ (by rfl) wx.heap.size v13 (L.take k ++ [X]) (by rfl) (hr13.ee hw6) ad (n - k) (c - k) (L.drop k) (by rfl) HT2.out (hdr.ee hb6) hfl2 hnil (by rw [jAa,HT1.out];simp;omega) hb6.size (some 45) (by rfl) ?_;intro w7 v18 hr18 hf18 hs18;have hb7:=hb6.trans (hf18.below (fun k e=>((hr13.ee hw6).lt k e).1) hb6.size);refine hK _ _ (regrown_of_below hb7) ?_;clear hK K;simp only [Act.put,sT2,sT1,sT0];intro w8 hw8;have hb8:=(upB hb7 hw8);have BD8:=BD.ee hb8;have hw8':=(upB hwr hb8);obtain ⟨hS8,hF8,hG8⟩:=zGk HS.out hw8' ((hr18.ee hw8).base hwr.size) (by rw [jAa,jAa,HT1.out,HT2.out,jCc];omega);obtain ⟨a18,n18,c18,rfl⟩:=hr18.form;obtain ⟨d0,d1,d2,d3⟩:=BD8.f;clear hr12 hr13 hr18 hf13 hs13 hf18 hs18 hbx g_XD;simp only [dP1,dP0];go_wp2;rw [jAr,jD9] at hS8;exact ⟨rfl,.tuple #[],by simp [results,results49,go_sem],k,_,rfl,HPUT.out,hS8,hF8,hG8⟩
    case z10=>
     refine FT.flow_at hC rfl trivial (fun w9 hw9 K hK=>?_);go_simp;have hb9:=hbM.trans (Below.mono hw9 hbM.size);have hbN:=hb9.alloc hb9.size (.cells #[X.A.x,X.A.y,X.B.x,X.B.y,X.K] 60);refine hK _ _ (regrown_of_below hbN) ?_;clear hK K;have hrM9:=(hrM.ee hw9).alloc (.cells #[X.A.x,X.A.y,X.B.x,X.B.y,X.K] 60);obtain ⟨bx,hbx0⟩:∃ bx,w9.heap.size=bx:=⟨_,rfl⟩;have hbx9:Box (w9.alloc (.cells #[X.A.x,X.A.y,X.B.x,X.B.y,X.K] 60)) bx (cW X) 60:=by rw [←hbx0];exact Box.new rfl
     have hne:¬ Value.ownBlock (.slice (some ⟨w1,0,none⟩) 0 0)=some bx:=fun e=>by
      have h1:=Below.size hw9;have e2:w1.heap.size=bx:=by simpa [Value.ownBlock] using e
      simp at h1;omega
     rw [hbx0];clear hbx0;refine FT.flow_at hC rfl trivial (fun w2 hw2 K hK=>?_);have hb2:=hbN.trans (Below.mono hw2 hbN.size);refine zAl (by rfl) _ _ (by rfl) wx.heap.size _ [] (by rfl) (hrM9.ee hw2) _ k c (L.take k) (by rfl) HT1.out ((hrow.ee hb2).take k) hfl (fun e=>⟨by have h1:=(hz e).1;have h2:=HM.out;rw [h1] at h2;simp at h2;omega,(hz e).2⟩) (by simp;omega) (Below.size hb2) (some 35) (by rfl) ?_;intro w3 v12 hr12 hf12 hs12;rw [jBd] at hr12;have hbW:=hb2.trans (hf12.below (fun k e=>((hrM9.ee hw2).lt k e).1) hb2.size);have hbx:=hf12.box (hbx9.ee hw2) hne;refine hK _ _ (regrown_of_below hbW) ?_;clear hK K;simp only [Act.put,sT2,sT1,sT0];refine FT.flow_at hC rfl trivial (fun w4 hw4 K hK=>?_);have hb4:=(upB hbW hw4);refine zAl (by rfl) _ _ (by rfl) wx.heap.size v12 (L.take k) (by rfl) (hr12.ee hw4) (some ⟨bx,0,none⟩) 1 1 [X] (by rfl) rfl (zDr (by simpa using hbx.ee hw4)) (zF6 _ _) (fun e=>by cases e) (by rw [HT1.out];omega) hb4.size (some 38) (by rfl) ?_;intro w5 v13 hr13 hf13 hs13;have hb5:=hb4.trans (hf13.below (fun k e=>((hr12.ee hw4).lt k e).1) hb4.size);refine hK _ _ (regrown_of_below hb5) ?_;clear hK K;simp only [Act.put,sT2,sT1,sT0];refine FT.flow_at hC rfl trivial (fun w6 hw6 K hK=>?_);have hb6:=(upB hb5 hw6);refine zAl (by rfl) _ _ (by rfl) wx.heap.size v13 (L.take k ++ [X]) (by rfl) (hr13.ee hw6) ad (n - k) (c - k) (L.drop k) (by rfl) HT2.out (hdr.ee hb6) hfl2 hnil (by rw [jAa,HT1.out];simp;omega) hb6.size (some 45) (by rfl) ?_;intro w7 v18 hr18 hf18 hs18;have hb7:=hb6.trans (hf18.below (fun k e=>((hr13.ee hw6).lt k e).1) hb6.size);refine hK _ _ (regrown_of_below hb7) ?_;clear hK K;simp only [Act.put,sT2,sT1,sT0];intro w8 hw8;have hb8:=(upB hb7 hw8);have BD8:=BD.ee hb8;have hw8':=(upB hwr hb8);obtain ⟨hS8,hF8,hG8⟩:=zGk HS.out hw8' ((hr18.ee hw8).base hwr.size) (by rw [jAa,jAa,HT1.out,HT2.out,jCc];omega);obtain ⟨a18,n18,c18,rfl⟩:=hr18.form;obtain ⟨d0,d1,d2,d3⟩:=BD8.f;clear hr12 hr13 hr18 hf13 hs13 hf18 hs18 hbx g_XD;simp only [dP1,dP0];go_wp2;rw [jAr,jD9] at hS8;exact ⟨rfl,.tuple #[],by simp [results,results49,go_sem],k,_,rfl,HPUT.out,hS8,hF8,hG8⟩
   case y10=>
    refine FT.flow_at hC rfl trivial (fun w9 hw9 K hK=>?_);go_simp;have hbN:Below wx wx (w9.alloc (.cells #[X.A.x,X.A.y,X.B.x,X.B.y,X.K] 60)):=Below.alloc hw9 (Below.size hw9) _;refine hK _ _ (regrown_of_below hbN) ?_;clear hK K;obtain ⟨bx,hbx0⟩:∃ bx,w9.heap.size=bx:=⟨_,rfl⟩;have hbx9:Box (w9.alloc (.cells #[X.A.x,X.A.y,X.B.x,X.B.y,X.K] 60)) bx (cW X) 60:=by rw [←hbx0];exact Box.new rfl
    rw [hbx0];clear hbx0;refine FT.flow_at hC rfl trivial (fun w1 hw1 K hK=>?_);have hb1:=hbN.trans (Below.mono hw1 hbN.size);have hrM:=zF4 w1 wx.heap.size hb1.size;go_simp;have hbM:=hb1.alloc hb1.size (.cells #[] 60);refine hK _ _ (regrown_of_below hbM) ?_;clear hK K;have hbx1:=(hbx9.ee hw1).old (.cells #[] 60);have hne:¬ Value.ownBlock (.slice (some ⟨w1,0,none⟩) 0 0)=some bx:=fun e=>by
     have h1:=(hbx9.ee hw1).lt;have e2:w1.heap.size=bx:=by simpa [Value.ownBlock] using e
     omega
    refine FT.flow_at hC rfl trivial (fun w2 hw2 K hK=>?_);have hb2:=hbM.trans (Below.mono hw2 hbM.size);refine zAl (by rfl) _ _ (by rfl) wx.heap.size _ [] (by rfl) (hrM.ee hw2) _ k c (L.take k) (by rfl) HT1.out ((hrow.ee hb2).take k) hfl (fun e=>⟨by have h1:=(hz e).1;have h2:=HM.out;rw [h1] at h2;simp at h2;omega,(hz e).2⟩) (by simp;omega) (Below.size hb2) (some 35) (by rfl) ?_;intro w3 v12 hr12 hf12 hs12;rw [jBd] at hr12;have hbW:=hb2.trans (hf12.below (fun k e=>((hrM.ee hw2).lt k e).1) hb2.size);have hbx:=hf12.box (hbx1.ee hw2) hne;refine hK _ _ (regrown_of_below hbW) ?_;clear hK K;simp only [Act.put,sT2,sT1,sT0];refine FT.flow_at hC rfl trivial (fun w4 hw4 K hK=>?_);have hb4:=(upB hbW hw4);refine zAl (by rfl) _ _ (by rfl) wx.heap.size v12 (L.take k) (by rfl) (hr12.ee hw4) (some ⟨bx,0,none⟩) 1 1 [X] (by rfl) rfl (zDr (by simpa using hbx.ee hw4)) (zF6 _ _) (fun e=>by cases e) (by rw [HT1.out];omega) hb4.size (some 38) (by rfl) ?_;intro w5 v13 hr13 hf13 hs13;have hb5:=hb4.trans (hf13.below (fun k e=>((hr12.ee hw4).lt k e).1) hb4.size);refine hK _ _ (regrown_of_below hb5) ?_;clear hK K;simp only [Act.put,sT2,sT1,sT0];refine FT.flow_at hC rfl trivial (fun w6 hw6 K hK=>?_);have hb6:=(upB hb5 hw6);refine zAl (by rfl) _ _ (by rfl) wx.heap.size v13 (L.take k ++ [X]) (by rfl) (hr13.ee hw6) ad (n - k) (c - k) (L.drop k) (by rfl) HT2.out (hdr.ee hb6) hfl2 hnil (by rw [jAa,HT1.out];simp;omega) hb6.size (some 45) (by rfl) ?_;intro w7 v18 hr18 hf18 hs18;have hb7:=hb6.trans (hf18.below (fun k e=>((hr13.ee hw6).lt k e).1) hb6.size);refine hK _ _ (regrown_of_below hb7) ?_;clear hK K;simp only [Act.put,sT2,sT1,sT0];intro w8 hw8;have hb8:=(upB hb7 hw8);have BD8:=BD.ee hb8;have hw8':=(upB hwr hb8);obtain ⟨hS8,hF8,hG8⟩:=zGk HS.out hw8' ((hr18.ee hw8).base hwr.size) (by rw [jAa,jAa,HT1.out,HT2.out,jCc];omega);obtain ⟨a18,n18,c18,rfl⟩:=hr18.form;obtain ⟨d0,d1,d2,d3⟩:=BD8.f;clear hr12 hr13 hr18 hf13 hs13 hf18 hs18 hbx g_XD;simp only [dP1,dP0];go_wp2;rw [jAr,jD9] at hS8;exact ⟨rfl,.tuple #[],by simp [results,results49,go_sem],k,_,rfl,HPUT.out,hS8,hF8,hG8⟩
  ·obtain ⟨i,hik⟩:∃ i,i+1=k:=⟨k - 1,by omega⟩;have hkL:i < L.length:=by rw [HM.out];omega
   have hkn:i < n:=by omega
   obtain ⟨aj,A,ea,eA,hA5⟩:=hrow.five (j:=i) hkL;have c5:=rcmpW_any L[i] X (HG.out _ (jAx hkL)) HXK.out;have HZ:Hid (cmpW L[i] X=cmpW L[i] X):=hdd rfl;generalize hz0:cmpW L[i] X=z at c5 HZ
   clear HZ;have HZ:=hdd hz0;clear hz0;have HY:Hid (L[i]=L[i]):=hdd rfl;generalize hY:L[i]=Y at hA5 c5 HY HZ
   clear HY;have HY:=hdd hY;clear hY;obtain ⟨s0,s1,s2,s3,s4⟩:=hA5.cells;have g_XD:=J2 BX.cells BD.cells;obtain ⟨d0,d1,d2,d3⟩:=BD.f;have q1:decide (0 < k)=true:=by simp;omega
   have q0:(0:Int) < (k:Int):=by omega
   have q2:IntKind.i64.wrap ((k:Int) - 1)=(i:Int):=by rw [IntKind.wrap_i64];omega
   have q3:(i:Int) < (n:Int):=by omega
   have q4:(0:Int)≤(i:Int):=by omega
   have HIK:=hdd hik;clear hik hk0;subst ea;clear hA5;cases ez:decide (0 < z) with
   | true=>
    have HA2:Hid (∀ (j:Nat) (h:j < L.length),i≤j→0 < cmpW L[j] X):=hdd (fun j h hj=>by
     by_cases e:j=i
     ·subst e;rw [HY.out,HZ.out];simpa using ez
     ·exact HA.out j h (by have:=HIK.out;omega))
    clear HA HY HZ;go_wp2_with fail;refine (wp_region_tail 14 (by kernel_rfl) (by kernel_rfl) (C:=fun w'=>∃ p:Regrown,w'=grow (redrawn wr p.d) p.os) rgB ?_);simp only [tK1,tK0,dP1,dP0];refine wkx ?_;intro wx hb;replace BX:=BX.ee hb;replace BD:=BD.ee hb;replace hrow:=hrow.ee hb;replace hwr:=upB hwr hb;clear hb;clear g_XD d0 d1 d2 d3 q1 q2 q3 q4 s0 s1 s2 s3 s4 c5;have HB:=hdd BX;have HW:=hdd hwr;clear BX hwr BD hrow;go_wp2
    go_roundw
    case rel=>exact ⟨i,by omega,by rw [show (i:Int)=(k:Int) - 1 by have:=HIK.out;omega],HA2,HW.out,HB.out⟩
    case measure=>simp [intOf];omega
   | false=>
    have HTOP:Hid (∀ h:k - 1 < L.length,0 < k→¬ 0 < cmpW L[k - 1] X):=hdd (fun h _=>by
     have e:k - 1=i:=by have:=HIK.out;omega
     have h2:L[k - 1]=L[i]:=by simp only [e]
     rw [h2,HY.out,HZ.out];simpa using ez)
    clear HY HZ;go_wp2_with fail;refine (wp_region_tail 14 (by kernel_rfl) (by kernel_rfl) (C:=fun w'=>∃ p:Regrown,w'=grow (redrawn wr p.d) p.os) rgB ?_);simp only [tK1,tK0,dP1,dP0];refine wkx ?_;intro wx hb;replace BX:=BX.ee hb;replace BD:=BD.ee hb;replace hrow:=hrow.ee hb;replace hwr:=upB hwr hb;clear hb;clear g_XD d0 d1 d2 d3 q0 q1 q2 q3 q4 s0 s1 s2 s3 s4 c5;have HPUT:Hid (PutAt L X k):=hdd ⟨by rw [HM.out];exact hk,HA.out,fun h h0=>by have:=HTOP.out h h0;omega⟩;obtain ⟨ad,had,hdr,hfl2,hnil⟩:=zFv hrow HM.out hnc hfl hk hz;have HAD:=hdd had;have HT1:=hdd (show (L.take k).length=k by rw [jB3,HM.out];omega);have HT2:=hdd (show (L.drop k).length=n - k by rw [jBm,HM.out]);clear had HA;have g_XD:=J2 BX.cells BD.cells;obtain ⟨d0,d1,d2,d3⟩:=BD.f;have z2:k≤c:=by omega
    go_wp2_with fail;clear d0 d1 d2 d3;have hcB:∀ w',(∃ p:Regrown,w'=grow (redrawn wx p.d) p.os)→Below wx wx w':=fun w' h=>by obtain ⟨p,rfl⟩:=h;exact below_regrown _ _ _
    refine FT.wp_region_flow 19 (.run 0 (.run 2 (.run 3 (.run 4 (.run 5 (.run 6 (.run 7 (.run 9 (.run 12 (.run 13 (.run 14 (.run 15 (.run 16 (.run 17 (.alt 1 (.alt 8 (.alt 10 (.alt 11 (.alt 18 (.tail) .stop) .stop) .stop) (.alt 10 (.alt 8 (.alt 11 (.alt 18 (.tail) .stop) .stop) .stop) .stop)) (.alt 10 (.alt 1 (.alt 8 (.alt 11 (.alt 18 (.tail) .stop) .stop) .stop) .stop) .stop)))))))))))))))) rfl (by kernel_rfl) (fun _ x _ _ _ h=>by cases x <;> exact h) (C:=fun w'=>∃ p:Regrown,w'=grow (redrawn wx p.d) p.os) rgB hcB ?_;have hC:∀ x y,Ext x y→(∃ p:Regrown,x=grow (redrawn wx p.d) p.os)→(∃ p:Regrown,y=grow (redrawn wx p.d) p.os):=fun x y h1 h2=>regrown_of_below ((hcB x h2).trans (h1.mono (hcB x h2).size))
    iterate 14 (refine FT.flow_run rfl (fun K hK=>?_);go_simp;first | (refine hK _ ?_;clear hK K) | (apply Exists.intro;refine ⟨fun _=>?_,hK _ ?_⟩;rotate_left;clear hK K))
    first | rw [HAD.out] | (have hq:=HAD.out;simp only [jDz] at hq;rw [hq];clear hq)
    refine FT.flow_at hC rfl ?y10 (fun w1 hw1 K hK=>?y1)
    case y1=>
     go_simp;have hbM:Below wx wx (w1.alloc (.cells #[] 60)):=Below.alloc hw1 (Below.size hw1) _;have hrM:=zF4 w1 wx.heap.size (Below.size hw1);refine hK _ _ (regrown_of_below hbM) ?_;clear hK K;refine FT.flow_at hC rfl ?z10 (fun w2 hw2 K hK=>?z8)
     case z8=>
      have hb2:=hbM.trans (Below.mono hw2 hbM.size);refine zAl (by rfl) _ _ (by rfl) wx.heap.size _ [] (by rfl) (hrM.ee hw2) _ k c (L.take k) (by rfl) HT1.out ((hrow.ee hb2).take k) hfl (fun e=>⟨by have h1:=(hz e).1;have h2:=HM.out;rw [h1] at h2;simp at h2;omega,(hz e).2⟩) (by simp;omega) (Below.size hb2) (some 35) (by rfl) ?_;intro w3 v12 hr12 hf12 hs12;rw [jBd] at hr12;have hb3:=hb2.trans (hf12.below (fun k e=>((hrM.ee hw2).lt k e).1) hb2.size);refine hK _ _ (regrown_of_below hb3) ?_;clear hK K;simp only [Act.put,sT2,sT1,sT0];refine FT.flow_at hC rfl trivial (fun w9 hw9 K hK=>?_);go_simp;have hb9:=(upB hb3 hw9);have hbW:=hb9.alloc hb9.size (.cells #[X.A.x,X.A.y,X.B.x,X.B.y,X.K] 60);refine hK _ _ (regrown_of_below hbW) ?_;clear hK K;obtain ⟨bx,hbx0⟩:∃ bx,w9.heap.size=bx:=⟨_,rfl⟩;have hbx:Box (w9.alloc (.cells #[X.A.x,X.A.y,X.B.x,X.B.y,X.K] 60)) bx (cW X) 60:=by rw [←hbx0];exact Box.new rfl
      replace hr12:=(hr12.ee hw9).alloc (.cells #[X.A.x,X.A.y,X.B.x,X.B.y,X.K] 60);rw [hbx0];clear hbx0;refine FT.flow_at hC rfl trivial (fun w4 hw4 K hK=>?_);have hb4:=(upB hbW hw4);refine zAl (by rfl) _ _ (by rfl) wx.heap.size v12 (L.take k) (by rfl) (hr12.ee hw4) (some ⟨bx,0,none⟩) 1 1 [X] (by rfl) rfl (zDr (by simpa using hbx.ee hw4)) (zF6 _ _) (fun e=>by cases e) (by rw [HT1.out];omega) hb4.size (some 38) (by rfl) ?_;intro w5 v13 hr13 hf13 hs13;have hb5:=hb4.trans (hf13.below (fun k e=>((hr12.ee hw4).lt k e).1) hb4.size);refine hK _ _ (regrown_of_below hb5) ?_;clear hK K;simp only [Act.put,sT2,sT1,sT0];refine FT.flow_at hC rfl trivial (fun w6 hw6 K hK=>?_);have hb6:=(upB hb5 hw6);refine zAl (by rfl) _ _ (by rfl) wx.heap.size v13 (L.take k ++ [X]) (by rfl) (hr13.ee hw6) ad (n - k) (c - k) (L.drop k) (by rfl) HT2.out (hdr.ee hb6) hfl2 hnil (by rw [jAa,HT1.out];simp;omega) hb6.size (some 45) (by rfl) ?_;intro w7 v18 hr18 hf18 hs18;have hb7:=hb6.trans (hf18.below (fun k e=>((hr13.ee hw6).lt k e).1) hb6.size);refine hK _ _ (regrown_of_below hb7) ?_;clear hK K;simp only [Act.put,sT2,sT1,sT0];intro w8 hw8;have hb8:=(upB hb7 hw8);have BD8:=BD.ee hb8;have hw8':=(upB hwr hb8);obtain ⟨hS8,hF8,hG8⟩:=zGk HS.out hw8' ((hr18.ee hw8).base hwr.size) (by rw [jAa,jAa,HT1.out,HT2.out,jCc];omega);obtain ⟨a18,n18,c18,rfl⟩:=hr18.form;obtain ⟨d0,d1,d2,d3⟩:=BD8.f;clear hr12 hr13 hr18 hf13 hs13 hf18 hs18 hbx g_XD;simp only [dP1,dP0];go_wp2;rw [jAr,jD9] at hS8;exact ⟨rfl,.tuple #[],by simp [results,results49,go_sem],k,_,rfl,HPUT.out,hS8,hF8,hG8⟩
     case z10=>
      refine FT.flow_at hC rfl trivial (fun w9 hw9 K hK=>?_);go_simp;have hb9:=hbM.trans (Below.mono hw9 hbM.size);have hbN:=hb9.alloc hb9.size (.cells #[X.A.x,X.A.y,X.B.x,X.B.y,X.K] 60);refine hK _ _ (regrown_of_below hbN) ?_;clear hK K;have hrM9:=(hrM.ee hw9).alloc (.cells #[X.A.x,X.A.y,X.B.x,X.B.y,X.K] 60);obtain ⟨bx,hbx0⟩:∃ bx,w9.heap.size=bx:=⟨_,rfl⟩;have hbx9:Box (w9.alloc (.cells #[X.A.x,X.A.y,X.B.x,X.B.y,X.K] 60)) bx (cW X) 60:=by rw [←hbx0];exact Box.new rfl
      have hne:¬ Value.ownBlock (.slice (some ⟨w1,0,none⟩) 0 0)=some bx:=fun e=>by
       have h1:=Below.size hw9;have e2:w1.heap.size=bx:=by simpa [Value.ownBlock] using e
       simp at h1;omega
      rw [hbx0];clear hbx0;refine FT.flow_at hC rfl trivial (fun w2 hw2 K hK=>?_);have hb2:=hbN.trans (Below.mono hw2 hbN.size);refine zAl (by rfl) _ _ (by rfl) wx.heap.size _ [] (by rfl) (hrM9.ee hw2) _ k c (L.take k) (by rfl) HT1.out ((hrow.ee hb2).take k) hfl (fun e=>⟨by have h1:=(hz e).1;have h2:=HM.out;rw [h1] at h2;simp at h2;omega,(hz e).2⟩) (by simp;omega) (Below.size hb2) (some 35) (by rfl) ?_;intro w3 v12 hr12 hf12 hs12;rw [jBd] at hr12;have hbW:=hb2.trans (hf12.below (fun k e=>((hrM9.ee hw2).lt k e).1) hb2.size);have hbx:=hf12.box (hbx9.ee hw2) hne;refine hK _ _ (regrown_of_below hbW) ?_;clear hK K;simp only [Act.put,sT2,sT1,sT0];refine FT.flow_at hC rfl trivial (fun w4 hw4 K hK=>?_);have hb4:=(upB hbW hw4);refine zAl (by rfl) _ _ (by rfl) wx.heap.size v12 (L.take k) (by rfl) (hr12.ee hw4) (some ⟨bx,0,none⟩) 1 1 [X] (by rfl) rfl (zDr (by simpa using hbx.ee hw4)) (zF6 _ _) (fun e=>by cases e) (by rw [HT1.out];omega) hb4.size (some 38) (by rfl) ?_;intro w5 v13 hr13 hf13 hs13;have hb5:=hb4.trans (hf13.below (fun k e=>((hr12.ee hw4).lt k e).1) hb4.size);refine hK _ _ (regrown_of_below hb5) ?_;clear hK K;simp only [Act.put,sT2,sT1,sT0];refine FT.flow_at hC rfl trivial (fun w6 hw6 K hK=>?_);have hb6:=(upB hb5 hw6);refine zAl (by rfl) _ _ (by rfl) wx.heap.size v13 (L.take k ++ [X]) (by rfl) (hr13.ee hw6) ad (n - k) (c - k) (L.drop k) (by rfl) HT2.out (hdr.ee hb6) hfl2 hnil (by rw [jAa,HT1.out];simp;omega) hb6.size (some 45) (by rfl) ?_;intro w7 v18 hr18 hf18 hs18;have hb7:=hb6.trans (hf18.below (fun k e=>((hr13.ee hw6).lt k e).1) hb6.size);refine hK _ _ (regrown_of_below hb7) ?_;clear hK K;simp only [Act.put,sT2,sT1,sT0];intro w8 hw8;have hb8:=(upB hb7 hw8);have BD8:=BD.ee hb8;have hw8':=(upB hwr hb8);obtain ⟨hS8,hF8,hG8⟩:=zGk HS.out hw8' ((hr18.ee hw8).base hwr.size) (by rw [jAa,jAa,HT1.out,HT2.out,jCc];omega);obtain ⟨a18,n18,c18,rfl⟩:=hr18.form;obtain ⟨d0,d1,d2,d3⟩:=BD8.f;clear hr12 hr13 hr18 hf13 hs13 hf18 hs18 hbx g_XD;simp only [dP1,dP0];go_wp2;rw [jAr,jD9] at hS8;exact ⟨rfl,.tuple #[],by simp [results,results49,go_sem],k,_,rfl,HPUT.out,hS8,hF8,hG8⟩
    case y10=>
     refine FT.flow_at hC rfl trivial (fun w9 hw9 K hK=>?_);go_simp;have hbN:Below wx wx (w9.alloc (.cells #[X.A.x,X.A.y,X.B.x,X.B.y,X.K] 60)):=Below.alloc hw9 (Below.size hw9) _;refine hK _ _ (regrown_of_below hbN) ?_;clear hK K;obtain ⟨bx,hbx0⟩:∃ bx,w9.heap.size=bx:=⟨_,rfl⟩;have hbx9:Box (w9.alloc (.cells #[X.A.x,X.A.y,X.B.x,X.B.y,X.K] 60)) bx (cW X) 60:=by rw [←hbx0];exact Box.new rfl
     rw [hbx0];clear hbx0;refine FT.flow_at hC rfl trivial (fun w1 hw1 K hK=>?_);have hb1:=hbN.trans (Below.mono hw1 hbN.size);have hrM:=zF4 w1 wx.heap.size hb1.size;go_simp;have hbM:=hb1.alloc hb1.size (.cells #[] 60);refine hK _ _ (regrown_of_below hbM) ?_;clear hK K;have hbx1:=(hbx9.ee hw1).old (.cells #[] 60);have hne:¬ Value.ownBlock (.slice (some ⟨w1,0,none⟩) 0 0)=some bx:=fun e=>by
      have h1:=(hbx9.ee hw1).lt;have e2:w1.heap.size=bx:=by simpa [Value.ownBlock] using e
      omega
     refine FT.flow_at hC rfl trivial (fun w2 hw2 K hK=>?_);have hb2:=hbM.trans (Below.mono hw2 hbM.size);refine zAl (by rfl) _ _ (by rfl) wx.heap.size _ [] (by rfl) (hrM.ee hw2) _ k c (L.take k) (by rfl) HT1.out ((hrow.ee hb2).take k) hfl (fun e=>⟨by have h1:=(hz e).1;have h2:=HM.out;rw [h1] at h2;simp at h2;omega,(hz e).2⟩) (by simp;omega) (Below.size hb2) (some 35) (by rfl) ?_;intro w3 v12 hr12 hf12 hs12;rw [jBd] at hr12;have hbW:=hb2.trans (hf12.below (fun k e=>((hrM.ee hw2).lt k e).1) hb2.size);have hbx:=hf12.box (hbx1.ee hw2) hne;refine hK _ _ (regrown_of_below hbW) ?_;clear hK K;simp only [Act.put,sT2,sT1,sT0];refine FT.flow_at hC rfl trivial (fun w4 hw4 K hK=>?_);have hb4:=(upB hbW hw4);refine zAl (by rfl) _ _ (by rfl) wx.heap.size v12 (L.take k) (by rfl) (hr12.ee hw4) (some ⟨bx,0,none⟩) 1 1 [X] (by rfl) rfl (zDr (by simpa using hbx.ee hw4)) (zF6 _ _) (fun e=>by cases e) (by rw [HT1.out];omega) hb4.size (some 38) (by rfl) ?_;intro w5 v13 hr13 hf13 hs13;have hb5:=hb4.trans (hf13.below (fun k e=>((hr12.ee hw4).lt k e).1) hb4.size);refine hK _ _ (regrown_of_below hb5) ?_;clear hK K;simp only [Act.put,sT2,sT1,sT0];refine FT.flow_at hC rfl trivial (fun w6 hw6 K hK=>?_);have hb6:=(upB hb5 hw6);refine zAl (by rfl) _ _ (by rfl) wx.heap.size v13 (L.take k ++ [X]) (by rfl) (hr13.ee hw6) ad (n - k) (c - k) (L.drop k) (by rfl) HT2.out (hdr.ee hb6) hfl2 hnil (by rw [jAa,HT1.out];simp;omega) hb6.size (some 45) (by rfl) ?_;intro w7 v18 hr18 hf18 hs18;have hb7:=hb6.trans (hf18.below (fun k e=>((hr13.ee hw6).lt k e).1) hb6.size);refine hK _ _ (regrown_of_below hb7) ?_;clear hK K;simp only [Act.put,sT2,sT1,sT0];intro w8 hw8;have hb8:=(upB hb7 hw8);have BD8:=BD.ee hb8;have hw8':=(upB hwr hb8);obtain ⟨hS8,hF8,hG8⟩:=zGk HS.out hw8' ((hr18.ee hw8).base hwr.size) (by rw [jAa,jAa,HT1.out,HT2.out,jCc];omega);obtain ⟨a18,n18,c18,rfl⟩:=hr18.form;obtain ⟨d0,d1,d2,d3⟩:=BD8.f;clear hr12 hr13 hr18 hf13 hs13 hf18 hs18 hbx g_XD;simp only [dP1,dP0];go_wp2;rw [jAr,jD9] at hS8;exact ⟨rfl,.tuple #[],by simp [results,results49,go_sem],k,_,rfl,HPUT.out,hS8,hF8,hG8⟩
end
end Go.Proofs.YtogffkimgmlilaaGreat
