/- Put together: BadO, FtA. -/
import Derived.Test.YtogffkimgmlilaaGreatPfc0
import Derived.Test.YtogffkimgmlilaaGreatPfb50
import Derived.Test.YtogffkimgmlilaaGreatPfb47
set_option maxRecDepth 100000
set_option maxHeartbeats 8000000
set_option linter.all false
namespace Go.Proofs.YtogffkimgmlilaaGreat
open _root_.Go.Proofs.Tryz
open Go.RowKit Go.Sort
attribute [local go_sem] rOper rAt rUpon cell_set sg_i64 sg_u64 alloc_cell alloc_frozen
attribute [local go_sem 10000] pt_eql pt_neq tri_eql
attribute [local irreducible] rWalk
theorem le_trans_w {x y z:Wl} (h:cmpW x y≤0) (k:cmpW y z≤0):cmpW x z≤0:=by
 by_cases e:cmpW x y=0
 ·rw [wholeW.eq0.1 e];exact k
 ·by_cases f:cmpW y z=0
  ·rw [←wholeW.eq0.1 f];exact h
  ·have:=wholeW.trans (x:=x) (y:=y) (z:=z) (by omega) (by omega);omega
theorem put_order {L:List Wl} {X:Wl} {k:Nat} (h:InOrder cmpW L) (p:PutAt L X k):InOrder cmpW (L.take k ++ X :: L.drop k):=by
 obtain ⟨p0,p1,p2⟩:=p;have h':=h;unfold InOrder at h ⊢;rw [←jBu k L,jDu] at h;have lo:∀ x∈L.take k,cmpW x X≤0:=fun x hx=>by
  obtain ⟨i,hi,rfl⟩:=jDe.1 hx;rw [jB3] at hi;rw [jF9];have hk:k - 1 < L.length:=by omega
  have h1:cmpW L[k - 1] X≤0:=by have:=p2 hk (by omega);omega
  rcases jCm i (k - 1) with h3 | h3
  ·exact le_trans_w (jB0.1 h' i (k - 1) (by omega) hk h3) h1
  ·have e:i=k - 1:=by omega
   subst e;exact h1
 have hi:∀ x∈L.drop k,cmpW X x≤0:=fun x hx=>by
  obtain ⟨i,hi,rfl⟩:=jDe.1 hx;rw [jBm] at hi;rw [List.getElem_drop];have h1:=p1 (k+i) (by omega) (by omega);have h2:=wholeW.neg L[k+i] X;omega
 refine jDu.2 ⟨h.1,jBk.2 ⟨hi,h.2.1⟩,fun x hx y hy=>?_⟩;rcases jA1.1 hy with rfl | hy
 ·exact lo x hx
 ·exact h.2.2 x hx y hy
theorem badD_badP {W H:Int} {E:Es} {L:List Tri3} {D:List Wl} (g:Good E L) (_:Tiles W H L) (hg:∀ x∈D,GoodW x) (p q:Pt):badD E D p q=badP E D p q:=by
 unfold badD badP;rw [←kindD_eq hg];cases h1:getE E (p,q) with
 | none=>rw [lftE_none h1];rfl
 | some S=>
  cases h2:getE E (q,p) with
  | none=>rw [lftE_none h2];simp
  | some R=>
   obtain ⟨⟨mS,mR⟩,⟨cS,cR⟩,_⟩:=zDj g h1 h2;rw [lftE_some h1,lftE_some h2];simp only [zLg cS]
theorem badP_perm {W H:Int} {E E':Es} {L L':List Tri3} {D:List Wl} (g:Good E L) (g':Good E' L') (t:Tiles W H L) (t':Tiles W H L') (hp:L.Perm L') (hg:∀ x∈D,GoodW x) (p q:Pt):badP E D p q=badP E' D p q:=by
 rw [jCs,badP_iff g t hg,badP_iff g' t' hg];simp only [hp.mem_iff]
theorem bads_mem {W H:Int} {E:Es} {L:List Tri3} {D:List Wl} (g:Good E L) (t:Tiles W H L) (hg:∀ x∈D,GoodW x) {x:Wl}:x∈badsD E D E↔x.K=1∧cmpP x.A x.B < 0∧badP E D x.A x.B=true:=by
 unfold badsD;rw [jDc];constructor
 ·rintro ⟨e,he,hx⟩;split at hx
  ·rename_i hc
   simp only [jCh] at hx;subst hx;simp only [jA3,jA4] at hc;exact ⟨rfl,hc.1,by rw [←badD_badP g t hg];exact hc.2⟩
  ·cases hx
 ·rintro ⟨h1,h2,h3⟩;have h4:=h3;unfold badP at h4;cases hq:getE E (x.A,x.B) with
  | none=>rw [lftE_none hq] at h4;simp at h4
  | some T=>
   refine ⟨((x.A,x.B),T),zJw hq,?_⟩;rw [jAc (by simp only [jA3,jA4];exact ⟨h2,by rw [badD_badP g t hg];exact h3⟩)];cases x;simp only at h1;rw [h1]
theorem bads_nodup {E:Es} {D:List Wl} (h:KeysNodup E):(badsD E D E).Nodup:=by
 unfold badsD;generalize E=E2 at h ⊢
 refine List.Pairwise.filterMap (R:=fun a b=>a.1≠b.1) _ ?_ (jE9.1 h);intro a b hab x hx y hy e;split at hx
 ·split at hy
  ·simp only [jCh] at hx hy;subst hx;subst hy;simp only [Wl.mk.injEq,jE8] at e;exact hab (jFf e.1 e.2)
  ·cases hy
 ·cases hx
theorem bads_same {W H:Int} (hW:W < 16777216) (hH:H < 16777216) {E E':Es} {L L':List Tri3} {D:List Wl} (g:Good E L) (g':Good E' L') (t:Tiles W H L) (hp:L'.Perm L) (hg:∀ x∈D,GoodW x) {M:List Wl} (p:M.Perm (badsD E' D E')) (o:InOrder cmpW M):M=FB E D:=by
 have t':=t.perm hp.symm;have hn:(FB E D).Nodup:=(FB_ris hW hH g t hg).imp fun {a b} hab e=>by
  subst e;have h0:=wholeW.eq0.2 (rfl:a=a);omega
 have q:M.Perm (FB E D):=p.trans ((jEb (bads_nodup g'.nodup) hn).2 fun x=>by
  rw [bads_mem g' t' hg,FB_mem hW hH g t hg,badP_perm g' g t' t hp hg])
 exact wholeW.unique q o ((FB_ris hW hH g t hg).imp fun {a b} h=>by omega)
theorem rBadO_any (mb b db:Nat) (a0:Option Addr) (c n:Nat) (E:Es) (W:List Wl) (hE:E.length≤100000) (hok:∀ e∈E,okW e.1) (w:World) (Bm:Box w mb [.map (some b)] 90) (Hm:HoldsMap eW eT okW w b E) (Dw:DocRd w db a0 c n W):Calls prog 14 #[pt0 mb,pt0 db] w (fun e w'=>∃ a c L,e=.returned (.slice a L.length c)∧(L.Perm (badsD E W E)∧InOrder cmpW L)∧RowAt cW 5 w' a L∧Below w w w'):=by
 have cB:=fun p q hk w B H D=>zM2 mb b db a0 c n E W p q hk w B H D;obtain ⟨xm,ym,zm,vm⟩:=Bm.f
 go_enter func14,ntmps14
 go_wp2_with (at_range;refine zB1 _ rfl _ rfl kvR rfl (Hm.alloc _) ?_)
 intro w0 HR0 hw0 hs0;have So0:DocAt w0 w.heap.size (.slice none 0 0) []:=⟨(Box.new rfl).ext hw0 (by simp),World.ownsRow_nil _ _ _ _,by simp [Value.ownBlock],by simp⟩;replace hw0:Below w w w0:=((Below.refl w.heap.size w).alloc (jA9 _) _).trans (hw0.mono (by simp));clear xm ym zm vm;go_wp2
 go_loopw [] (fun wr=>∃ (D R:Es) (v:Value) (L:List Wl),Hid ((D ++ R).Perm E)∧Hid (L.Perm (badsD E W D)∧InOrder cmpW L)∧DocAt wr w.heap.size v L∧Ranging eW eT okW wr b (w.heap.size+1) E R∧Below w w wr) (fun wr=>wr.rangeLeft b (w.heap.size+1))
 case atStart=>exact ⟨[],E,_,[],hdd (by simp),hdd ⟨.refl _,List.Pairwise.nil⟩,So0,by simpa using HR0,hw0⟩
 case round=>
  clear HR0 hw0 So0;obtain ⟨D,R,v,L,hD,hL,So,HR,hw⟩:=hrel;go_wp2_with (at_next;refine zB8 _ rfl _ rfl rfl HR ?_ ?_)
  ·intro hR;subst hR;have hp0:=hdd (show L.Perm (badsD E W E)∧InOrder cmpW L from ⟨hL.out.1.trans (badsD_perm E W (by simpa using hD.out)),hL.out.2⟩);obtain ⟨a,c',rfl,Dr,_⟩:=So.rd;obtain ⟨xo,yo,zo,vo⟩:=Dr.box.f;go_wp2
   go_ret
   exact ⟨a,c',L,rfl,hp0.out,Dr.row,hw⟩
  ·intro u x T R' w1 hperm HR1 hg1 hs1 hen;have hD2:=hdd (show ((D ++ [((u,x),T)]) ++ R').Perm E by have:=(hperm.append_left D).symm.trans hD.out;simpa using this);have hk:okW (u,x):=hok ((u,x),T) (hD2.out.mem_iff.1 (by simp));have So1:DocAt w1 w.heap.size v L:=⟨So.box.grown1 hg1,So.row.kept hg1 (.inr (fun e=>zAr So.row HR e.symm)),So.ne,So.le⟩;have hw1:=hw.grown hg1 hw.size (fun k hk=>by cases hk;omega);have HL:=hdd (show w1.rangeLeft b (w.heap.size+1) < wr.rangeLeft b (w.heap.size+1) by rw [zAc HR1,zAc HR,hperm.length_eq];simp);have hen2:(Instr.entry (.pointer (some ⟨w+1,0,none⟩))).run prog w1=.ok (.tuple #[.agg #[u.x,u.y,x.x,x.y],T]) w1:=hen;have hle:L.length < 1000000:=by have:=hL.out.1.length_eq;have:=zLh E W D;have:=hD2.out.length_eq;simp at *;omega
   have hgk:∀ X∈L,0≤X.K∧X.K≤2:=fun X hX=>by have:=badsD_kind (hL.out.1.mem_iff.1 hX);omega
   have HB:=hdd hw1.size;clear So HR hg1 hs1 hen hperm hw;go_wp2_with fail;refine zA4 fun W2 hW=>?_;have Be:Box W2 w1 [u.x,u.y,x.x,x.y] 92:=by rw [hW];exact Box.new rfl
   have hw2:Below w1 w1 W2:=by rw [hW];go_grown
   clear hW;have So2:=So1.ee hw2;have HR2:=HR1.ee hw2;have hwx:=upB hw1 hw2;have HL2:=hdd (show W2.rangeLeft b (w.heap.size+1) < wr.rangeLeft b (w.heap.size+1) by rw [zAc HR2,←zAc HR1];exact HL.out);clear So1 HR1 hw1 hw2 HL HB;refine (zAe u x _).mono ?_;rintro e w3 ⟨rfl,hb⟩;replace Be:=Be.ee hb;replace So2:=So2.ee hb;have HR3:=HR2.ee hb;replace hwx:=upB hwx hb;have HL3:=hdd (show w3.rangeLeft b (w.heap.size+1) < wr.rangeLeft b (w.heap.size+1) by rw [zAc HR3,←zAc HR2];exact HL2.out);have HF:=hdd (fun (h1:decide (cmpP u x < 0)=false)=>show L.Perm (badsD E W (D ++ [((u,x),T)]))∧InOrder cmpW L by
    rw [zE5,zId,h1,Bool.false_and,jA0 (by decide),jAs];exact hL.out)
   have HG:=hdd (fun (h1:badD E W u x=false)=>show L.Perm (badsD E W (D ++ [((u,x),T)]))∧InOrder cmpW L by
    rw [zE5,zId,h1,Bool.and_false,jA0 (by decide),jAs];exact hL.out)
   have HH:=hdd (fun (h1:decide (cmpP u x < 0)=true) (h2:badD E W u x=true)=>show ∀ k,PutAt L ⟨u,x,1⟩ k→(L.take k ++ (⟨u,x,1⟩:Wl) :: L.drop k).Perm (badsD E W (D ++ [((u,x),T)]))∧InOrder cmpW (L.take k ++ (⟨u,x,1⟩:Wl) :: L.drop k) from fun k hk5=>by
    rw [zE5,zId,h1,h2,jCp,jAc rfl];refine ⟨?_,put_order hL.out.2 hk5⟩;exact (zCh k).trans ((hL.out.1.cons _).trans (jB5 (l₁:=[(⟨u,x,1⟩:Wl)]))))
   have hl6:L.length+1≤1000000:=hle;clear hb HR2 HL2 hL;obtain ⟨xe,ye,ze,ve⟩:=Be.f;cases h1:decide (cmpP u x < 0) with
   | false=>
    have HQ:=hdd (HF.out h1);clear HF HG HH;go_wp2
    go_roundw
    case rel=>exact ⟨D ++ [((u,x),T)],R',v,L,hD2,HQ,So2,HR3,hwx⟩
    case measure=>exact HL3.out
   | true=>
    have HH:=hdd (HH.out h1);clear HF;go_wp2_with fail;refine (cB u x hk _ (Bm.ee hwx) HR3.holds (Dw.ee hwx)).mono ?_;rintro e w4 ⟨rfl,hb⟩;clear xe ye ze ve;replace Be:=Be.ee hb;have So4:=So2.ee hb;have HR4:=HR3.ee hb;have hw4:=upB hwx hb;have HL4:=hdd (show w4.rangeLeft b (w.heap.size+1) < wr.rangeLeft b (w.heap.size+1) by rw [zAc HR4,←zAc HR3];exact HL3.out);clear hb So2 HR3 hwx HL3;obtain ⟨xe,ye,ze,ve⟩:=Be.f;cases h2:badD E W u x with
    | false=>
     have HQ:=hdd (HG.out h2);clear HG HH;go_wp2
     go_roundw
     case rel=>exact ⟨D ++ [((u,x),T)],R',v,L,hD2,HQ,So4,HR4,hw4⟩
     case measure=>exact HL4.out
    | true=>
     have HQ:=hdd (HH.out h2);clear HG HH h2;have cp:=zCt w.heap.size v L ⟨u,x,1⟩ hle hgk ⟨by show (0:Int)≤1;decide,by show (1:Int)≤2;decide⟩ w4 So4;go_wp2_with fail;refine cp.mono ?_;rintro e w5 ⟨k,v',rfl,hk5,So5,hf5,hv5⟩;have hg5:=hf5.grown;have HR5:=HR4.kept hg5 (fun e=>So4.box.ne_map HR4.holds (jAl e).symm) (by simp);have hw5:=hf5.below (n:=w.heap.size) (fun k hk=>Nat.le_of_eq hk.symm) hw4.size;have HL5:=hdd (show w5.rangeLeft b (w.heap.size+1) < wr.rangeLeft b (w.heap.size+1) by rw [zAc HR5,←zAc HR4];exact HL4.out);have HP:=hdd (HQ.out k hk5);clear xe ye ze ve cp HQ hf5 hg5;go_wp2
     go_roundw
     case rel=>exact ⟨D ++ [((u,x),T)],R',v',_,hD2,HP,So5,HR5,hw4.trans hw5⟩
     case measure=>exact HL5.out
end Go.Proofs.YtogffkimgmlilaaGreat
namespace Go.Proofs.YtogffkimgmlilaaGreat
open _root_.Go.Proofs.Tryz
open Go.RowKit Go.Sort
attribute [local go_sem] rOper rAt rUpon cell_set sg_i64 sg_u64 alloc_cell alloc_frozen
attribute [local go_sem 10000] pt_eql pt_neq tri_eql
attribute [local irreducible] rWalk
theorem ft_no (s:Int) (a0 a2 a1:Option Addr) (n q m c0 c2 c1:Nat) (hf:s < 1∨40 < s∨25 < n∨12 < q∨40 < m) (w:World):Calls prog 3 #[s,.slice a0 n c0,.slice a2 q c2,.slice a1 m c1] w fun e w'=>e=.returned (.bool true)∧Below w w w':=by
 have cf:=fun W=>few8_any s a0 a2 n q c0 c2 W;have em:decide ((40:Int) < (m:Int))=decide (40 < m):=by simp;omega
 have hQ:=hdd (show (decide (1≤s) && (decide (s≤40) && (decide (n≤25) && decide (q≤12))))=false∨40 < m by
  rcases hf with h | h | h | h | h
  ·left;simp;omega
  ·left;simp;omega
  ·left;simp;omega
  ·left;simp;omega
  ·right;exact h)
 clear hf;generalize (decide (1≤s) && (decide (s≤40) && (decide (n≤25) && decide (q≤12))))=f at *
 cases f with
 | false=>
  go_enter func3,ntmps3
  go_wp2_with fail;refine (cf _).mono ?_;rintro e w1 ⟨rfl,hb⟩;go_wp2_with fail;refine (awake8_any _).mono ?_;rintro e w2 ⟨rfl,hb2⟩;have hw:=upB hb hb2;go_wp2
  go_ret
  exact ⟨rfl,hw⟩
 | true=>
  have hm:decide ((40:Int) < (m:Int))=true:=by
   rw [em];rcases hQ.out with h | h
   ·cases h
   ·exact jCo h
  clear em
  go_enter func3,ntmps3
  go_wp2_with fail;refine (cf _).mono ?_;rintro e w1 ⟨rfl,hb⟩;go_wp2_with fail;refine (awake8_any _).mono ?_;rintro e w2 ⟨rfl,hb2⟩;have hw:=upB hb hb2;go_wp2
  go_ret
  exact ⟨rfl,hw⟩
theorem back_of (W w':World) (h:∃ p:Regrown,w'=grow (redrawn W p.d) p.os):Below W W w':=by
 obtain ⟨p,rfl⟩:=h;exact below_regrown _ _ _
theorem on_of (W:World):∀ x y,Ext x y→(∃ p:Regrown,x=grow (redrawn W p.d) p.os)→(∃ p:Regrown,y=grow (redrawn W p.d) p.os):=fun x y h1 h2=>regrown_of_below ((back_of W x h2).trans (h1.mono (back_of W x h2).size))
theorem ft_yes (s:Int) (hs:0 < s) (hs2:s≤40) (a0:Option Addr) (n c0:Nat) (hn:n≤25) (P:List Int) (hP:Hid (P.length=n)) (a2:Option Addr) (q c2:Nat) (hq:q≤12) (Q:List Pt) (hQ:Hid (Q.length=q)) (a1:Option Addr) (m c1:Nat) (hm:m≤40) (X:List Int) (hX:Hid (X.length=m)) (w:World) (h0:RowAt cI 1 w a0 P) (hq0:RowAt cP 2 w a2 Q) (h1:RowAt cI 1 w a1 X):Calls prog 3 #[s,.slice a0 n c0,.slice a2 q c2,.slice a1 m c1] w fun e w'=>e=.returned (.bool true)∧Below w w w':=by
 have cf:=fun W=>few8_any s a0 a2 n q c0 c2 W;rw [show (decide (1≤s) && (decide (s≤40) && (decide (n≤25) && decide (q≤12))))=true by simp;omega] at cf;have em:((40:Int) < (m:Int))=False:=by simp;omega
 have HS:=hdd (show 0 < s∧s≤40 from ⟨hs,hs2⟩);have HN:=hdd hn;have HMM:=hdd hm;have HQQ:=hdd hq;clear hs hs2 hn hm hq
 go_enter func3,ntmps3
 go_wp2_with fail;refine (cf _).mono ?_;rintro e w1 ⟨rfl,hw⟩;clear cf;go_wp2_with fail;refine (built8_any s HS.out.1 (by have:=HS.out.2;omega) a0 a2 n q c0 c2 P hP (by have:=HN.out;omega) Q hQ (by have:=HQQ.out;omega) w1 (h0.ee hw) (hq0.ee hw)).mono ?_;rintro e w2 hpost;unfold Built8Post at hpost;obtain ⟨m2,b2,sb,aS,cS,cb,mb,b,db,v,E2,E,L,D,rfl,_,_,_,SR,SC,hI,_,hL,hD,hK,hw2,_,_,hbb,_⟩:=hpost;have HI:=hdd hI;have HL:=hdd (show L.length≤52 by have:=HN.out;have:=hP.out;omega);have HBB:=hdd (show w.heap.size≤b from jAp hw.size hbb.1);have hw3:=upB hw hw2;clear hI hL hK hbb hw2 em;have co:=rodd_any cb mb b db v s s HS.out.1 HS.out.1 (by have:=HS.out.2;omega) (by have:=HS.out.2;omega) E L D HI.out.good HI.out.fix.tiles (by have:=HL.out;omega) a1 m c1 X hX HMM.out w2 SC (h1.ee hw3);go_wp2_with fail;refine co.mono ?_;rintro e w3 ⟨E3,L3,a3,c3,rfl,hg3,H3,R3,hr3⟩;have SR3:=SR.turn SC.map hg3;have hw4:=hw3.grown hg3 hw3.size (fun q hq=>by cases hq;exact HBB.out);have HR3:=hdd R3;have SC3:CdtAt w3 cb mb b db v s s E3 D:=⟨SC.box.turn SC.map hg3,SC.mesh.turn SC.map hg3,H3,SC.doc.turn SC.map hg3,SC.cdb,SC.mdb⟩;obtain ⟨p3,ok3,put3,G3⟩:=tris_new R3.good;have HIS:=hdd (show srt cmpT (srt cmpT (heads (fun _=>true) E3))=srt cmpT (heads (fun _=>true) E3) from wholeT.srt_of_perm (srt_perm _));generalize srt cmpT (heads (fun _=>true) E3)=I at *
 have HP3:=hdd p3;have HG3:=hdd G3;have hlen:I.length≤52:=by rw [p3.length_eq,R3.kept.len];exact HL.out
 obtain ⟨mi,hmi⟩:∃ z,I.length=z:=⟨_,rfl⟩;rw [hmi] at put3 hlen ⊢;have cn:=fun W H=>mnew_1 a3 c3 mi I (hdd hmi) (by omega) ok3 put3 W H;have HMI:=hdd (show I.length≤94 by omega);have HMi:=hdd hmi;clear co SC SR hg3 R3 p3 G3 H3 hw3 hmi ok3 put3 hlen;generalize (putRun [] I).2=E4 at *
 go_wp2_with fail;refine (cn _ hr3).mono ?_;rintro e w4 ⟨m4,b4,rfl,B4,H4,hb4,_,hb⟩;have SR4:=SR3.ee hb;have SC4:=SC3.ee hb;have hw5:=upB hw4 hb;have HB4:=hdd (show w.heap.size≤b4 from jAp hw4.size hb4);have HN1:=hdd (show b4≠b from by have:=SC3.map.lt;omega);clear cn hr3 SR3 SC3 hb hb4 hw4;have HSS:=hdd (show s < 16777216 by have:=HS.out.2;omega);have HWI:=hdd (show WInv I D from (HI.out.wal.kept HR3.out.kept).kept (Kept.perm HP3.out.symm));have HW3:=hdd (HI.out.wal.kept HR3.out.kept);have HTI:=hdd (HR3.out.tiles.perm HP3.out.symm);have hE4:E4.length≤90000:=by rw [HG3.out.len];have:=HMI.out;omega
 have hE3:E3.length≤90000:=by rw [HR3.out.good.len,HR3.out.kept.len];have:=HL.out;omega
 have hok4:∀ e∈E4,okT e.2:=fun e he=>by
  obtain ⟨ww,T⟩:=e;exact zB7 (HG3.out.val T (wys_mem.1 (HG3.out.perm.mem_iff.1 he)).1)
 obtain ⟨aW,cW0,rfl,Dr,_⟩:=SC4.doc.rd;have cB:=fun W B H S=>fBad_any m4 b4 E4 sb aS cS D.length D hE4 hok4 W B H S;have cD:=fun W B H S=>rBadO_any mb b db aW cW0 D.length E3 D (by omega) (fun p hp=>SC4.map.elim fun _ h=>h.elim fun _ h=>h.2.2.2.1 p hp) W B H S;have HBS:=hdd (show ∀ M:List Wl,M.Perm (badsD E3 D E3)∧InOrder cmpW M→M=FB E4 D from fun M h=>bads_same HSS.out HSS.out HG3.out HR3.out.good HTI.out HP3.out.symm HWI.out.good h.1 h.2);have hFL:(FB E4 D).length≤1000000:=by have h1:=FB_le E4 D;omega
 have HE3:=hdd hE3;have HD:=hdd hD;clear hE4 hok4 hE3 hD;generalize FB E4 D=F at *
 have gc:=SC4.box.cells;go_wp2_with fail;refine FT.wp_region_flow 25 (.run 0 (.run 1 (.run 2 (.run 3 (.run 4 (.run 5 (.run 6 (.run 7 (.run 8 (.run 9 (.run 10 (.run 11 (.run 12 (.run 14 (.run 15 (.run 16 (.run 17 (.run 18 (.run 19 (.run 20 (.run 21 (.alt 13 (.alt 22 (.alt 23 (.run 24 (.tail)) .stop) .stop) .stop)))))))))))))))))))))) rfl (by kernel_rfl) (fun _ x _ _ _ h=>by cases x <;> exact h) (C:=fun w'=>∃ p:Regrown,w'=grow (redrawn w4 p.d) p.os) (fun _ h=>regrown_of_below h) (back_of _) ?_
 iterate 21 (refine FT.flow_run rfl (fun K hK=>?_);go_simp;first | (refine hK _ ?_;clear hK K) | (apply Exists.intro;refine ⟨fun _=>?_,hK _ ?_⟩;rotate_left;clear hK K))
 refine FT.flow_at (on_of _) rfl trivial (fun v1 hwE K hK=>?_);have hz1:Below w4 w4 v1:=hwE;go_simp;refine (cB v1 (B4.ee hz1) (H4.ee hz1) (SR4.ee hz1)).mono ?_;rintro e u1 ⟨vB,rfl,hrB,hb⟩;obtain ⟨x1,y1,rfl,r1,_⟩:=hrB.row;clear hrB;have hz1b:Below w4 w4 u1:=upB hz1 hb;clear hwE hb hz1;go_simp;refine hK _ _ (regrown_of_below hz1b) ?_;clear hK K;refine FT.flow_at (on_of _) rfl trivial (fun v2 hwE K hK=>?_);have hz2:Below w4 w4 v2:=upB hz1b hwE;replace r1:=r1.ee hwE;go_simp;refine (cD v2 (SC4.mesh.ee hz2) (SC4.map.ee hz2) (Dr.ee hz2)).mono ?_;rintro e u2 ⟨x2,y2,M,rfl,hM,r2,hb⟩;replace r1:=r1.ee hb;obtain rfl:=HBS.out M hM;clear hM;have hz2b:Below w4 w4 u2:=upB hz2 hb;clear hwE hb hz2 hz1b;go_simp;refine hK _ _ (regrown_of_below hz2b) ?_;clear hK K;refine FT.flow_at (on_of _) rfl trivial (fun v3 hwE K hK=>?_);have hz3:Below w4 w4 v3:=upB hz2b hwE;replace r1:=r1.ee hwE;replace r2:=r2.ee hwE;go_simp;refine (alike_W x1 x2 y1 y2 _ _ v3 r1 r2 hFL).mono ?_;rintro e u3 ⟨rfl,hb⟩;replace r1:=r1.ee hb;replace r2:=r2.ee hb;clear r1 r2;have hz3b:Below w4 w4 u3:=upB hz3 hb;clear hwE hb hz3 hz2b;go_simp;refine hK _ _ (regrown_of_below hz3b) ?_;clear hK K
 iterate 1 (refine FT.flow_run rfl (fun K hK=>?_);go_simp;first | (refine hK _ ?_;clear hK K) | (apply Exists.intro;refine ⟨fun _=>?_,hK _ ?_⟩;rotate_left;clear hK K))
 intro w5 hw5e;have hz:=upB hz3b hw5e;have B5:=B4.ee hz;have H5:=H4.ee hz;have SR5:=SR4.ee hz;have SC5:=SC4.ee hz;have Dr5:=Dr.ee hz;have hw6:=upB hw5 hz;clear hw5e hz hz3b cB cD gc B4 H4 SR4 SC4 Dr hw5 hFL HBS;simp only [jBy,jC0];go_wp2_with fail;have cr:=fRepair_any m4 b4 E4 I sb aS cS D.length D s s HSS.out HSS.out HMI.out HG3.out HTI.out w5 B5 H5 SR5;refine cr.mono ?_;rintro e w6 ⟨rfl,E6,L6,hg6,H6,R6,F6⟩;have B6:=B5.turn H5 hg6;have SR6:=SR5.turn H5 hg6;have Dr6:=Dr5.turn H5 hg6;have SC6:CdtAt w6 cb mb b db (.slice aW D.length cW0) s s E3 D:=⟨SC5.box.turn H5 hg6,SC5.mesh.turn H5 hg6,SC5.map.kept hg6 (fun e=>HN1.out (jAl e).symm),SC5.doc.turn H5 hg6,SC5.cdb,SC5.mdb⟩;have hw7:=hw6.grown hg6 hw6.size (fun q hq=>by cases hq;exact HB4.out);have HR6:=hdd R6;have HF6:=hdd F6;clear cr hg6 R6 F6 B5 H5 SR5 SC5 Dr5 hw6;have gc:=SC6.box.cells;go_wp2_with fail;refine rgx 8 (fun w7 hb=>?_);replace B6:=B6.ee hb;replace H6:=H6.ee hb;replace SR6:=SR6.ee hb;replace SC6:=SC6.ee hb;replace Dr6:=Dr6.ee hb;replace hw7:=upB hw7 hb;clear hb gc;have cr:=rrepair_any mb b db aW cW0 D.length E3 L3 D s s HSS.out HSS.out (by rw [HR3.out.kept.len];have:=HL.out;omega) HR3.out.good HR3.out.tiles w7 SC6.mesh SC6.map Dr6;go_wp2_with fail;refine cr.mono ?_;rintro e w8 ⟨rfl,E8,L8,hg8,H8,R8,F8⟩;have B8:=B6.turn SC6.map hg8;have H68:=H6.kept hg8 (fun e=>HN1.out (jAl e));have SR8:=SR6.turn SC6.map hg8;have Dr8:=Dr6.turn SC6.map hg8;have SC8:CdtAt w8 cb mb b db (.slice aW D.length cW0) s s E8 D:=⟨SC6.box.turn SC6.map hg8,SC6.mesh.turn SC6.map hg8,H8,SC6.doc.turn SC6.map hg8,SC6.cdb,SC6.mdb⟩;have hw9:=hw7.grown hg8 hw7.size (fun q hq=>by cases hq;exact HBB.out);have hE6:E6.length≤1000000:=by rw [HR6.out.good.len,HR6.out.kept.len];have:=HMI.out;omega
 have hE8:E8.length≤1000000:=by rw [R8.good.len,R8.kept.len,HR3.out.kept.len];have:=HL.out;omega
 have ct:=fun W B H=>mtris_any m4 b4 E6 hE6 W B H;have cu:=fun W B H=>rtris_any mb b E8 hE8 W B H;rw [fix_same HS.out.1 HSS.out R8.good HR6.out.good F8 HF6.out (HW3.out.kept R8.kept).edge (HWI.out.kept HR6.out.kept).edge (fun p=>(R8.kept.cnr p).trans (((Kept.perm (K:=fun _ _=>True) HP3.out).cnr p).trans (HR6.out.kept.cnr p).symm))] at cu;have hTL:(srt cmpT (heads (fun _=>true) E6)).length≤1000000:=by rw [(tris_new HR6.out.good).1.length_eq,HR6.out.kept.len];have:=HMI.out;omega
 have hDL:D.length≤1000000:=by have:=HD.out;omega
 generalize srt cmpT (heads (fun _=>true) E6)=T6 at *
 have ca:=fun W S=>all_any sb aS cS D.length D W S;clear cr hg8 R8 F8 B6 H6 SR6 SC6 Dr6 hw7 hE6 hE8 H8;have gc:=SC8.box.cells;have gd:=Dr8.box.cells;go_wp2_with fail;refine FT.wp_region_flow 27 (.run 0 (.run 1 (.run 2 (.run 3 (.run 5 (.run 6 (.run 7 (.run 8 (.alt 4 (.alt 9 (.alt 10 (.run 11 (.run 12 (.run 13 (.run 15 (.run 16 (.run 17 (.run 18 (.run 19 (.run 20 (.run 21 (.alt 14 (.alt 22 (.run 23 (.run 24 (.alt 25 (.run 26 (.tail)) .stop))) .stop) .stop))))))))))) .stop) .stop) .stop))))))))) rfl (by kernel_rfl) (fun _ x _ _ _ h=>by cases x <;> exact h) (C:=fun w'=>∃ p:Regrown,w'=grow (redrawn w8 p.d) p.os) (fun _ h=>regrown_of_below h) (back_of _) ?_
 iterate 8 (refine FT.flow_run rfl (fun K hK=>?_);go_simp;first | (refine hK _ ?_;clear hK K) | (apply Exists.intro;refine ⟨fun _=>?_,hK _ ?_⟩;rotate_left;clear hK K))
 refine FT.flow_at (on_of _) rfl trivial (fun v4 hwE K hK=>?_);have hz4:Below w8 w8 v4:=hwE;go_simp;refine (ct v4 (B8.ee hz4) (H68.ee hz4)).mono ?_;rintro e u4 ⟨x4,y4,rfl,r4,hb⟩;have hz4b:Below w8 w8 u4:=upB hz4 hb;clear hwE hb hz4;go_simp;refine hK _ _ (regrown_of_below hz4b) ?_;clear hK K;refine FT.flow_at (on_of _) rfl trivial (fun v5 hwE K hK=>?_);have hz5:Below w8 w8 v5:=upB hz4b hwE;replace r4:=r4.ee hwE;go_simp;refine (cu v5 (SC8.mesh.ee hz5) (SC8.map.ee hz5)).mono ?_;rintro e u5 ⟨x5,y5,rfl,r5,hb⟩;replace r4:=r4.ee hb;have hz5b:Below w8 w8 u5:=upB hz5 hb;clear hwE hb hz5 hz4b;go_simp;refine hK _ _ (regrown_of_below hz5b) ?_;clear hK K;refine FT.flow_at (on_of _) rfl trivial (fun v6 hwE K hK=>?_);have hz6:Below w8 w8 v6:=upB hz5b hwE;replace r4:=r4.ee hwE;replace r5:=r5.ee hwE;go_simp;refine (alike_T x4 x5 y4 y5 _ _ v6 r4 r5 hTL).mono ?_;rintro e u6 ⟨rfl,hb⟩;replace r4:=r4.ee hb;replace r5:=r5.ee hb;clear r4 r5;have hz6b:Below w8 w8 u6:=upB hz6 hb;clear hwE hb hz6 hz5b;go_simp;refine hK _ _ (regrown_of_below hz6b) ?_;clear hK K
 iterate 10 (refine FT.flow_run rfl (fun K hK=>?_);go_simp;first | (refine hK _ ?_;clear hK K) | (apply Exists.intro;refine ⟨fun _=>?_,hK _ ?_⟩;rotate_left;clear hK K))
 refine FT.flow_at (on_of _) rfl trivial (fun v7 hwE K hK=>?_);have hz7:Below w8 w8 v7:=upB hz6b hwE;go_simp;refine (ca v7 (SR8.ee hz7)).mono ?_;rintro e u7 ⟨v70,rfl,hr7,hb⟩;obtain ⟨x7,y7,rfl,r7,_⟩:=hr7.row;clear hr7;have hz7b:Below w8 w8 u7:=upB hz7 hb;clear hwE hb hz7 hz6b;go_simp;refine hK _ _ (regrown_of_below hz7b) ?_;clear hK K;refine FT.flow_at (on_of _) rfl trivial (fun v8 hwE K hK=>?_);have hz8:Below w8 w8 v8:=upB hz7b hwE;replace r7:=r7.ee hwE;go_simp;refine (alike_W x7 aW y7 cW0 D D v8 r7 (Dr8.ee hz8).row hDL).mono ?_;rintro e u8 ⟨rfl,hb⟩;replace r7:=r7.ee hb;clear r7;have hz8b:Below w8 w8 u8:=upB hz8 hb;clear hwE hb hz8 hz7b;go_simp;refine hK _ _ (regrown_of_below hz8b) ?_;clear hK K
 iterate 2 (refine FT.flow_run rfl (fun K hK=>?_);go_simp;first | (refine hK _ ?_;clear hK K) | (apply Exists.intro;refine ⟨fun _=>?_,hK _ ?_⟩;rotate_left;clear hK K))
 refine FT.flow_at (on_of _) rfl trivial (fun v9 hwE K hK=>?_);have hz9:Below w8 w8 v9:=upB hz8b hwE;go_simp;refine (awake8_any v9).mono ?_;rintro e u9 ⟨rfl,hb⟩;have hz9b:Below w8 w8 u9:=upB hz9 hb;clear hwE hb hz9 hz8b;go_simp;refine hK _ _ (regrown_of_below hz9b) ?_;clear hK K
 iterate 1 (refine FT.flow_run rfl (fun K hK=>?_);go_simp;first | (refine hK _ ?_;clear hK K) | (apply Exists.intro;refine ⟨fun _=>?_,hK _ ?_⟩;rotate_left;clear hK K))
 intro w77 hw77;have hz:=upB hz9b hw77;have hwz:=upB hw9 hz;clear hw77 hz hz9b;simp only [jBy,jC0];go_wp2
 go_ret
 exact ⟨rfl,hwz⟩
end Go.Proofs.YtogffkimgmlilaaGreat
