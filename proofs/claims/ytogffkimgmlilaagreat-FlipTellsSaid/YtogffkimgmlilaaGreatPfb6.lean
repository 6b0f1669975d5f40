/- Put together: ExD, Str, ExE, ExF, ExG. -/
import Derived.Test.YtogffkimgmlilaaGreatPfb3
import Derived.Test.YtogffkimgmlilaaGreatPfb4
import Derived.Test.YtogffkimgmlilaaGreatPfb5
import Derived.LoopTactic
set_option maxRecDepth 100000
set_option maxHeartbeats 8000000
set_option linter.all false
namespace Go.Proofs.YtogffkimgmlilaaGreat
open Go.RowKit Go.Sort _root_.Go.Proofs.Tryz
section
attribute [local go_sem] rOper rAt rUpon cell_set sg_i64 sg_u64 alloc_cell alloc_frozen
attribute [local go_sem 10000] pt_eql pt_neq
attribute [local irreducible] rWalk
def lft (a b c d:Pt):Int:=ht (way d a) * cr (way d b) (way d c)+ht (way d b) * cr (way d c) (way d a)+ht (way d c) * cr (way d a) (way d b)
theorem zEu {p q:Int} (hp:0≤p∧p≤562949886312450) (hq : -562949886312450≤q∧q≤562949886312450) : -316912574500061154317695502500≤p * q∧p * q≤316912574500061154317695502500:=by
 have h1:p.natAbs≤562949886312450:=by omega
 have h2:q.natAbs≤562949886312450:=by omega
 have h3:=jF5 h1 h2;rw [←Int.natAbs_mul] at h3;generalize p * q=r at *
 omega
theorem zDh (a b c d:Pt) (ha:vld a=true) (hb:vld b=true) (hc:vld c=true) (hd:vld d=true) (w:World):Calls prog 156 #[a,b,c,d] w (Rt w (.int .i64 (sgn (lft a b c d)))):=by
 have d1:=zGo d a hd ha;have d2:=zGo d b hd hb;have d3:=zGo d c hd hc;have su:=zE0 hd ha;have sv:=zE0 hd hb;have sz:=zE0 hd hc;have e0:lft a b c d=ht (way d a) * cr (way d b) (way d c)+ht (way d b) * cr (way d c) (way d a)+ht (way d c) * cr (way d a) (way d b):=rfl;rw [e0];clear e0 ha hb hc hd;generalize way d a=u at *
 generalize way d b=v at *
 generalize way d c=z at *
 have h1:=zGg u su;have h2:=zGg v sv;have h3:=zGg z sz;have x1:=zFw v z sv sz;have x2:=zFw z u sz su;have x3:=zFw u v su sv;have bu:=ht_bd su;have bv:=ht_bd sv;have bz:=ht_bd sz;have k1:=cr_bd sv sz;have k2:=cr_bd sz su;have k3:=cr_bd su sv;have m1:=zMb (ht u) (cr v z) (by omega) (by omega) (by omega) (by omega);have m2:=zMb (ht v) (cr z u) (by omega) (by omega) (by omega) (by omega);have m3:=zMb (ht z) (cr u v) (by omega) (by omega) (by omega) (by omega);have p1:=zEu bu k1;have p2:=zEu bv k2;have p3:=zEu bz k3;clear su sv sz bu bv bz k1 k2 k3;generalize ht u * cr v z=P1 at *
 generalize ht v * cr z u=P2 at *
 generalize ht z * cr u v=P3 at *
 have s1:=zOk (cH P1) (cL P1) (cH P2) (cL P2) (ok_c _) (ok_c _);rw [V_c (zAn.2 ⟨by omega,by omega⟩),V_c (zAn.2 ⟨by omega,by omega⟩)] at s1;have s2:=zOk (cH (P1+P2)) (cL (P1+P2)) (cH P3) (cL P3) (ok_c _) (ok_c _);rw [V_c (zAn.2 ⟨by omega,by omega⟩),V_c (zAn.2 ⟨by omega,by omega⟩)] at s2;have s3:=sign_any (cH (P1+P2+P3)) (cL (P1+P2+P3)) (ok_c _);rw [V_c (zAn.2 ⟨by omega,by omega⟩)] at s3;clear p1 p2 p3;generalize cH (P1+P2+P3)=H3 at *
 generalize cL (P1+P2+P3)=L3 at *
 generalize fits (P1+P2+P3)=F3 at *
 generalize P1+P2+P3=P6 at *
 generalize cH (P1+P2)=H2 at *
 generalize cL (P1+P2)=L2 at *
 generalize fits (P1+P2)=F2 at *
 generalize cH P1=H0 at *
 generalize cL P1=L0 at *
 generalize cH P2=H1 at *
 generalize cL P2=L1 at *
 generalize cH P3=H4 at *
 generalize cL P3=L4 at *
 generalize cr v z=X1 at *
 generalize cr z u=X2 at *
 generalize cr u v=X3 at *
 generalize ht u=Y1 at *
 generalize ht v=Y2 at *
 generalize ht z=Y3 at *
 go_enter func156,ntmps156
 go_wp2_with fail;refine qD4 fun W1 Ba Bb Bc Bd hw=>?_;have ga:=Ba.cells;have gb:=Bb.cells;have gc:=Bc.cells;have gd:=Bd.cells;refine zAq 12 [⟨9,9,54,[(),()]⟩,⟨10,10,54,[(),()]⟩,⟨11,11,54,[(),()]⟩] ?_ (by kernel_rfl) (by decide) (by decide) (by kernel_rfl) (by decide) (C:=fun w'=>∃ p:Regrown,w'=grow (redrawn W1 p.d) p.os) rgB ?_
 ·simp only [jBt];refine ⟨⟨_,rfl,rfl,rfl,rfl,fun ρ W=>by simp [execOp,go_sem]⟩,⟨_,rfl,rfl,rfl,rfl,fun ρ W=>by simp [execOp,go_sem]⟩,⟨_,rfl,rfl,rfl,rfl,fun ρ W=>by simp [execOp,go_sem]⟩,fun _ h=>(by cases h)⟩
 simp only [jBf,jCg,jAv,jD0,dropIdx,jC4,jC8,Nat.reduceBEq,Nat.reduceAdd,jCz,jD7,jD8,jBb,jDs,jDf];refine wkx ?_;intro w2 β hL;simp only [putD,jBy,jC0];have qu:=hL.box ⟨9,9,54,[(),()]⟩ (by simp) (by simp);simp only at qu;have qv:=hL.box ⟨10,10,54,[(),()]⟩ (by simp) (by simp);simp only at qv;have qz:=hL.box ⟨11,11,54,[(),()]⟩ (by simp) (by simp);simp only at qz;have nuv:=hL.apart 9 (by simp) 10 (by simp) (by decide);have nuz:=hL.apart 9 (by simp) 11 (by simp) (by decide);have nvu:=hL.apart 10 (by simp) 9 (by simp) (by decide);have nvz:=hL.apart 10 (by simp) 11 (by simp) (by decide);have nzu:=hL.apart 11 (by simp) 9 (by simp) (by decide);have nzv:=hL.apart 11 (by simp) 10 (by simp) (by decide);have hb:=hL.below;have la:=Ba.lt;have lb:=Bb.lt;have lc:=Bc.lt;have ld:=Bd.lt;clear ga gb gc gd;replace Ba:=Ba.ee hb;replace Bb:=Bb.ee hb;replace Bc:=Bc.ee hb;replace Bd:=Bd.ee hb;have hw0:=hw.size;replace hw:=upB hw hb;clear hb hL;generalize β 9=bku at *
 generalize β 10=bkv at *
 generalize β 11=bkz at *
 clear β;obtain ⟨fu,Bu⟩:=qu;obtain ⟨fv,Bv⟩:=qv;obtain ⟨fz,Bz⟩:=qz;simp only [Act.put];have Fu:=Bu.f;have Fv:=Bv.f;have Fz:=Bz.f;go_wp2_with fail;refine zA1 fun W3 hW=>?_;replace Ba:=sto Ba hW;replace Bb:=sto Bb hW;replace Bc:=sto Bc hW;replace Bd:=sto Bd hW;replace Bu:=sto Bu hW;replace Bv:=sto Bv hW;replace Bz:=sto Bz hW;replace hw:=stw hw hW;clear Fu Fv Fz;clear hW;have ga:=Ba.cells;have gb:=Bb.cells;have gc:=Bc.cells;have gd:=Bd.cells;have gu:=Bu.cells;have gv:=Bv.cells;have gz:=Bz.cells;refine wp_region_late2 16 12 37 (.int .i64 H2) (.int .u64 L2) rfl rfl rfl rfl rfl rfl rfl (by simp) (fun ρ W=>by simp [execOp,go_sem];rfl) (by kernel_rfl) (by kernel_rfl) (C:=fun w'=>∃ p:Regrown,w'=grow (redrawn W3 p.d) p.os) rgB ?_ (fun ρ W b e1 e2 hB=>by obtain ⟨x,y,_,_⟩:=hB.f;simp [execOp,go_sem,e1,e2,x,y,eff2]);simp only [tK1,tK0,dP1,dP0];repeat (first | (refine zA7 (Eq.refl false) ?_;simp only [Act.put,sT2,sT1,sT0]) | (refine rWalk_step (fun K hK=>?_);go_simp;first | (refine hK _ ?_;clear hK K) | (apply Exists.intro;refine ⟨fun _=>?_,hK _ ?_⟩;(first | with_reducible exact toExt h1 _ | with_reducible exact toExt h2 _ | with_reducible exact toExt x1 _ | with_reducible exact toExt x2 _ | with_reducible exact toExt m1 _ | with_reducible exact toExt m2 _ | with_reducible exact toExt s1 _);clear hK K)))
 refine rWalk_nil ⟨rfl,?_⟩;intro w4 bks hb h1b h2b Bs;have las:=Ba.lt;have lbs:=Bb.lt;have lcs:=Bc.lt;have lds:=Bd.lt;have lus:=Bu.lt;have lvs:=Bv.lt;have lzs:=Bz.lt;have hw0z:=hw.size;clear ga gb gc gd gu gv gz;obtain ⟨Ba,Bb,Bc,Bd,Bu,Bv,Bz,hw,-⟩:=qX7 Ba Bb Bc Bd Bu Bv Bz hw hb;have fs:=h1b;have hwz:w.heap.size≤W3.heap.size:=hw0z;clear hb h1b h2b hw0z;simp only [Act.put];go_wp2_with fail;refine zA1 fun W9 hW=>?_;replace Ba:Box W9 w [a.x,a.y] 54:=by rw [hW];exact Ba
 replace Bb:Box W9 (w+1) [b.x,b.y] 54:=by rw [hW];exact Bb
 replace Bc:Box W9 (w+1+1) [c.x,c.y] 54:=by rw [hW];exact Bc
 replace Bd:Box W9 (w+1+1+1) [d.x,d.y] 54:=by rw [hW];exact Bd
 replace Bu:Box W9 (bku) [u.x,u.y] 54:=by rw [hW];exact Bu
 replace Bv:Box W9 (bkv) [v.x,v.y] 54:=by rw [hW];exact Bv
 replace Bz:Box W9 (bkz) [z.x,z.y] 54:=by rw [hW];exact Bz
 replace Bs:Box W9 (bks) [.int .i64 H2,.int .u64 L2] 198:=by rw [hW];exact Bs
 replace hw:Below w w W9:=by rw [hW];exact hw
 clear hW;have ga:=Ba.cells;have gb:=Bb.cells;have gc:=Bc.cells;have gd:=Bd.cells;have gu:=Bu.cells;have gv:=Bv.cells;have gz:=Bz.cells;have gs:=Bs.cells;refine wp_region_slip 8 2 (by kernel_rfl) (by kernel_rfl) (fun d _ _ _ _ h=>by cases d <;> exact h) (C:=fun w'=>∃ p:Regrown,w'=grow (redrawn W9 p.d) p.os) rgB ?_;simp only [tK1,tK0,dP1,dP0];refine wkx ?_;intro w5 hb;refine ⟨_,Or.inl ⟨rfl,fun _=>rfl⟩,?_⟩;refine ⟨_,Or.inl ⟨rfl,fun _=>rfl⟩,?_⟩;simp only [slipWalk,Act.put,List.setIfInBounds_toArray,jDq,jF1];clear ga gb gc gd gu gv gz gs;obtain ⟨Ba,Bb,Bc,Bd,Bu,Bv,Bz,Bs,hw,-⟩:=qX8 Ba Bb Bc Bd Bu Bv Bz Bs hw hb;have Fa:=Ba.f;have Fb:=Bb.f;have Fc:=Bc.f;have Fd:=Bd.f;have Fu:=Bu.f;have Fv:=Bv.f;have Fz:=Bz.f;have Fs:=Bs.f;go_wp2_with fail;refine zA4 fun W6 hW=>?_;replace Ba:=sto Ba hW;replace Bb:=sto Bb hW;replace Bc:=sto Bc hW;replace Bd:=sto Bd hW;replace Bu:=sto Bu hW;replace Bv:=sto Bv hW;replace Bz:=sto Bz hW;replace Bs:=sto Bs hW;replace hw:=stw hw hW;clear Fa Fb Fc Fd Fu Fv Fz Fs;clear hW;refine qK8 (s3 _) Ba Bb Bc Bd Bu Bv Bz Bs hw fun w7 Ba Bb Bc Bd Bu Bv Bz Bs hw=>?_;go_wp2
 go_ret
 exact ⟨rfl,hw⟩
end
theorem rgn {P : Program} {id : Nat} {Q : Exit → Act → World → Prop} {a A : Act} {w : World} {l r : List Oper} (n : Nat)
    (k:∀ w',Below w w w'→wpList P l.toArray Q r A w')
    (hm:P.follows .mixedOrders=true:=by kernel_rfl) (hB:plainB .any l.toArray n=true:=by kernel_rfl)
    (hr:l.drop n=r:=by (simp only [dP1,dP0];try rfl))
    (h:rWalk P l.toArray (fun w'=>∃ p:Regrown,w'=grow (redrawn w p.d) p.os) (fun a'=>a'=A) (l.take n) a:=by
     simp only [jBf,jCg];repeat (first | (refine zA7 (Eq.refl false) ?_;simp only [Act.put,sT2,sT1,sT0]) | (refine rWalk_step (fun K hK=>?_);go_simp;first | (refine hK _ ?_;clear hK K) | (apply Exists.intro;refine ⟨fun _=>?_,hK _ ?_⟩;(with_reducible exact toExt (by assumption) _);clear hK K)))
     exact rWalk_nil rfl):(Code.region id l.toArray true).wp P Q a w:=by
 refine wp_region_tail n hm hB rgB ?_;rw [hr];have aux:∀ (L:List Oper) (b:Act) (C:World→Prop),rWalk P l.toArray C (fun a'=>a'=A) L b→rWalk P l.toArray C (fun a'=>∀ w',Below w w w'→wpList P l.toArray Q r a' w') L b:=by
  intro L;induction L with
  | nil=>intro b C h;simp only [rWalk] at h ⊢;rw [h];exact k
  | cons o rest ih=>
   intro b C h;simp only [rWalk] at h ⊢;split
   ·rename_i hw
    rw [jAc hw] at h;obtain ⟨v,h1,h2⟩:=h;exact ⟨v,h1,ih _ _ h2⟩
   ·rename_i hw
    rw [jA0 hw] at h;exact ih _ _ h
 exact aux _ _ _ h
section
attribute [local go_sem] rOper rAt rUpon cell_set sg_i64 sg_u64 alloc_cell alloc_frozen
attribute [local go_sem 10000] pt_eql pt_neq
attribute [local irreducible] rWalk
def lsr (p m:Pt):Pt:=if cmpP p m < 0 then p else m
def min4 (a b c d:Pt):Pt:=lsr d (lsr c (lsr b a))
def minTo (a b c d:Pt) (k:Nat):Pt:=if k=1 then a else if k=2 then lsr b a else if k=3 then lsr c (lsr b a) else min4 a b c d
theorem zHu (a b c d:Pt) (w:World) (bk:Nat) (hB:Box w bk [a.x,a.y,b.x,b.y,c.x,c.y,d.x,d.y] 54):Calls prog 157 #[.slice (some ⟨bk,0,none⟩) 4 4,.func (.func 55) #[] #[]] w (Rt w (.agg #[.int .i64 (min4 a b c d).x,.int .i64 (min4 a b c d).y])):=by
 have l0:=hB.lt;have Fs:=hB.f
 go_enter func157,ntmps157
 go_wp2_with fail
 go_loopw [6] (fun i wr=>∃ (k:Nat) (m:Pt),1≤k∧k≤4∧i=.int .i64 k∧Hid (m=minTo a b c d k)∧Below w w wr∧Box wr w [(),()] 54∧Box wr (w+1) [m.x,m.y] 54∧Box wr bk [a.x,a.y,b.x,b.y,c.x,c.y,d.x,d.y] 54) (fun i _=>4 - (intOf i).toNat)
 case atStart=>exact ⟨1,a,by omega,by omega,rfl,hdd rfl,by go_grown,(Box.new rfl).old _,Box.new (by simp),(hB.old _).old _⟩
 case round=>
  obtain ⟨k,m,k1,k4,rfl,hm,hw,Bz,Bm,Bs⟩:=hrel;clear Fs;have hk:k=1∨k=2∨k=3∨k=4:=by omega
  rcases hk with rfl | rfl | rfl | rfl
  ·have e1:minTo a b c d 1=m:=hm.out.symm;have Q:Hid (minTo a b c d 2=lsr b m):=hdd (by rw [←e1];rfl);clear e1 hm;have cm:=zAu b m;have Fz:=Bz.f;have Fm:=Bm.f;have Fs:=Bs.f;by_cases hc:cmpP b m < 0
   ·have eL:Hid (lsr b m=b):=hdd (by unfold lsr;rw [jAc hc]);have hd:decide (cmpP b m < 0)=true:=by simpa using hc
    have nbm:¬ bk=w.heap.size+1:=by omega
    go_wp2_with fail;have g_zms:=J3 Bz.cells Bm.cells Bs.cells;refine rgn 7 (fun w51 hb=>?_);clear g_zms;clear Fz Fm Fs;obtain ⟨Bz,Bm,Bs,hw,-⟩:=qX3 Bz Bm Bs hw hb;have Fz:=Bz.f;have Fm:=Bm.f;have Fs:=Bs.f;go_wp2_with fail
    go_roundw
    case rel=>
     exact ⟨2,b,by omega,by omega,rfl,hdd (by rw [Q.out,eL.out]),by go_grown,(Bz.set_ne _ _ (by simp)).set_ne _ _ (by simp),(Bm.set 0 (.int .i64 b.x)).set 1 (.int .i64 b.y),(Bs.set_ne _ _ (by simp;omega)).set_ne _ _ (by simp;omega)⟩
    case measure=>simp [intOf]
   ·have eL:Hid (lsr b m=m):=hdd (by unfold lsr;rw [jA0 hc]);have hd:decide (cmpP b m < 0)=false:=by simpa using hc
    go_wp2_with fail;have g_zms:=J3 Bz.cells Bm.cells Bs.cells;refine rgn 7 (fun w51 hb=>?_);clear g_zms;clear Fz Fm Fs;obtain ⟨Bz,Bm,Bs,hw,-⟩:=qX3 Bz Bm Bs hw hb;have Fz:=Bz.f;have Fm:=Bm.f;have Fs:=Bs.f;go_wp2_with fail
    go_roundw
    case rel=>exact ⟨2,m,by omega,by omega,rfl,hdd (by rw [Q.out,eL.out]),hw,Bz,Bm,Bs⟩
    case measure=>simp [intOf]
  ·have e1:minTo a b c d 2=m:=hm.out.symm;have Q:Hid (minTo a b c d 3=lsr c m):=hdd (by rw [←e1];rfl);clear e1 hm;have cm:=zAu c m;have Fz:=Bz.f;have Fm:=Bm.f;have Fs:=Bs.f;by_cases hc:cmpP c m < 0
   ·have eL:Hid (lsr c m=c):=hdd (by unfold lsr;rw [jAc hc]);have hd:decide (cmpP c m < 0)=true:=by simpa using hc
    have nbm:¬ bk=w.heap.size+1:=by omega
    go_wp2_with fail;have g_zms:=J3 Bz.cells Bm.cells Bs.cells;refine rgn 7 (fun w51 hb=>?_);clear g_zms;clear Fz Fm Fs;obtain ⟨Bz,Bm,Bs,hw,-⟩:=qX3 Bz Bm Bs hw hb;have Fz:=Bz.f;have Fm:=Bm.f;have Fs:=Bs.f;go_wp2_with fail
    go_roundw
    case rel=>
     exact ⟨3,c,by omega,by omega,rfl,hdd (by rw [Q.out,eL.out]),by go_grown,(Bz.set_ne _ _ (by simp)).set_ne _ _ (by simp),(Bm.set 0 (.int .i64 c.x)).set 1 (.int .i64 c.y),(Bs.set_ne _ _ (by simp;omega)).set_ne _ _ (by simp;omega)⟩
    case measure=>simp [intOf]
   ·have eL:Hid (lsr c m=m):=hdd (by unfold lsr;rw [jA0 hc]);have hd:decide (cmpP c m < 0)=false:=by simpa using hc
    go_wp2_with fail;have g_zms:=J3 Bz.cells Bm.cells Bs.cells;refine rgn 7 (fun w51 hb=>?_);clear g_zms;clear Fz Fm Fs;obtain ⟨Bz,Bm,Bs,hw,-⟩:=qX3 Bz Bm Bs hw hb;have Fz:=Bz.f;have Fm:=Bm.f;have Fs:=Bs.f;go_wp2_with fail
    go_roundw
    case rel=>exact ⟨3,m,by omega,by omega,rfl,hdd (by rw [Q.out,eL.out]),hw,Bz,Bm,Bs⟩
    case measure=>simp [intOf]
  ·have e1:minTo a b c d 3=m:=hm.out.symm;have Q:Hid (minTo a b c d 4=lsr d m):=hdd (by rw [←e1];rfl);clear e1 hm;have cm:=zAu d m;have Fz:=Bz.f;have Fm:=Bm.f;have Fs:=Bs.f;by_cases hc:cmpP d m < 0
   ·have eL:Hid (lsr d m=d):=hdd (by unfold lsr;rw [jAc hc]);have hd:decide (cmpP d m < 0)=true:=by simpa using hc
    have nbm:¬ bk=w.heap.size+1:=by omega
    go_wp2_with fail;have g_zms:=J3 Bz.cells Bm.cells Bs.cells;refine rgn 7 (fun w51 hb=>?_);clear g_zms;clear Fz Fm Fs;obtain ⟨Bz,Bm,Bs,hw,-⟩:=qX3 Bz Bm Bs hw hb;have Fz:=Bz.f;have Fm:=Bm.f;have Fs:=Bs.f;go_wp2_with fail
    go_roundw
    case rel=>
     exact ⟨4,d,by omega,by omega,rfl,hdd (by rw [Q.out,eL.out]),by go_grown,(Bz.set_ne _ _ (by simp)).set_ne _ _ (by simp),(Bm.set 0 (.int .i64 d.x)).set 1 (.int .i64 d.y),(Bs.set_ne _ _ (by simp;omega)).set_ne _ _ (by simp;omega)⟩
    case measure=>simp [intOf]
   ·have eL:Hid (lsr d m=m):=hdd (by unfold lsr;rw [jA0 hc]);have hd:decide (cmpP d m < 0)=false:=by simpa using hc
    go_wp2_with fail;have g_zms:=J3 Bz.cells Bm.cells Bs.cells;refine rgn 7 (fun w51 hb=>?_);clear g_zms;clear Fz Fm Fs;obtain ⟨Bz,Bm,Bs,hw,-⟩:=qX3 Bz Bm Bs hw hb;have Fz:=Bz.f;have Fm:=Bm.f;have Fs:=Bs.f;go_wp2_with fail
    go_roundw
    case rel=>exact ⟨4,m,by omega,by omega,rfl,hdd (by rw [Q.out,eL.out]),hw,Bz,Bm,Bs⟩
    case measure=>simp [intOf]
  ·have e1:min4 a b c d=m:=hm.out.symm;have E:=hdd e1;clear e1 hm;have Fz:=Bz.f;have Fm:=Bm.f;go_wp2_with fail;refine bodyPost_ret (v:=.agg #[m.x,m.y]) (by simp [results,results157,go_sem,Fz]) rfl ⟨by rw [E.out],by go_grown⟩
def tie (a b c d m:Pt) (o:Int):Int:=if peqI m.x m.y d.x d.y=true then o else if peqI m.x m.y a.x a.y=true then -ori d b c else if peqI m.x m.y b.x b.y=true then -ori a d c else -ori a b d
def circ (a b c d:Pt):Int:=
 if ori a b c=0 then 0 else if vld d=false then 0 else if peqI d.x d.y a.x a.y=true then 0 else if peqI d.x d.y b.x b.y=true then 0 else if peqI d.x d.y c.x c.y=true then 0
 else if ¬ sgn (lft a b c d)=0 then sgn (lft a b c d) else tie a b c d (min4 a b c d) (ori a b c)
theorem sgn_bd (n:Int) : -1≤sgn n∧sgn n≤1:=by unfold sgn;split <;> (try split) <;> omega
theorem zAw (a b c:Pt) : -1≤ori a b c∧ori a b c≤1:=by unfold ori;split;exact sgn_bd _;omega
theorem zBy {a b c:Pt} (h:¬ ori a b c=0):vld a=true∧vld b=true∧vld c=true:=by
 unfold ori at h;split at h;assumption;exact absurd rfl h
theorem circle_0 (a b c d:Pt) (h0:ori a b c=0) (w:World):Calls prog 117 #[a,b,c,d] w (Rt w (.int .i64 0)):=by
 have co:=zA5 a b c;rw [h0] at co;clear h0
 go_enter func117,ntmps117
 go_wp2_with fail;refine qE4 fun W1 Ba Bb Bc Bd hw=>?_;refine qK4 (co _) Ba Bb Bc Bd hw fun w2 Ba Bb Bc Bd hw=>?_;go_wp2
 go_ret
 exact ⟨rfl,hw⟩
theorem circle_1 (a b c d:Pt) (h0:¬ ori a b c=0) (hv:vld d=false) (w:World):Calls prog 117 #[a,b,c,d] w (Rt w (.int .i64 0)):=by
 have co:=zA5 a b c;have cv:=zA2 d;rw [hv] at cv;clear hv;have bo:=zAw a b c;generalize ori a b c=o at *
 have t0:(o == 0)=false:=by simpa using h0
 clear h0
 go_enter func117,ntmps117
 go_wp2_with fail;refine qE4 fun W1 Ba Bb Bc Bd hw=>?_;refine qC4 (co _) Ba Bb Bc Bd hw fun w2 Ba Bb Bc Bd hw F_abcd=>?_;go_wp2_with fail;clear F_abcd;refine qC4 (cv _) Ba Bb Bc Bd hw fun w3 Ba Bb Bc Bd hw F_abcd=>?_;go_wp2
 go_ret
 exact ⟨rfl,hw⟩
theorem circle_2 (a b c d:Pt) (h0:¬ ori a b c=0) (hv:vld d=true) (e1:peqI d.x d.y a.x a.y=true) (w:World):Calls prog 117 #[a,b,c,d] w (Rt w (.int .i64 0)):=by
 have co:=zA5 a b c;have cv:=zA2 d;rw [hv] at cv;clear hv;have bo:=zAw a b c;generalize ori a b c=o at *
 have t0:(o == 0)=false:=by simpa using h0
 clear h0
 go_enter func117,ntmps117
 go_wp2_with fail;refine qE4 fun W1 Ba Bb Bc Bd hw=>?_;refine qC4 (co _) Ba Bb Bc Bd hw fun w2 Ba Bb Bc Bd hw F_abcd=>?_;go_wp2_with fail;clear F_abcd;refine qC4 (cv _) Ba Bb Bc Bd hw fun w3 Ba Bb Bc Bd hw F_abcd=>?_;go_wp2
 go_ret
 exact ⟨rfl,hw⟩
theorem circle_3 (a b c d:Pt) (h0:¬ ori a b c=0) (hv:vld d=true) (e1:peqI d.x d.y a.x a.y=false) (e2:peqI d.x d.y b.x b.y=true) (w:World):Calls prog 117 #[a,b,c,d] w (Rt w (.int .i64 0)):=by
 have co:=zA5 a b c;have cv:=zA2 d;rw [hv] at cv;clear hv;have bo:=zAw a b c;generalize ori a b c=o at *
 have t0:(o == 0)=false:=by simpa using h0
 clear h0
 go_enter func117,ntmps117
 go_wp2_with fail;refine qE4 fun W1 Ba Bb Bc Bd hw=>?_;refine qC4 (co _) Ba Bb Bc Bd hw fun w2 Ba Bb Bc Bd hw F_abcd=>?_;go_wp2_with fail;clear F_abcd;refine qC4 (cv _) Ba Bb Bc Bd hw fun w3 Ba Bb Bc Bd hw F_abcd=>?_;go_wp2
 go_ret
 exact ⟨rfl,hw⟩
theorem circle_4 (a b c d:Pt) (h0:¬ ori a b c=0) (hv:vld d=true) (e1:peqI d.x d.y a.x a.y=false) (e2:peqI d.x d.y b.x b.y=false) (e3:peqI d.x d.y c.x c.y=true) (w:World):Calls prog 117 #[a,b,c,d] w (Rt w (.int .i64 0)):=by
 have co:=zA5 a b c;have cv:=zA2 d;rw [hv] at cv;clear hv;have bo:=zAw a b c;generalize ori a b c=o at *
 have t0:(o == 0)=false:=by simpa using h0
 clear h0
 go_enter func117,ntmps117
 go_wp2_with fail;refine qE4 fun W1 Ba Bb Bc Bd hw=>?_;refine qC4 (co _) Ba Bb Bc Bd hw fun w2 Ba Bb Bc Bd hw F_abcd=>?_;go_wp2_with fail;clear F_abcd;refine qC4 (cv _) Ba Bb Bc Bd hw fun w3 Ba Bb Bc Bd hw F_abcd=>?_;go_wp2
 go_ret
 exact ⟨rfl,hw⟩
theorem circle_5 (a b c d:Pt) (h0:¬ ori a b c=0) (hv:vld d=true) (e1:peqI d.x d.y a.x a.y=false) (e2:peqI d.x d.y b.x b.y=false) (e3:peqI d.x d.y c.x c.y=false) (hl:¬ sgn (lft a b c d)=0) (w:World):Calls prog 117 #[a,b,c,d] w (Rt w (.int .i64 (sgn (lft a b c d)))):=by
 have co:=zA5 a b c;have cv:=zA2 d;rw [hv] at cv;obtain ⟨vva,vvb,vvc⟩:=zBy h0;have cl:=zDh a b c d vva vvb vvc hv;clear hv vva vvb vvc;have bo:=zAw a b c;generalize ori a b c=o at *
 have t0:(o == 0)=false:=by simpa using h0
 clear h0;generalize sgn (lft a b c d)=l at *
 have t1:(l != 0)=true:=by simpa using hl
 clear hl
 go_enter func117,ntmps117
 go_wp2_with fail;refine qE4 fun W1 Ba Bb Bc Bd hw=>?_;refine qC4 (co _) Ba Bb Bc Bd hw fun w2 Ba Bb Bc Bd hw F_abcd=>?_;go_wp2_with fail;clear F_abcd;refine qC4 (cv _) Ba Bb Bc Bd hw fun w3 Ba Bb Bc Bd hw F_abcd=>?_;go_wp2_with fail;clear F_abcd;refine qK4 (cl _) Ba Bb Bc Bd hw fun w4 Ba Bb Bc Bd hw=>?_;go_wp2
 go_ret
 exact ⟨rfl,hw⟩
theorem circle_6 (a b c d:Pt) (h0:¬ ori a b c=0) (hv:vld d=true) (e1:peqI d.x d.y a.x a.y=false) (e2:peqI d.x d.y b.x b.y=false) (e3:peqI d.x d.y c.x c.y=false) (hl:sgn (lft a b c d)=0) (m1:peqI (min4 a b c d).x (min4 a b c d).y d.x d.y=true) (w:World):Calls prog 117 #[a,b,c,d] w (Rt w (.int .i64 (ori a b c))):=by
 have co:=zA5 a b c;have cv:=zA2 d;rw [hv] at cv;obtain ⟨vva,vvb,vvc⟩:=zBy h0;have cl:=zDh a b c d vva vvb vvc hv;clear hv vva vvb vvc;rw [hl] at cl;clear hl;have cm:=zHu a b c d;generalize min4 a b c d=m at *
 have bo:=zAw a b c;generalize ori a b c=o at *
 have t0:(o == 0)=false:=by simpa using h0
 clear h0
 go_enter func117,ntmps117
 go_wp2_with fail;refine qE4 fun W1 Ba Bb Bc Bd hw=>?_;refine qK4 (co _) Ba Bb Bc Bd hw fun w2 Ba Bb Bc Bd hw=>?_;have Fa:=Ba.f;have Fb:=Bb.f;have Fc:=Bc.f;have Fd:=Bd.f;go_wp2_with fail;clear Fa Fb Fc Fd;refine qK4 (cv _) Ba Bb Bc Bd hw fun w3 Ba Bb Bc Bd hw=>?_;have Fa:=Ba.f;have Fb:=Bb.f;have Fc:=Bc.f;have Fd:=Bd.f;go_wp2_with fail;clear Fa Fb Fc Fd;refine qK4 (cl _) Ba Bb Bc Bd hw fun w4 Ba Bb Bc Bd hw=>?_;have Fa:=Ba.f;have Fb:=Bb.f;have Fc:=Bc.f;have Fd:=Bd.f;go_wp2_with fail;refine zA4 fun W5 hW=>?_;obtain ⟨bks,hbs⟩:∃ b,w4.heap.size=b:=⟨_,rfl⟩;rw [hbs];have Bs:Box W5 bks [a.x,a.y,b.x,b.y,c.x,c.y,d.x,d.y] 54:=by rw [hW];exact Box.new hbs.symm
 replace Ba:Box W5 w [a.x,a.y] 54:=by rw [hW];exact Ba.old _
 replace Bb:Box W5 (w+1) [b.x,b.y] 54:=by rw [hW];exact Bb.old _
 replace Bc:Box W5 (w+1+1) [c.x,c.y] 54:=by rw [hW];exact Bc.old _
 replace Bd:Box W5 (w+1+1+1) [d.x,d.y] 54:=by rw [hW];exact Bd.old _
 replace hw:Below w w W5:=by have hl:=hw.size;rw [hW];go_grown
 clear hW hbs;clear Fa Fb Fc Fd;refine qK5 (cm _ _ Bs) Ba Bb Bc Bd Bs hw fun w6 Ba Bb Bc Bd Bs hw=>?_;have Fa:=Ba.f;have Fb:=Bb.f;have Fc:=Bc.f;have Fd:=Bd.f;have Fs:=Bs.f;go_wp2
 go_ret
 exact ⟨rfl,hw⟩
theorem circle_7 (a b c d:Pt) (h0:¬ ori a b c=0) (hv:vld d=true) (e1:peqI d.x d.y a.x a.y=false) (e2:peqI d.x d.y b.x b.y=false) (e3:peqI d.x d.y c.x c.y=false) (hl:sgn (lft a b c d)=0) (m1:peqI (min4 a b c d).x (min4 a b c d).y d.x d.y=false) (m2:peqI (min4 a b c d).x (min4 a b c d).y a.x a.y=true) (w:World):Calls prog 117 #[a,b,c,d] w (Rt w (.int .i64 (-ori d b c))):=by
 have co:=zA5 a b c;have cv:=zA2 d;rw [hv] at cv;obtain ⟨vva,vvb,vvc⟩:=zBy h0;have cl:=zDh a b c d vva vvb vvc hv;clear hv vva vvb vvc;rw [hl] at cl;clear hl;have cm:=zHu a b c d;generalize min4 a b c d=m at *
 have bo:=zAw a b c;generalize ori a b c=o at *
 have t0:(o == 0)=false:=by simpa using h0
 clear h0;have c2:=zA5 d b c;have b2:=zAw d b c;generalize ori d b c=o2 at *
 go_enter func117,ntmps117
 go_wp2_with fail;refine qE4 fun W1 Ba Bb Bc Bd hw=>?_;refine qK4 (co _) Ba Bb Bc Bd hw fun w2 Ba Bb Bc Bd hw=>?_;have Fa:=Ba.f;have Fb:=Bb.f;have Fc:=Bc.f;have Fd:=Bd.f;go_wp2_with fail;clear Fa Fb Fc Fd;refine qK4 (cv _) Ba Bb Bc Bd hw fun w3 Ba Bb Bc Bd hw=>?_;have Fa:=Ba.f;have Fb:=Bb.f;have Fc:=Bc.f;have Fd:=Bd.f;go_wp2_with fail;clear Fa Fb Fc Fd;refine qK4 (cl _) Ba Bb Bc Bd hw fun w4 Ba Bb Bc Bd hw=>?_;have Fa:=Ba.f;have Fb:=Bb.f;have Fc:=Bc.f;have Fd:=Bd.f;go_wp2_with fail;refine zA4 fun W5 hW=>?_;obtain ⟨bks,hbs⟩:∃ b,w4.heap.size=b:=⟨_,rfl⟩;rw [hbs];have Bs:Box W5 bks [a.x,a.y,b.x,b.y,c.x,c.y,d.x,d.y] 54:=by rw [hW];exact Box.new hbs.symm
 replace Ba:Box W5 w [a.x,a.y] 54:=by rw [hW];exact Ba.old _
 replace Bb:Box W5 (w+1) [b.x,b.y] 54:=by rw [hW];exact Bb.old _
 replace Bc:Box W5 (w+1+1) [c.x,c.y] 54:=by rw [hW];exact Bc.old _
 replace Bd:Box W5 (w+1+1+1) [d.x,d.y] 54:=by rw [hW];exact Bd.old _
 replace hw:Below w w W5:=by have hl:=hw.size;rw [hW];go_grown
 clear hW hbs;clear Fa Fb Fc Fd;refine qK5 (cm _ _ Bs) Ba Bb Bc Bd Bs hw fun w6 Ba Bb Bc Bd Bs hw=>?_;have Fa:=Ba.f;have Fb:=Bb.f;have Fc:=Bc.f;have Fd:=Bd.f;have Fs:=Bs.f;go_wp2_with fail;clear Fa Fb Fc Fd Fs;refine qK5 (c2 _) Ba Bb Bc Bd Bs hw fun w7 Ba Bb Bc Bd Bs hw=>?_;go_wp2
 go_ret
 exact ⟨rfl,hw⟩
theorem circle_8 (a b c d:Pt) (h0:¬ ori a b c=0) (hv:vld d=true) (e1:peqI d.x d.y a.x a.y=false) (e2:peqI d.x d.y b.x b.y=false) (e3:peqI d.x d.y c.x c.y=false) (hl:sgn (lft a b c d)=0) (m1:peqI (min4 a b c d).x (min4 a b c d).y d.x d.y=false) (m2:peqI (min4 a b c d).x (min4 a b c d).y a.x a.y=false) (m3:peqI (min4 a b c d).x (min4 a b c d).y b.x b.y=true) (w:World):Calls prog 117 #[a,b,c,d] w (Rt w (.int .i64 (-ori a d c))):=by
 have co:=zA5 a b c;have cv:=zA2 d;rw [hv] at cv;obtain ⟨vva,vvb,vvc⟩:=zBy h0;have cl:=zDh a b c d vva vvb vvc hv;clear hv vva vvb vvc;rw [hl] at cl;clear hl;have cm:=zHu a b c d;generalize min4 a b c d=m at *
 have bo:=zAw a b c;generalize ori a b c=o at *
 have t0:(o == 0)=false:=by simpa using h0
 clear h0;have c2:=zA5 a d c;have b2:=zAw a d c;generalize ori a d c=o2 at *
 go_enter func117,ntmps117
 go_wp2_with fail;refine qE4 fun W1 Ba Bb Bc Bd hw=>?_;refine qK4 (co _) Ba Bb Bc Bd hw fun w2 Ba Bb Bc Bd hw=>?_;have Fa:=Ba.f;have Fb:=Bb.f;have Fc:=Bc.f;have Fd:=Bd.f;go_wp2_with fail;clear Fa Fb Fc Fd;refine qK4 (cv _) Ba Bb Bc Bd hw fun w3 Ba Bb Bc Bd hw=>?_;have Fa:=Ba.f;have Fb:=Bb.f;have Fc:=Bc.f;have Fd:=Bd.f;go_wp2_with fail;clear Fa Fb Fc Fd;refine qK4 (cl _) Ba Bb Bc Bd hw fun w4 Ba Bb Bc Bd hw=>?_;have Fa:=Ba.f;have Fb:=Bb.f;have Fc:=Bc.f;have Fd:=Bd.f;go_wp2_with fail;refine zA4 fun W5 hW=>?_;obtain ⟨bks,hbs⟩:∃ b,w4.heap.size=b:=⟨_,rfl⟩;rw [hbs];have Bs:Box W5 bks [a.x,a.y,b.x,b.y,c.x,c.y,d.x,d.y] 54:=by rw [hW];exact Box.new hbs.symm
 replace Ba:Box W5 w [a.x,a.y] 54:=by rw [hW];exact Ba.old _
 replace Bb:Box W5 (w+1) [b.x,b.y] 54:=by rw [hW];exact Bb.old _
 replace Bc:Box W5 (w+1+1) [c.x,c.y] 54:=by rw [hW];exact Bc.old _
 replace Bd:Box W5 (w+1+1+1) [d.x,d.y] 54:=by rw [hW];exact Bd.old _
 replace hw:Below w w W5:=by have hl:=hw.size;rw [hW];go_grown
 clear hW hbs;clear Fa Fb Fc Fd;refine qK5 (cm _ _ Bs) Ba Bb Bc Bd Bs hw fun w6 Ba Bb Bc Bd Bs hw=>?_;have Fa:=Ba.f;have Fb:=Bb.f;have Fc:=Bc.f;have Fd:=Bd.f;have Fs:=Bs.f;go_wp2_with fail;clear Fa Fb Fc Fd Fs;refine qK5 (c2 _) Ba Bb Bc Bd Bs hw fun w7 Ba Bb Bc Bd Bs hw=>?_;go_wp2
 go_ret
 exact ⟨rfl,hw⟩
theorem circle_9 (a b c d:Pt) (h0:¬ ori a b c=0) (hv:vld d=true) (e1:peqI d.x d.y a.x a.y=false) (e2:peqI d.x d.y b.x b.y=false) (e3:peqI d.x d.y c.x c.y=false) (hl:sgn (lft a b c d)=0) (m1:peqI (min4 a b c d).x (min4 a b c d).y d.x d.y=false) (m2:peqI (min4 a b c d).x (min4 a b c d).y a.x a.y=false) (m3:peqI (min4 a b c d).x (min4 a b c d).y b.x b.y=false) (w:World):Calls prog 117 #[a,b,c,d] w (Rt w (.int .i64 (-ori a b d))):=by
 have co:=zA5 a b c;have cv:=zA2 d;rw [hv] at cv;obtain ⟨vva,vvb,vvc⟩:=zBy h0;have cl:=zDh a b c d vva vvb vvc hv;clear hv vva vvb vvc;rw [hl] at cl;clear hl;have cm:=zHu a b c d;generalize min4 a b c d=m at *
 have bo:=zAw a b c;generalize ori a b c=o at *
 have t0:(o == 0)=false:=by simpa using h0
 clear h0;have c2:=zA5 a b d;have b2:=zAw a b d;generalize ori a b d=o2 at *
 go_enter func117,ntmps117
 go_wp2_with fail;refine qE4 fun W1 Ba Bb Bc Bd hw=>?_;refine qK4 (co _) Ba Bb Bc Bd hw fun w2 Ba Bb Bc Bd hw=>?_;have Fa:=Ba.f;have Fb:=Bb.f;have Fc:=Bc.f;have Fd:=Bd.f;go_wp2_with fail;clear Fa Fb Fc Fd;refine qK4 (cv _) Ba Bb Bc Bd hw fun w3 Ba Bb Bc Bd hw=>?_;have Fa:=Ba.f;have Fb:=Bb.f;have Fc:=Bc.f;have Fd:=Bd.f;go_wp2_with fail;clear Fa Fb Fc Fd;refine qK4 (cl _) Ba Bb Bc Bd hw fun w4 Ba Bb Bc Bd hw=>?_;have Fa:=Ba.f;have Fb:=Bb.f;have Fc:=Bc.f;have Fd:=Bd.f;go_wp2_with fail;refine zA4 fun W5 hW=>?_;obtain ⟨bks,hbs⟩:∃ b,w4.heap.size=b:=⟨_,rfl⟩;rw [hbs];have Bs:Box W5 bks [a.x,a.y,b.x,b.y,c.x,c.y,d.x,d.y] 54:=by rw [hW];exact Box.new hbs.symm
 replace Ba:Box W5 w [a.x,a.y] 54:=by rw [hW];exact Ba.old _
 replace Bb:Box W5 (w+1) [b.x,b.y] 54:=by rw [hW];exact Bb.old _
 replace Bc:Box W5 (w+1+1) [c.x,c.y] 54:=by rw [hW];exact Bc.old _
 replace Bd:Box W5 (w+1+1+1) [d.x,d.y] 54:=by rw [hW];exact Bd.old _
 replace hw:Below w w W5:=by have hl:=hw.size;rw [hW];go_grown
 clear hW hbs;clear Fa Fb Fc Fd;refine qK5 (cm _ _ Bs) Ba Bb Bc Bd Bs hw fun w6 Ba Bb Bc Bd Bs hw=>?_;have Fa:=Ba.f;have Fb:=Bb.f;have Fc:=Bc.f;have Fd:=Bd.f;have Fs:=Bs.f;go_wp2_with fail;clear Fa Fb Fc Fd Fs;refine qK5 (c2 _) Ba Bb Bc Bd Bs hw fun w7 Ba Bb Bc Bd Bs hw=>?_;go_wp2
 go_ret
 exact ⟨rfl,hw⟩
theorem circle_any (a b c d:Pt) (w:World):Calls prog 117 #[a,b,c,d] w (Rt w (.int .i64 (circ a b c d))):=by
 by_cases h0:ori a b c=0
 ·rw [show circ a b c d=0 by unfold circ;rw [jAc h0]];exact circle_0 a b c d h0 w
 cases hv:vld d with
 | false=>rw [show circ a b c d=0 by unfold circ;rw [jA0 h0,jAc hv]];exact circle_1 a b c d h0 hv w
 | true=>
 have nv:¬ vld d=false:=by rw [hv];simp
 cases e1:peqI d.x d.y a.x a.y with
 | true=>rw [show circ a b c d=0 by unfold circ;rw [jA0 h0,jA0 nv,jAc e1]];exact circle_2 a b c d h0 hv e1 w
 | false=>
 have n1:¬ peqI d.x d.y a.x a.y=true:=by rw [e1];simp
 cases e2:peqI d.x d.y b.x b.y with
 | true=>rw [show circ a b c d=0 by unfold circ;rw [jA0 h0,jA0 nv,jA0 n1,jAc e2]];exact circle_3 a b c d h0 hv e1 e2 w
 | false=>
 have n2:¬ peqI d.x d.y b.x b.y=true:=by rw [e2];simp
 cases e3:peqI d.x d.y c.x c.y with
 | true=>rw [show circ a b c d=0 by unfold circ;rw [jA0 h0,jA0 nv,jA0 n1,jA0 n2,jAc e3]];exact circle_4 a b c d h0 hv e1 e2 e3 w
 | false=>
 have n3:¬ peqI d.x d.y c.x c.y=true:=by rw [e3];simp
 by_cases hl:sgn (lft a b c d)=0
 ·have ec : circ a b c d = tie a b c d (min4 a b c d) (ori a b c) := by
    unfold circ;rw [jA0 h0,jA0 nv,jA0 n1,jA0 n2,jA0 n3,jA0 (fun h=>h hl)]
  rw [ec];cases m1:peqI (min4 a b c d).x (min4 a b c d).y d.x d.y with
  | true=>rw [show tie a b c d (min4 a b c d) (ori a b c)=ori a b c by unfold tie;rw [jAc m1]];exact circle_6 a b c d h0 hv e1 e2 e3 hl m1 w
  | false=>
  have k1:¬ peqI (min4 a b c d).x (min4 a b c d).y d.x d.y=true:=by rw [m1];simp
  cases m2:peqI (min4 a b c d).x (min4 a b c d).y a.x a.y with
  | true=>rw [show tie a b c d (min4 a b c d) (ori a b c) = -ori d b c by unfold tie;rw [jA0 k1,jAc m2]];exact circle_7 a b c d h0 hv e1 e2 e3 hl m1 m2 w
  | false=>
  have k2:¬ peqI (min4 a b c d).x (min4 a b c d).y a.x a.y=true:=by rw [m2];simp
  cases m3:peqI (min4 a b c d).x (min4 a b c d).y b.x b.y with
  | true=>rw [show tie a b c d (min4 a b c d) (ori a b c) = -ori a d c by unfold tie;rw [jA0 k1,jA0 k2,jAc m3]];exact circle_8 a b c d h0 hv e1 e2 e3 hl m1 m2 m3 w
  | false=>
  have k3:¬ peqI (min4 a b c d).x (min4 a b c d).y b.x b.y=true:=by rw [m3];simp
  rw [show tie a b c d (min4 a b c d) (ori a b c) = -ori a b d by unfold tie;rw [jA0 k1,jA0 k2,jA0 k3]];exact circle_9 a b c d h0 hv e1 e2 e3 hl m1 m2 m3 w
 ·rw [show circ a b c d=sgn (lft a b c d) by unfold circ;rw [jA0 h0,jA0 nv,jA0 n1,jA0 n2,jA0 n3,jAc hl]];exact circle_5 a b c d h0 hv e1 e2 e3 hl w
theorem cmpP_bd (p q:Pt) : -1≤cmpP p q∧cmpP p q≤1:=by unfold cmpP;split <;> exact sgn_bd _
theorem zG9 {a b:Int} (ha : -1≤a∧a≤1) (hb : -1≤b∧b≤1) : -1≤a * b∧a * b≤1:=by
 have h1:a = -1∨a=0∨a=1:=by omega
 rcases h1 with rfl | rfl | rfl <;> omega
def onS (p a b:Pt):Bool:=vld p && (vld a && (vld b && (decide (ori a b p=0) && decide (0≤cmpP a p * cmpP p b))))
def lo2 (p q:Pt):Pt:=if cmpP q p < 0 then q else p
def hi2 (p q:Pt):Pt:=if cmpP q p < 0 then p else q
def mil (a b c d:Pt):Int:=if cmpP (lo2 a b) (hi2 c d) < 0 then (if cmpP (lo2 c d) (hi2 a b) < 0 then 3 else 0) else 0
theorem mil_000 (a b c d:Pt) (g1:decide (cmpP b a < 0)=false) (g2:decide (cmpP d c < 0)=false) (g3:decide (cmpP a d < 0)=false) (w:World):Calls prog 164 #[a,b,c,d] w (Rt w (.int .i64 0)):=by
 have k1:=zAu b a;have k2:=zAu d c;have k3:=zAu a d;generalize cmpP b a=x0 at *
 generalize cmpP d c=x1 at *
 generalize cmpP a d=x2 at *
 go_enter func164,ntmps164
 go_wp2_with fail;refine qE4 fun W1 Ba Bb Bc Bd hw=>?_;refine qC4 (k1 _) Ba Bb Bc Bd hw fun w2 Ba Bb Bc Bd hw F_abcd=>?_;go_wp2_with fail;clear F_abcd;refine qC4 (k2 _) Ba Bb Bc Bd hw fun w3 Ba Bb Bc Bd hw F_abcd=>?_;go_wp2_with fail;clear F_abcd;refine qK4 (k3 _) Ba Bb Bc Bd hw fun w4 Ba Bb Bc Bd hw=>?_;go_wp2
 go_ret
 exact ⟨rfl,hw⟩
theorem mil_001 (a b c d:Pt) (g1:decide (cmpP b a < 0)=false) (g2:decide (cmpP d c < 0)=false) (g3:decide (cmpP a d < 0)=true) (g4:decide (cmpP c b < 0)=false) (w:World):Calls prog 164 #[a,b,c,d] w (Rt w (.int .i64 0)):=by
 have k1:=zAu b a;have k2:=zAu d c;have k3:=zAu a d;have k4:=zAu c b;generalize cmpP b a=x0 at *
 generalize cmpP d c=x1 at *
 generalize cmpP a d=x2 at *
 generalize cmpP c b=x3 at *
 go_enter func164,ntmps164
 go_wp2_with fail;refine qE4 fun W1 Ba Bb Bc Bd hw=>?_;refine qC4 (k1 _) Ba Bb Bc Bd hw fun w2 Ba Bb Bc Bd hw F_abcd=>?_;go_wp2_with fail;clear F_abcd;refine qC4 (k2 _) Ba Bb Bc Bd hw fun w3 Ba Bb Bc Bd hw F_abcd=>?_;go_wp2_with fail;clear F_abcd;refine qC4 (k3 _) Ba Bb Bc Bd hw fun w4 Ba Bb Bc Bd hw F_abcd=>?_;go_wp2_with fail;clear F_abcd;refine qK4 (k4 _) Ba Bb Bc Bd hw fun w5 Ba Bb Bc Bd hw=>?_;go_wp2
 go_ret
 exact ⟨rfl,hw⟩
theorem mil_002 (a b c d:Pt) (g1:decide (cmpP b a < 0)=false) (g2:decide (cmpP d c < 0)=false) (g3:decide (cmpP a d < 0)=true) (g4:decide (cmpP c b < 0)=true) (w:World):Calls prog 164 #[a,b,c,d] w (Rt w (.int .i64 3)):=by
 have k1:=zAu b a;have k2:=zAu d c;have k3:=zAu a d;have k4:=zAu c b;generalize cmpP b a=x0 at *
 generalize cmpP d c=x1 at *
 generalize cmpP a d=x2 at *
 generalize cmpP c b=x3 at *
 go_enter func164,ntmps164
 go_wp2_with fail;refine qE4 fun W1 Ba Bb Bc Bd hw=>?_;refine qC4 (k1 _) Ba Bb Bc Bd hw fun w2 Ba Bb Bc Bd hw F_abcd=>?_;go_wp2_with fail;clear F_abcd;refine qC4 (k2 _) Ba Bb Bc Bd hw fun w3 Ba Bb Bc Bd hw F_abcd=>?_;go_wp2_with fail;clear F_abcd;refine qC4 (k3 _) Ba Bb Bc Bd hw fun w4 Ba Bb Bc Bd hw F_abcd=>?_;go_wp2_with fail;clear F_abcd;refine qK4 (k4 _) Ba Bb Bc Bd hw fun w5 Ba Bb Bc Bd hw=>?_;go_wp2
 go_ret
 exact ⟨rfl,hw⟩
theorem mil_010 (a b c d:Pt) (g1:decide (cmpP b a < 0)=false) (g2:decide (cmpP d c < 0)=true) (g3:decide (cmpP a c < 0)=false) (w:World):Calls prog 164 #[a,b,c,d] w (Rt w (.int .i64 0)):=by
 have k1:=zAu b a;have k2:=zAu d c;have k3:=zAu a c;generalize cmpP b a=x0 at *
 generalize cmpP d c=x1 at *
 generalize cmpP a c=x2 at *
 go_enter func164,ntmps164
 go_wp2_with fail;refine qE4 fun W1 Ba Bb Bc Bd hw=>?_;refine qC4 (k1 _) Ba Bb Bc Bd hw fun w2 Ba Bb Bc Bd hw F_abcd=>?_;go_wp2_with fail;clear F_abcd;refine qC4 (k2 _) Ba Bb Bc Bd hw fun w3 Ba Bb Bc Bd hw F_abcd=>?_;go_wp2_with fail;refine zA4 fun W4 hW=>?_;replace Ba:=sto Ba hW;replace Bb:=sto Bb hW;replace Bc:=sto Bc hW;replace Bd:=sto Bd hW;replace hw:=stw hw hW;clear F_abcd;clear hW;refine qK4 (k3 _) Ba Bb Bc Bd hw fun w5 Ba Bb Bc Bd hw=>?_;go_wp2
 go_ret
 exact ⟨rfl,hw⟩
theorem mil_011 (a b c d:Pt) (g1:decide (cmpP b a < 0)=false) (g2:decide (cmpP d c < 0)=true) (g3:decide (cmpP a c < 0)=true) (g4:decide (cmpP d b < 0)=false) (w:World):Calls prog 164 #[a,b,c,d] w (Rt w (.int .i64 0)):=by
 have k1:=zAu b a;have k2:=zAu d c;have k3:=zAu a c;have k4:=zAu d b;generalize cmpP b a=x0 at *
 generalize cmpP d c=x1 at *
 generalize cmpP a c=x2 at *
 generalize cmpP d b=x3 at *
 go_enter func164,ntmps164
 go_wp2_with fail;refine qE4 fun W1 Ba Bb Bc Bd hw=>?_;refine qC4 (k1 _) Ba Bb Bc Bd hw fun w2 Ba Bb Bc Bd hw F_abcd=>?_;go_wp2_with fail;clear F_abcd;refine qC4 (k2 _) Ba Bb Bc Bd hw fun w3 Ba Bb Bc Bd hw F_abcd=>?_;go_wp2_with fail;refine zA4 fun W4 hW=>?_;replace Ba:=sto Ba hW;replace Bb:=sto Bb hW;replace Bc:=sto Bc hW;replace Bd:=sto Bd hW;replace hw:=stw hw hW;clear F_abcd;clear hW;refine qC4 (k3 _) Ba Bb Bc Bd hw fun w5 Ba Bb Bc Bd hw F_abcd=>?_;go_wp2_with fail;clear F_abcd;refine qK4 (k4 _) Ba Bb Bc Bd hw fun w6 Ba Bb Bc Bd hw=>?_;go_wp2
 go_ret
 exact ⟨rfl,hw⟩
theorem mil_012 (a b c d:Pt) (g1:decide (cmpP b a < 0)=false) (g2:decide (cmpP d c < 0)=true) (g3:decide (cmpP a c < 0)=true) (g4:decide (cmpP d b < 0)=true) (w:World):Calls prog 164 #[a,b,c,d] w (Rt w (.int .i64 3)):=by
 have k1:=zAu b a;have k2:=zAu d c;have k3:=zAu a c;have k4:=zAu d b;generalize cmpP b a=x0 at *
 generalize cmpP d c=x1 at *
 generalize cmpP a c=x2 at *
 generalize cmpP d b=x3 at *
 go_enter func164,ntmps164
 go_wp2_with fail;refine qE4 fun W1 Ba Bb Bc Bd hw=>?_;refine qC4 (k1 _) Ba Bb Bc Bd hw fun w2 Ba Bb Bc Bd hw F_abcd=>?_;go_wp2_with fail;clear F_abcd;refine qC4 (k2 _) Ba Bb Bc Bd hw fun w3 Ba Bb Bc Bd hw F_abcd=>?_;go_wp2_with fail;refine zA4 fun W4 hW=>?_;replace Ba:=sto Ba hW;replace Bb:=sto Bb hW;replace Bc:=sto Bc hW;replace Bd:=sto Bd hW;replace hw:=stw hw hW;clear F_abcd;clear hW;refine qC4 (k3 _) Ba Bb Bc Bd hw fun w5 Ba Bb Bc Bd hw F_abcd=>?_;go_wp2_with fail;clear F_abcd;refine qK4 (k4 _) Ba Bb Bc Bd hw fun w6 Ba Bb Bc Bd hw=>?_;go_wp2
 go_ret
 exact ⟨rfl,hw⟩
theorem mil_100 (a b c d:Pt) (g1:decide (cmpP b a < 0)=true) (g2:decide (cmpP d c < 0)=false) (g3:decide (cmpP b d < 0)=false) (w:World):Calls prog 164 #[a,b,c,d] w (Rt w (.int .i64 0)):=by
 have k1:=zAu b a;have k2:=zAu d c;have k3:=zAu b d;generalize cmpP b a=x0 at *
 generalize cmpP d c=x1 at *
 generalize cmpP b d=x2 at *
 go_enter func164,ntmps164
 go_wp2_with fail;refine qE4 fun W1 Ba Bb Bc Bd hw=>?_;refine qC4 (k1 _) Ba Bb Bc Bd hw fun w2 Ba Bb Bc Bd hw F_abcd=>?_;go_wp2_with fail;refine zA4 fun W3 hW=>?_;replace Ba:=sto Ba hW;replace Bb:=sto Bb hW;replace Bc:=sto Bc hW;replace Bd:=sto Bd hW;replace hw:=stw hw hW;clear F_abcd;clear hW;refine qC4 (k2 _) Ba Bb Bc Bd hw fun w4 Ba Bb Bc Bd hw F_abcd=>?_;go_wp2_with fail;clear F_abcd;refine qK4 (k3 _) Ba Bb Bc Bd hw fun w5 Ba Bb Bc Bd hw=>?_;go_wp2
 go_ret
 exact ⟨rfl,hw⟩
theorem mil_101 (a b c d:Pt) (g1:decide (cmpP b a < 0)=true) (g2:decide (cmpP d c < 0)=false) (g3:decide (cmpP b d < 0)=true) (g4:decide (cmpP c a < 0)=false) (w:World):Calls prog 164 #[a,b,c,d] w (Rt w (.int .i64 0)):=by
 have k1:=zAu b a;have k2:=zAu d c;have k3:=zAu b d;have k4:=zAu c a;generalize cmpP b a=x0 at *
 generalize cmpP d c=x1 at *
 generalize cmpP b d=x2 at *
 generalize cmpP c a=x3 at *
 go_enter func164,ntmps164
 go_wp2_with fail;refine qE4 fun W1 Ba Bb Bc Bd hw=>?_;refine qC4 (k1 _) Ba Bb Bc Bd hw fun w2 Ba Bb Bc Bd hw F_abcd=>?_;go_wp2_with fail;refine zA4 fun W3 hW=>?_;replace Ba:=sto Ba hW;replace Bb:=sto Bb hW;replace Bc:=sto Bc hW;replace Bd:=sto Bd hW;replace hw:=stw hw hW;clear F_abcd;clear hW;refine qC4 (k2 _) Ba Bb Bc Bd hw fun w4 Ba Bb Bc Bd hw F_abcd=>?_;go_wp2_with fail;clear F_abcd;refine qC4 (k3 _) Ba Bb Bc Bd hw fun w5 Ba Bb Bc Bd hw F_abcd=>?_;go_wp2_with fail;clear F_abcd;refine qK4 (k4 _) Ba Bb Bc Bd hw fun w6 Ba Bb Bc Bd hw=>?_;go_wp2
 go_ret
 exact ⟨rfl,hw⟩
theorem mil_102 (a b c d:Pt) (g1:decide (cmpP b a < 0)=true) (g2:decide (cmpP d c < 0)=false) (g3:decide (cmpP b d < 0)=true) (g4:decide (cmpP c a < 0)=true) (w:World):Calls prog 164 #[a,b,c,d] w (Rt w (.int .i64 3)):=by
 have k1:=zAu b a;have k2:=zAu d c;have k3:=zAu b d;have k4:=zAu c a;generalize cmpP b a=x0 at *
 generalize cmpP d c=x1 at *
 generalize cmpP b d=x2 at *
 generalize cmpP c a=x3 at *
 go_enter func164,ntmps164
 go_wp2_with fail;refine qE4 fun W1 Ba Bb Bc Bd hw=>?_;refine qC4 (k1 _) Ba Bb Bc Bd hw fun w2 Ba Bb Bc Bd hw F_abcd=>?_;go_wp2_with fail;refine zA4 fun W3 hW=>?_;replace Ba:=sto Ba hW;replace Bb:=sto Bb hW;replace Bc:=sto Bc hW;replace Bd:=sto Bd hW;replace hw:=stw hw hW;clear F_abcd;clear hW;refine qC4 (k2 _) Ba Bb Bc Bd hw fun w4 Ba Bb Bc Bd hw F_abcd=>?_;go_wp2_with fail;clear F_abcd;refine qC4 (k3 _) Ba Bb Bc Bd hw fun w5 Ba Bb Bc Bd hw F_abcd=>?_;go_wp2_with fail;clear F_abcd;refine qK4 (k4 _) Ba Bb Bc Bd hw fun w6 Ba Bb Bc Bd hw=>?_;go_wp2
 go_ret
 exact ⟨rfl,hw⟩
theorem mil_110 (a b c d:Pt) (g1:decide (cmpP b a < 0)=true) (g2:decide (cmpP d c < 0)=true) (g3:decide (cmpP b c < 0)=false) (w:World):Calls prog 164 #[a,b,c,d] w (Rt w (.int .i64 0)):=by
 have k1:=zAu b a;have k2:=zAu d c;have k3:=zAu b c;generalize cmpP b a=x0 at *
 generalize cmpP d c=x1 at *
 generalize cmpP b c=x2 at *
 go_enter func164,ntmps164
 go_wp2_with fail;refine qE4 fun W1 Ba Bb Bc Bd hw=>?_;refine qC4 (k1 _) Ba Bb Bc Bd hw fun w2 Ba Bb Bc Bd hw F_abcd=>?_;go_wp2_with fail;refine zA4 fun W3 hW=>?_;replace Ba:=sto Ba hW;replace Bb:=sto Bb hW;replace Bc:=sto Bc hW;replace Bd:=sto Bd hW;replace hw:=stw hw hW;clear F_abcd;clear hW;refine qC4 (k2 _) Ba Bb Bc Bd hw fun w4 Ba Bb Bc Bd hw F_abcd=>?_;go_wp2_with fail;refine zA4 fun W5 hW=>?_;replace Ba:=sto Ba hW;replace Bb:=sto Bb hW;replace Bc:=sto Bc hW;replace Bd:=sto Bd hW;replace hw:=stw hw hW;clear F_abcd;clear hW;refine qK4 (k3 _) Ba Bb Bc Bd hw fun w6 Ba Bb Bc Bd hw=>?_;go_wp2
 go_ret
 exact ⟨rfl,hw⟩
theorem mil_111 (a b c d:Pt) (g1:decide (cmpP b a < 0)=true) (g2:decide (cmpP d c < 0)=true) (g3:decide (cmpP b c < 0)=true) (g4:decide (cmpP d a < 0)=false) (w:World):Calls prog 164 #[a,b,c,d] w (Rt w (.int .i64 0)):=by
 have k1:=zAu b a;have k2:=zAu d c;have k3:=zAu b c;have k4:=zAu d a;generalize cmpP b a=x0 at *
 generalize cmpP d c=x1 at *
 generalize cmpP b c=x2 at *
 generalize cmpP d a=x3 at *
 go_enter func164,ntmps164
 go_wp2_with fail;refine qE4 fun W1 Ba Bb Bc Bd hw=>?_;refine qC4 (k1 _) Ba Bb Bc Bd hw fun w2 Ba Bb Bc Bd hw F_abcd=>?_;go_wp2_with fail;refine zA4 fun W3 hW=>?_;replace Ba:=sto Ba hW;replace Bb:=sto Bb hW;replace Bc:=sto Bc hW;replace Bd:=sto Bd hW;replace hw:=stw hw hW;clear F_abcd;clear hW;refine qC4 (k2 _) Ba Bb Bc Bd hw fun w4 Ba Bb Bc Bd hw F_abcd=>?_;go_wp2_with fail;refine zA4 fun W5 hW=>?_;replace Ba:=sto Ba hW;replace Bb:=sto Bb hW;replace Bc:=sto Bc hW;replace Bd:=sto Bd hW;replace hw:=stw hw hW;clear F_abcd;clear hW;refine qC4 (k3 _) Ba Bb Bc Bd hw fun w6 Ba Bb Bc Bd hw F_abcd=>?_;go_wp2_with fail;clear F_abcd;refine qK4 (k4 _) Ba Bb Bc Bd hw fun w7 Ba Bb Bc Bd hw=>?_;go_wp2
 go_ret
 exact ⟨rfl,hw⟩
theorem mil_112 (a b c d:Pt) (g1:decide (cmpP b a < 0)=true) (g2:decide (cmpP d c < 0)=true) (g3:decide (cmpP b c < 0)=true) (g4:decide (cmpP d a < 0)=true) (w:World):Calls prog 164 #[a,b,c,d] w (Rt w (.int .i64 3)):=by
 have k1:=zAu b a;have k2:=zAu d c;have k3:=zAu b c;have k4:=zAu d a;generalize cmpP b a=x0 at *
 generalize cmpP d c=x1 at *
 generalize cmpP b c=x2 at *
 generalize cmpP d a=x3 at *
 go_enter func164,ntmps164
 go_wp2_with fail;refine qE4 fun W1 Ba Bb Bc Bd hw=>?_;refine qC4 (k1 _) Ba Bb Bc Bd hw fun w2 Ba Bb Bc Bd hw F_abcd=>?_;go_wp2_with fail;refine zA4 fun W3 hW=>?_;replace Ba:=sto Ba hW;replace Bb:=sto Bb hW;replace Bc:=sto Bc hW;replace Bd:=sto Bd hW;replace hw:=stw hw hW;clear F_abcd;clear hW;refine qC4 (k2 _) Ba Bb Bc Bd hw fun w4 Ba Bb Bc Bd hw F_abcd=>?_;go_wp2_with fail;refine zA4 fun W5 hW=>?_;replace Ba:=sto Ba hW;replace Bb:=sto Bb hW;replace Bc:=sto Bc hW;replace Bd:=sto Bd hW;replace hw:=stw hw hW;clear F_abcd;clear hW;refine qC4 (k3 _) Ba Bb Bc Bd hw fun w6 Ba Bb Bc Bd hw F_abcd=>?_;go_wp2_with fail;clear F_abcd;refine qK4 (k4 _) Ba Bb Bc Bd hw fun w7 Ba Bb Bc Bd hw=>?_;go_wp2
 go_ret
 exact ⟨rfl,hw⟩
theorem mil_any (a b c d:Pt) (w:World):Calls prog 164 #[a,b,c,d] w (Rt w (.int .i64 (mil a b c d))):=by
 have dt:∀ {x:Int},x < 0→decide (x < 0)=true:=fun h=>by simpa using h
 have df:∀ {x:Int},¬ x < 0→decide (x < 0)=false:=fun h=>by simpa using h
 unfold mil lo2 hi2;by_cases g1:cmpP b a < 0
 ·by_cases g2:cmpP d c < 0
  ·simp only [jAc g1,jAc g2];by_cases g3:cmpP b c < 0
   ·by_cases g4:cmpP d a < 0
    ·rw [jAc g3,jAc g4];exact mil_112 a b c d (dt g1) (dt g2) (dt g3) (dt g4) w
    ·rw [jAc g3,jA0 g4];exact mil_111 a b c d (dt g1) (dt g2) (dt g3) (df g4) w
   ·rw [jA0 g3];exact mil_110 a b c d (dt g1) (dt g2) (df g3) w
  ·simp only [jAc g1,jA0 g2];by_cases g3:cmpP b d < 0
   ·by_cases g4:cmpP c a < 0
    ·rw [jAc g3,jAc g4];exact mil_102 a b c d (dt g1) (df g2) (dt g3) (dt g4) w
    ·rw [jAc g3,jA0 g4];exact mil_101 a b c d (dt g1) (df g2) (dt g3) (df g4) w
   ·rw [jA0 g3];exact mil_100 a b c d (dt g1) (df g2) (df g3) w
 ·by_cases g2:cmpP d c < 0
  ·simp only [jA0 g1,jAc g2];by_cases g3:cmpP a c < 0
   ·by_cases g4:cmpP d b < 0
    ·rw [jAc g3,jAc g4];exact mil_012 a b c d (df g1) (dt g2) (dt g3) (dt g4) w
    ·rw [jAc g3,jA0 g4];exact mil_011 a b c d (df g1) (dt g2) (dt g3) (df g4) w
   ·rw [jA0 g3];exact mil_010 a b c d (df g1) (dt g2) (df g3) w
  ·simp only [jA0 g1,jA0 g2];by_cases g3:cmpP a d < 0
   ·by_cases g4:cmpP c b < 0
    ·rw [jAc g3,jAc g4];exact mil_002 a b c d (df g1) (df g2) (dt g3) (dt g4) w
    ·rw [jAc g3,jA0 g4];exact mil_001 a b c d (df g1) (df g2) (dt g3) (df g4) w
   ·rw [jA0 g3];exact mil_000 a b c d (df g1) (df g2) (df g3) w
end
end Go.Proofs.YtogffkimgmlilaaGreat
