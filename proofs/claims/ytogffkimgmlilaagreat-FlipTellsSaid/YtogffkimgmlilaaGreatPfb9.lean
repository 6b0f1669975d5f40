/- Put together: ExO, ExP, ExQ, ExV, ExW. -/
import Derived.Test.YtogffkimgmlilaaGreatPfb8
set_option maxRecDepth 100000
set_option maxHeartbeats 8000000
set_option linter.all false
namespace Go.Proofs.YtogffkimgmlilaaGreat
open _root_.Go.Proofs.Tryz
section
open Go.RowKit Go.Sort
attribute [local go_sem] rOper rAt rUpon cell_set sg_i64 sg_u64 alloc_cell alloc_frozen
attribute [local go_sem 10000] pt_eql pt_neq
attribute [local irreducible] rWalk
def mx4 (x y z v:Int):Int:=max (max (max x y) z) v
theorem run_max4 {P:Program} {w:World} (ts:Array TypeId) (t:TypeId) (k k' k'' k3:IntKind) (x y z v:Int):(Builtin.max_ ts t #[.int k x,.int k' y,.int k'' z,.int k3 v]).run P w=.ok (.int k (mx4 x y z v)) w:=by
 have e:∀ p q:Int,(if p < q then q else p)=max p q:=fun p q=>by split <;> omega
 simp [Builtin.max_,Builtin.max2,mx4,go_sem,e]
attribute [local go_sem] run_max4
def lap (a b c d:Pt):Int:=if cmpP (rg (rl a b) (rl c d)) (rl (rg a b) (rg c d)) < 0 then 3 else 0
def meetR (a b c d:Pt):Int:=
 if vld a=false then 0 else if vld b=false then 0 else if vld c=false then 0 else if vld d=false then 0 else if peqI a.x a.y b.x b.y=true then 0 else if peqI c.x c.y d.x d.y=true then 0
 else if ori a b c=0∧ori a b d=0 then lap a b c d
 else if ori a b c * ori a b d < 0∧ori c d a * ori c d b < 0 then 1
 else mx4 (tch a c d) (tch b c d) (tch c a b) (tch d a b)
theorem tch_bd (p a b:Pt):0≤tch p a b∧tch p a b≤2:=by unfold tch;(repeat' split) <;> omega
theorem rmeet_v0 (a b c d:Pt) (ha:vld a=false) (w:World):Calls prog 145 #[a,b,c,d] w (Rt w (.int .i64 0)):=by
 have ca:=zA0 a;rw [ha] at ca;clear ha
 go_enter func145,ntmps145
 go_wp2_with fail;refine qE4 fun W1 Ba Bb Bc Bd hw=>?_;refine qC4 (ca _) Ba Bb Bc Bd hw fun w2 Ba Bb Bc Bd hw F_abcd=>?_;go_wp2
 go_ret
 exact ⟨rfl,hw⟩
theorem rmeet_v1 (a b c d:Pt) (ha:vld a=true) (hb:vld b=false) (w:World):Calls prog 145 #[a,b,c,d] w (Rt w (.int .i64 0)):=by
 have ca:=zA0 a;rw [ha] at ca;clear ha;have cb:=zA0 b;rw [hb] at cb;clear hb
 go_enter func145,ntmps145
 go_wp2_with fail;refine qE4 fun W1 Ba Bb Bc Bd hw=>?_;refine qC4 (ca _) Ba Bb Bc Bd hw fun w2 Ba Bb Bc Bd hw F_abcd=>?_;go_wp2_with fail;clear F_abcd;refine qC4 (cb _) Ba Bb Bc Bd hw fun w3 Ba Bb Bc Bd hw F_abcd=>?_;go_wp2
 go_ret
 exact ⟨rfl,hw⟩
theorem rmeet_v2 (a b c d:Pt) (ha:vld a=true) (hb:vld b=true) (hc:vld c=false) (w:World):Calls prog 145 #[a,b,c,d] w (Rt w (.int .i64 0)):=by
 have ca:=zA0 a;rw [ha] at ca;clear ha;have cb:=zA0 b;rw [hb] at cb;clear hb;have cc:=zA0 c;rw [hc] at cc;clear hc
 go_enter func145,ntmps145
 go_wp2_with fail;refine qE4 fun W1 Ba Bb Bc Bd hw=>?_;refine qC4 (ca _) Ba Bb Bc Bd hw fun w2 Ba Bb Bc Bd hw F_abcd=>?_;go_wp2_with fail;clear F_abcd;refine qC4 (cb _) Ba Bb Bc Bd hw fun w3 Ba Bb Bc Bd hw F_abcd=>?_;go_wp2_with fail;clear F_abcd;refine qC4 (cc _) Ba Bb Bc Bd hw fun w4 Ba Bb Bc Bd hw F_abcd=>?_;go_wp2
 go_ret
 exact ⟨rfl,hw⟩
theorem rmeet_v3 (a b c d:Pt) (ha:vld a=true) (hb:vld b=true) (hc:vld c=true) (hd:vld d=false) (w:World):Calls prog 145 #[a,b,c,d] w (Rt w (.int .i64 0)):=by
 have ca:=zA0 a;rw [ha] at ca;clear ha;have cb:=zA0 b;rw [hb] at cb;clear hb;have cc:=zA0 c;rw [hc] at cc;clear hc;have cd:=zA0 d;rw [hd] at cd;clear hd
 go_enter func145,ntmps145
 go_wp2_with fail;refine qE4 fun W1 Ba Bb Bc Bd hw=>?_;refine qC4 (ca _) Ba Bb Bc Bd hw fun w2 Ba Bb Bc Bd hw F_abcd=>?_;go_wp2_with fail;clear F_abcd;refine qC4 (cb _) Ba Bb Bc Bd hw fun w3 Ba Bb Bc Bd hw F_abcd=>?_;go_wp2_with fail;clear F_abcd;refine qC4 (cc _) Ba Bb Bc Bd hw fun w4 Ba Bb Bc Bd hw F_abcd=>?_;go_wp2_with fail;clear F_abcd;refine qC4 (cd _) Ba Bb Bc Bd hw fun w5 Ba Bb Bc Bd hw F_abcd=>?_;go_wp2
 go_ret
 exact ⟨rfl,hw⟩
theorem rmeet_e1 (a b c d:Pt) (ha:vld a=true) (hb:vld b=true) (hc:vld c=true) (hd:vld d=true) (e1:peqI a.x a.y b.x b.y=true) (w:World):Calls prog 145 #[a,b,c,d] w (Rt w (.int .i64 0)):=by
 have ca:=zA0 a;rw [ha] at ca;clear ha;have cb:=zA0 b;rw [hb] at cb;clear hb;have cc:=zA0 c;rw [hc] at cc;clear hc;have cd:=zA0 d;rw [hd] at cd;clear hd
 go_enter func145,ntmps145
 go_wp2_with fail;refine qE4 fun W1 Ba Bb Bc Bd hw=>?_;refine qC4 (ca _) Ba Bb Bc Bd hw fun w2 Ba Bb Bc Bd hw F_abcd=>?_;go_wp2_with fail;clear F_abcd;refine qC4 (cb _) Ba Bb Bc Bd hw fun w3 Ba Bb Bc Bd hw F_abcd=>?_;go_wp2_with fail;clear F_abcd;refine qC4 (cc _) Ba Bb Bc Bd hw fun w4 Ba Bb Bc Bd hw F_abcd=>?_;go_wp2_with fail;clear F_abcd;refine qC4 (cd _) Ba Bb Bc Bd hw fun w5 Ba Bb Bc Bd hw F_abcd=>?_;go_wp2
 go_ret
 exact ⟨rfl,hw⟩
theorem rmeet_e2 (a b c d:Pt) (ha:vld a=true) (hb:vld b=true) (hc:vld c=true) (hd:vld d=true) (e1:peqI a.x a.y b.x b.y=false) (e2:peqI c.x c.y d.x d.y=true) (w:World):Calls prog 145 #[a,b,c,d] w (Rt w (.int .i64 0)):=by
 have ca:=zA0 a;rw [ha] at ca;clear ha;have cb:=zA0 b;rw [hb] at cb;clear hb;have cc:=zA0 c;rw [hc] at cc;clear hc;have cd:=zA0 d;rw [hd] at cd;clear hd
 go_enter func145,ntmps145
 go_wp2_with fail;refine qE4 fun W1 Ba Bb Bc Bd hw=>?_;refine qC4 (ca _) Ba Bb Bc Bd hw fun w2 Ba Bb Bc Bd hw F_abcd=>?_;go_wp2_with fail;clear F_abcd;refine qC4 (cb _) Ba Bb Bc Bd hw fun w3 Ba Bb Bc Bd hw F_abcd=>?_;go_wp2_with fail;clear F_abcd;refine qC4 (cc _) Ba Bb Bc Bd hw fun w4 Ba Bb Bc Bd hw F_abcd=>?_;go_wp2_with fail;clear F_abcd;refine qC4 (cd _) Ba Bb Bc Bd hw fun w5 Ba Bb Bc Bd hw F_abcd=>?_;go_wp2
 go_ret
 exact ⟨rfl,hw⟩
theorem rmeet_l0 (a b c d:Pt) (ha:vld a=true) (hb:vld b=true) (hc:vld c=true) (hd:vld d=true) (e1:peqI a.x a.y b.x b.y=false) (e2:peqI c.x c.y d.x d.y=false) (z1:ori a b c=0) (z2:ori a b d=0) (hk:decide (cmpP (rg (rl a b) (rl c d)) (rl (rg a b) (rg c d)) < 0)=false) (w:World):Calls prog 145 #[a,b,c,d] w (Rt w (.int .i64 0)):=by
 have ca:=zA0 a;rw [ha] at ca;clear ha;have cb:=zA0 b;rw [hb] at cb;clear hb;have cc:=zA0 c;rw [hc] at cc;clear hc;have cd:=zA0 d;rw [hd] at cd;clear hd;have o1:=zA3 a b c;have o2:=zA3 a b d;have o3:=zA3 c d a;have o4:=zA3 c d b;rw [z1] at o1;rw [z2] at o2;clear z1 z2;have l1:=zGr a b;have l2:=zGr c d;have l3:=zGs (rl a b) (rl c d);have l4:=zGs a b;have l5:=zGs c d;have l6:=zGr (rg a b) (rg c d);have kc:=zAe (rg (rl a b) (rl c d)) (rl (rg a b) (rg c d));generalize cmpP (rg (rl a b) (rl c d)) (rl (rg a b) (rg c d))=K at *
 generalize rg (rl a b) (rl c d)=lo at *
 generalize rl (rg a b) (rg c d)=hi at *
 generalize rl a b=q1 at *
 generalize rl c d=q2 at *
 generalize rg a b=q3 at *
 generalize rg c d=q4 at *
 generalize ori c d a=A at *
 generalize ori c d b=B at *
 go_enter func145,ntmps145
 go_wp2_with fail;refine qE4 fun W1 Ba Bb Bc Bd hw=>?_;refine qC4 (ca _) Ba Bb Bc Bd hw fun w2 Ba Bb Bc Bd hw F_abcd=>?_;go_wp2_with fail;clear F_abcd;refine qC4 (cb _) Ba Bb Bc Bd hw fun w3 Ba Bb Bc Bd hw F_abcd=>?_;go_wp2_with fail;clear F_abcd;refine qC4 (cc _) Ba Bb Bc Bd hw fun w4 Ba Bb Bc Bd hw F_abcd=>?_;go_wp2_with fail;clear F_abcd;refine qC4 (cd _) Ba Bb Bc Bd hw fun w5 Ba Bb Bc Bd hw F_abcd=>?_;go_wp2;refine zA1 fun W6 hW=>?_;subst hW;clear F_abcd;have g_abcd:=J4 Ba.cells Bb.cells Bc.cells Bd.cells;refine rgn 16 (fun w7 hb=>?_);clear g_abcd;obtain ⟨Ba,Bb,Bc,Bd,hw,F_abcd⟩:=qX4 Ba Bb Bc Bd hw hb;go_wp2;refine zA1 fun W8 hW=>?_;subst hW;clear F_abcd;have g_abcd:=J4 Ba.cells Bb.cells Bc.cells Bd.cells;refine zAq 16 [⟨14,13,54,[(),()]⟩,⟨15,14,54,[(),()]⟩] ?_ (by kernel_rfl) (by decide) (by decide) (by kernel_rfl) (by decide) (C:=fun w'=>∃ p:Regrown,w'=grow (redrawn W8 p.d) p.os) rgB ?_
 ·simp only [jBt];refine ⟨⟨_,rfl,rfl,rfl,rfl,fun ρ W=>by simp [execOp,go_sem]⟩,⟨_,rfl,rfl,rfl,rfl,fun ρ W=>by simp [execOp,go_sem]⟩,fun _ h=>(by cases h)⟩
 simp only [jBf,jCg,jAv,jD0,dropIdx,jC4,jC8,Nat.reduceBEq,Nat.reduceAdd,jCz,jD7,jD8,jBb,jDs,jDf];refine wkx ?_;intro w9 β hL;simp only [putD,jBy,jC0];have ql:=hL.box ⟨14,13,54,[(),()]⟩ (by simp) (by simp);simp only at ql;have qh:=hL.box ⟨15,14,54,[(),()]⟩ (by simp) (by simp);simp only at qh;have nlh:=hL.apart 13 (by simp) 14 (by simp) (by decide);have nhl:=hL.apart 14 (by simp) 13 (by simp) (by decide);have hb:=hL.below;have la:=Ba.lt;have lb:=Bb.lt;have lc:=Bc.lt;have ld:=Bd.lt;clear g_abcd;replace Ba:=Ba.ee hb;replace Bb:=Bb.ee hb;replace Bc:=Bc.ee hb;replace Bd:=Bd.ee hb;have hw0:=hw.size;replace hw:=upB hw hb;clear hb hL;generalize β 13=bkl at *
 generalize β 14=bkh at *
 clear β;obtain ⟨fl,Bl⟩:=ql;obtain ⟨fh,Bh⟩:=qh;simp only [Act.put];have F_lh:=J2 Bl.f Bh.f;go_wp2_with fail;refine zA4 fun W10 hW=>?_;replace Ba:=sto Ba hW;replace Bb:=sto Bb hW;replace Bc:=sto Bc hW;replace Bd:=sto Bd hW;replace Bl:=sto Bl hW;replace Bh:=sto Bh hW;replace hw:=stw hw hW;clear F_lh;clear hW;refine qK6 (kc _) Ba Bb Bc Bd Bl Bh hw fun w11 Ba Bb Bc Bd Bl Bh hw=>?_;go_wp2
 go_ret
 exact ⟨rfl,hw⟩
theorem rmeet_l1 (a b c d:Pt) (ha:vld a=true) (hb:vld b=true) (hc:vld c=true) (hd:vld d=true) (e1:peqI a.x a.y b.x b.y=false) (e2:peqI c.x c.y d.x d.y=false) (z1:ori a b c=0) (z2:ori a b d=0) (hk:decide (cmpP (rg (rl a b) (rl c d)) (rl (rg a b) (rg c d)) < 0)=true) (w:World):Calls prog 145 #[a,b,c,d] w (Rt w (.int .i64 3)):=by
 have ca:=zA0 a;rw [ha] at ca;clear ha;have cb:=zA0 b;rw [hb] at cb;clear hb;have cc:=zA0 c;rw [hc] at cc;clear hc;have cd:=zA0 d;rw [hd] at cd;clear hd;have o1:=zA3 a b c;have o2:=zA3 a b d;have o3:=zA3 c d a;have o4:=zA3 c d b;rw [z1] at o1;rw [z2] at o2;clear z1 z2;have l1:=zGr a b;have l2:=zGr c d;have l3:=zGs (rl a b) (rl c d);have l4:=zGs a b;have l5:=zGs c d;have l6:=zGr (rg a b) (rg c d);have kc:=zAe (rg (rl a b) (rl c d)) (rl (rg a b) (rg c d));generalize cmpP (rg (rl a b) (rl c d)) (rl (rg a b) (rg c d))=K at *
 generalize rg (rl a b) (rl c d)=lo at *
 generalize rl (rg a b) (rg c d)=hi at *
 generalize rl a b=q1 at *
 generalize rl c d=q2 at *
 generalize rg a b=q3 at *
 generalize rg c d=q4 at *
 generalize ori c d a=A at *
 generalize ori c d b=B at *
 go_enter func145,ntmps145
 go_wp2_with fail;refine qE4 fun W1 Ba Bb Bc Bd hw=>?_;refine qC4 (ca _) Ba Bb Bc Bd hw fun w2 Ba Bb Bc Bd hw F_abcd=>?_;go_wp2_with fail;clear F_abcd;refine qC4 (cb _) Ba Bb Bc Bd hw fun w3 Ba Bb Bc Bd hw F_abcd=>?_;go_wp2_with fail;clear F_abcd;refine qC4 (cc _) Ba Bb Bc Bd hw fun w4 Ba Bb Bc Bd hw F_abcd=>?_;go_wp2_with fail;clear F_abcd;refine qC4 (cd _) Ba Bb Bc Bd hw fun w5 Ba Bb Bc Bd hw F_abcd=>?_;go_wp2;refine zA1 fun W6 hW=>?_;subst hW;clear F_abcd;have g_abcd:=J4 Ba.cells Bb.cells Bc.cells Bd.cells;refine rgn 16 (fun w7 hb=>?_);clear g_abcd;obtain ⟨Ba,Bb,Bc,Bd,hw,F_abcd⟩:=qX4 Ba Bb Bc Bd hw hb;go_wp2;refine zA1 fun W8 hW=>?_;subst hW;clear F_abcd;have g_abcd:=J4 Ba.cells Bb.cells Bc.cells Bd.cells;refine zAq 16 [⟨14,13,54,[(),()]⟩,⟨15,14,54,[(),()]⟩] ?_ (by kernel_rfl) (by decide) (by decide) (by kernel_rfl) (by decide) (C:=fun w'=>∃ p:Regrown,w'=grow (redrawn W8 p.d) p.os) rgB ?_
 ·simp only [jBt];refine ⟨⟨_,rfl,rfl,rfl,rfl,fun ρ W=>by simp [execOp,go_sem]⟩,⟨_,rfl,rfl,rfl,rfl,fun ρ W=>by simp [execOp,go_sem]⟩,fun _ h=>(by cases h)⟩
 simp only [jBf,jCg,jAv,jD0,dropIdx,jC4,jC8,Nat.reduceBEq,Nat.reduceAdd,jCz,jD7,jD8,jBb,jDs,jDf];refine wkx ?_;intro w9 β hL;simp only [putD,jBy,jC0];have ql:=hL.box ⟨14,13,54,[(),()]⟩ (by simp) (by simp);simp only at ql;have qh:=hL.box ⟨15,14,54,[(),()]⟩ (by simp) (by simp);simp only at qh;have nlh:=hL.apart 13 (by simp) 14 (by simp) (by decide);have nhl:=hL.apart 14 (by simp) 13 (by simp) (by decide);have hb:=hL.below;have la:=Ba.lt;have lb:=Bb.lt;have lc:=Bc.lt;have ld:=Bd.lt;clear g_abcd;replace Ba:=Ba.ee hb;replace Bb:=Bb.ee hb;replace Bc:=Bc.ee hb;replace Bd:=Bd.ee hb;have hw0:=hw.size;replace hw:=upB hw hb;clear hb hL;generalize β 13=bkl at *
 generalize β 14=bkh at *
 clear β;obtain ⟨fl,Bl⟩:=ql;obtain ⟨fh,Bh⟩:=qh;simp only [Act.put];have F_lh:=J2 Bl.f Bh.f;go_wp2_with fail;refine zA4 fun W10 hW=>?_;replace Ba:=sto Ba hW;replace Bb:=sto Bb hW;replace Bc:=sto Bc hW;replace Bd:=sto Bd hW;replace Bl:=sto Bl hW;replace Bh:=sto Bh hW;replace hw:=stw hw hW;clear F_lh;clear hW;refine qK6 (kc _) Ba Bb Bc Bd Bl Bh hw fun w11 Ba Bb Bc Bd Bl Bh hw=>?_;go_wp2
 go_ret
 exact ⟨rfl,hw⟩
theorem rmeet_x (a b c d:Pt) (ha:vld a=true) (hb:vld b=true) (hc:vld c=true) (hd:vld d=true) (e1:peqI a.x a.y b.x b.y=false) (e2:peqI c.x c.y d.x d.y=false) (z1:¬ ori a b c=0) (x1:ori a b c * ori a b d < 0) (x2:ori c d a * ori c d b < 0) (w:World):Calls prog 145 #[a,b,c,d] w (Rt w (.int .i64 1)):=by
 have ca:=zA0 a;rw [ha] at ca;clear ha;have cb:=zA0 b;rw [hb] at cb;clear hb;have cc:=zA0 c;rw [hc] at cc;clear hc;have cd:=zA0 d;rw [hd] at cd;clear hd;have o1:=zA3 a b c;have o2:=zA3 a b d;have o3:=zA3 c d a;have o4:=zA3 c d b;have sC:=zAw a b c;have sD:=zAw a b d;have sA:=zAw c d a;have sB:=zAw c d b;have m1:=zG9 sC sD;have m2:=zG9 sA sB;generalize ori a b c=C at *
 generalize ori a b d=D at *
 generalize ori c d a=A at *
 generalize ori c d b=B at *
 have t1:(C == 0)=false:=by simpa using z1
 clear z1;have k1:decide (C * D < 0)=true:=by simpa using x1
 have k2:decide (A * B < 0)=true:=by simpa using x2
 clear x1 x2
 go_enter func145,ntmps145
 go_wp2_with fail;refine qE4 fun W1 Ba Bb Bc Bd hw=>?_;refine qC4 (ca _) Ba Bb Bc Bd hw fun w2 Ba Bb Bc Bd hw F_abcd=>?_;go_wp2_with fail;clear F_abcd;refine qC4 (cb _) Ba Bb Bc Bd hw fun w3 Ba Bb Bc Bd hw F_abcd=>?_;go_wp2_with fail;clear F_abcd;refine qC4 (cc _) Ba Bb Bc Bd hw fun w4 Ba Bb Bc Bd hw F_abcd=>?_;go_wp2_with fail;clear F_abcd;refine qC4 (cd _) Ba Bb Bc Bd hw fun w5 Ba Bb Bc Bd hw F_abcd=>?_;go_wp2;refine zA1 fun W6 hW=>?_;subst hW;clear F_abcd;have g_abcd:=J4 Ba.cells Bb.cells Bc.cells Bd.cells;refine rgn 16 (fun w7 hb=>?_);clear g_abcd;obtain ⟨Ba,Bb,Bc,Bd,hw,F_abcd⟩:=qX4 Ba Bb Bc Bd hw hb;go_wp2
 go_ret
 exact ⟨rfl,hw⟩
theorem rmeet_t1 (a b c d:Pt) (ha:vld a=true) (hb:vld b=true) (hc:vld c=true) (hd:vld d=true) (e1:peqI a.x a.y b.x b.y=false) (e2:peqI c.x c.y d.x d.y=false) (z1:¬ ori a b c=0) (x1:¬ ori a b c * ori a b d < 0) (w:World):Calls prog 145 #[a,b,c,d] w (Rt w (.int .i64 (mx4 (tch a c d) (tch b c d) (tch c a b) (tch d a b)))):=by
 have ca:=zA0 a;rw [ha] at ca;clear ha;have cb:=zA0 b;rw [hb] at cb;clear hb;have cc:=zA0 c;rw [hc] at cc;clear hc;have cd:=zA0 d;rw [hd] at cd;clear hd;have o1:=zA3 a b c;have o2:=zA3 a b d;have o3:=zA3 c d a;have o4:=zA3 c d b;have sC:=zAw a b c;have sD:=zAw a b d;have sA:=zAw c d a;have sB:=zAw c d b;have m1:=zG9 sC sD;have m2:=zG9 sA sB;generalize ori a b c=C at *
 generalize ori a b d=D at *
 generalize ori c d a=A at *
 generalize ori c d b=B at *
 have t1:(C == 0)=false:=by simpa using z1
 clear z1;have k1:decide (C * D < 0)=false:=by simpa using x1
 clear x1;have u1:=zD3 a c d;have u2:=zD3 b c d;have u3:=zD3 c a b;have u4:=zD3 d a b;generalize tch a c d=T1 at *
 generalize tch b c d=T2 at *
 generalize tch c a b=T3 at *
 generalize tch d a b=T4 at *
 go_enter func145,ntmps145
 go_wp2_with fail;refine qE4 fun W1 Ba Bb Bc Bd hw=>?_;refine qC4 (ca _) Ba Bb Bc Bd hw fun w2 Ba Bb Bc Bd hw F_abcd=>?_;go_wp2_with fail;clear F_abcd;refine qC4 (cb _) Ba Bb Bc Bd hw fun w3 Ba Bb Bc Bd hw F_abcd=>?_;go_wp2_with fail;clear F_abcd;refine qC4 (cc _) Ba Bb Bc Bd hw fun w4 Ba Bb Bc Bd hw F_abcd=>?_;go_wp2_with fail;clear F_abcd;refine qC4 (cd _) Ba Bb Bc Bd hw fun w5 Ba Bb Bc Bd hw F_abcd=>?_;go_wp2;refine zA1 fun W6 hW=>?_;subst hW;clear F_abcd;have g_abcd:=J4 Ba.cells Bb.cells Bc.cells Bd.cells;refine rgn 16 (fun w7 hb=>?_);clear g_abcd;obtain ⟨Ba,Bb,Bc,Bd,hw,F_abcd⟩:=qX4 Ba Bb Bc Bd hw hb;go_wp2;refine zA1 fun W8 hW=>?_;subst hW;clear F_abcd;have g_abcd:=J4 Ba.cells Bb.cells Bc.cells Bd.cells;refine rgn 16 (fun w9 hb=>?_);clear g_abcd;obtain ⟨Ba,Bb,Bc,Bd,hw,-⟩:=qX4 Ba Bb Bc Bd hw hb;go_wp2;all_goals go_ret
 all_goals exact ⟨rfl,hw⟩
theorem rmeet_t2 (a b c d:Pt) (ha:vld a=true) (hb:vld b=true) (hc:vld c=true) (hd:vld d=true) (e1:peqI a.x a.y b.x b.y=false) (e2:peqI c.x c.y d.x d.y=false) (z1:¬ ori a b c=0) (x1:ori a b c * ori a b d < 0) (x2:¬ ori c d a * ori c d b < 0) (w:World):Calls prog 145 #[a,b,c,d] w (Rt w (.int .i64 (mx4 (tch a c d) (tch b c d) (tch c a b) (tch d a b)))):=by
 have ca:=zA0 a;rw [ha] at ca;clear ha;have cb:=zA0 b;rw [hb] at cb;clear hb;have cc:=zA0 c;rw [hc] at cc;clear hc;have cd:=zA0 d;rw [hd] at cd;clear hd;have o1:=zA3 a b c;have o2:=zA3 a b d;have o3:=zA3 c d a;have o4:=zA3 c d b;have sC:=zAw a b c;have sD:=zAw a b d;have sA:=zAw c d a;have sB:=zAw c d b;have m1:=zG9 sC sD;have m2:=zG9 sA sB;generalize ori a b c=C at *
 generalize ori a b d=D at *
 generalize ori c d a=A at *
 generalize ori c d b=B at *
 have t1:(C == 0)=false:=by simpa using z1
 clear z1;have k1:decide (C * D < 0)=true:=by simpa using x1
 have k2:decide (A * B < 0)=false:=by simpa using x2
 clear x1 x2;have u1:=zD3 a c d;have u2:=zD3 b c d;have u3:=zD3 c a b;have u4:=zD3 d a b;generalize tch a c d=T1 at *
 generalize tch b c d=T2 at *
 generalize tch c a b=T3 at *
 generalize tch d a b=T4 at *
 go_enter func145,ntmps145
 go_wp2_with fail;refine qE4 fun W1 Ba Bb Bc Bd hw=>?_;refine qC4 (ca _) Ba Bb Bc Bd hw fun w2 Ba Bb Bc Bd hw F_abcd=>?_;go_wp2_with fail;clear F_abcd;refine qC4 (cb _) Ba Bb Bc Bd hw fun w3 Ba Bb Bc Bd hw F_abcd=>?_;go_wp2_with fail;clear F_abcd;refine qC4 (cc _) Ba Bb Bc Bd hw fun w4 Ba Bb Bc Bd hw F_abcd=>?_;go_wp2_with fail;clear F_abcd;refine qC4 (cd _) Ba Bb Bc Bd hw fun w5 Ba Bb Bc Bd hw F_abcd=>?_;go_wp2;refine zA1 fun W6 hW=>?_;subst hW;clear F_abcd;have g_abcd:=J4 Ba.cells Bb.cells Bc.cells Bd.cells;refine rgn 16 (fun w7 hb=>?_);clear g_abcd;obtain ⟨Ba,Bb,Bc,Bd,hw,F_abcd⟩:=qX4 Ba Bb Bc Bd hw hb;go_wp2;refine zA1 fun W8 hW=>?_;subst hW;clear F_abcd;have g_abcd:=J4 Ba.cells Bb.cells Bc.cells Bd.cells;refine rgn 16 (fun w9 hb=>?_);clear g_abcd;obtain ⟨Ba,Bb,Bc,Bd,hw,-⟩:=qX4 Ba Bb Bc Bd hw hb;go_wp2;all_goals go_ret
 all_goals exact ⟨rfl,hw⟩
theorem rmeet_t3 (a b c d:Pt) (ha:vld a=true) (hb:vld b=true) (hc:vld c=true) (hd:vld d=true) (e1:peqI a.x a.y b.x b.y=false) (e2:peqI c.x c.y d.x d.y=false) (z1:ori a b c=0) (z2:¬ ori a b d=0) (w:World):Calls prog 145 #[a,b,c,d] w (Rt w (.int .i64 (mx4 (tch a c d) (tch b c d) (tch c a b) (tch d a b)))):=by
 have ca:=zA0 a;rw [ha] at ca;clear ha;have cb:=zA0 b;rw [hb] at cb;clear hb;have cc:=zA0 c;rw [hc] at cc;clear hc;have cd:=zA0 d;rw [hd] at cd;clear hd;have o1:=zA3 a b c;have o2:=zA3 a b d;have o3:=zA3 c d a;have o4:=zA3 c d b;have sC:=zAw a b c;have sD:=zAw a b d;have sA:=zAw c d a;have sB:=zAw c d b;have m2:=zG9 sA sB;rw [z1] at o1;clear z1;generalize ori a b d=D at *
 generalize ori c d a=A at *
 generalize ori c d b=B at *
 have t2:(D == 0)=false:=by simpa using z2
 clear z2;have u1:=zD3 a c d;have u2:=zD3 b c d;have u3:=zD3 c a b;have u4:=zD3 d a b;generalize tch a c d=T1 at *
 generalize tch b c d=T2 at *
 generalize tch c a b=T3 at *
 generalize tch d a b=T4 at *
 go_enter func145,ntmps145
 go_wp2_with fail;refine qE4 fun W1 Ba Bb Bc Bd hw=>?_;refine qC4 (ca _) Ba Bb Bc Bd hw fun w2 Ba Bb Bc Bd hw F_abcd=>?_;go_wp2_with fail;clear F_abcd;refine qC4 (cb _) Ba Bb Bc Bd hw fun w3 Ba Bb Bc Bd hw F_abcd=>?_;go_wp2_with fail;clear F_abcd;refine qC4 (cc _) Ba Bb Bc Bd hw fun w4 Ba Bb Bc Bd hw F_abcd=>?_;go_wp2_with fail;clear F_abcd;refine qC4 (cd _) Ba Bb Bc Bd hw fun w5 Ba Bb Bc Bd hw F_abcd=>?_;go_wp2;refine zA1 fun W6 hW=>?_;subst hW;clear F_abcd;have g_abcd:=J4 Ba.cells Bb.cells Bc.cells Bd.cells;refine rgn 16 (fun w7 hb=>?_);clear g_abcd;obtain ⟨Ba,Bb,Bc,Bd,hw,F_abcd⟩:=qX4 Ba Bb Bc Bd hw hb;go_wp2;refine zA1 fun W8 hW=>?_;subst hW;clear F_abcd;have g_abcd:=J4 Ba.cells Bb.cells Bc.cells Bd.cells;refine rgn 16 (fun w9 hb=>?_);clear g_abcd;obtain ⟨Ba,Bb,Bc,Bd,hw,-⟩:=qX4 Ba Bb Bc Bd hw hb;go_wp2;all_goals go_ret
 all_goals exact ⟨rfl,hw⟩
theorem zHm (a b c d:Pt) (w:World):Calls prog 145 #[a,b,c,d] w (Rt w (.int .i64 (meetR a b c d))):=by
 cases ha:vld a with
 | false=>rw [show meetR a b c d=0 by unfold meetR;rw [jAc ha]];exact rmeet_v0 a b c d ha w
 | true=>
 have n_ha:¬ vld a=false:=by rw [ha];simp
 cases hb:vld b with
 | false=>rw [show meetR a b c d=0 by unfold meetR;rw [jA0 n_ha,jAc hb]];exact rmeet_v1 a b c d ha hb w
 | true=>
 have n_hb:¬ vld b=false:=by rw [hb];simp
 cases hc:vld c with
 | false=>rw [show meetR a b c d=0 by unfold meetR;rw [jA0 n_ha,jA0 n_hb,jAc hc]];exact rmeet_v2 a b c d ha hb hc w
 | true=>
 have n_hc:¬ vld c=false:=by rw [hc];simp
 cases hd:vld d with
 | false=>rw [show meetR a b c d=0 by unfold meetR;rw [jA0 n_ha,jA0 n_hb,jA0 n_hc,jAc hd]];exact rmeet_v3 a b c d ha hb hc hd w
 | true=>
 have n_hd:¬ vld d=false:=by rw [hd];simp
 cases e1:peqI a.x a.y b.x b.y with
 | true=>rw [show meetR a b c d=0 by unfold meetR;rw [jA0 n_ha,jA0 n_hb,jA0 n_hc,jA0 n_hd,jAc e1]];exact rmeet_e1 a b c d ha hb hc hd e1 w
 | false=>
 have n_e1:¬ peqI a.x a.y b.x b.y=true:=by rw [e1];simp
 cases e2:peqI c.x c.y d.x d.y with
 | true=>rw [show meetR a b c d=0 by unfold meetR;rw [jA0 n_ha,jA0 n_hb,jA0 n_hc,jA0 n_hd,jA0 n_e1,jAc e2]];exact rmeet_e2 a b c d ha hb hc hd e1 e2 w
 | false=>
 have n_e2:¬ peqI c.x c.y d.x d.y=true:=by rw [e2];simp
 by_cases z1:ori a b c=0
 ·by_cases z2:ori a b d=0
  ·rw [show meetR a b c d=lap a b c d by unfold meetR;rw [jA0 n_ha,jA0 n_hb,jA0 n_hc,jA0 n_hd,jA0 n_e1,jA0 n_e2,jAc ⟨z1,z2⟩]];by_cases hk:cmpP (rg (rl a b) (rl c d)) (rl (rg a b) (rg c d)) < 0
   ·rw [show lap a b c d=3 by unfold lap;rw [jAc hk]];exact rmeet_l1 a b c d ha hb hc hd e1 e2 z1 z2 (by simpa using hk) w
   ·rw [show lap a b c d=0 by unfold lap;rw [jA0 hk]];exact rmeet_l0 a b c d ha hb hc hd e1 e2 z1 z2 (by simpa using hk) w
  ·rw [show meetR a b c d=mx4 (tch a c d) (tch b c d) (tch c a b) (tch d a b) by unfold meetR;rw [jA0 n_ha,jA0 n_hb,jA0 n_hc,jA0 n_hd,jA0 n_e1,jA0 n_e2,jA0 (fun h=>z2 h.2),jA0 (fun h=>by have:=h.1;rw [z1] at this;simp at this)]];exact rmeet_t3 a b c d ha hb hc hd e1 e2 z1 z2 w
 ·by_cases x1:ori a b c * ori a b d < 0
  ·by_cases x2:ori c d a * ori c d b < 0
   ·rw [show meetR a b c d=1 by unfold meetR;rw [jA0 n_ha,jA0 n_hb,jA0 n_hc,jA0 n_hd,jA0 n_e1,jA0 n_e2,jA0 (fun h=>z1 h.1),jAc ⟨x1,x2⟩]];exact rmeet_x a b c d ha hb hc hd e1 e2 z1 x1 x2 w
   ·rw [show meetR a b c d=mx4 (tch a c d) (tch b c d) (tch c a b) (tch d a b) by unfold meetR;rw [jA0 n_ha,jA0 n_hb,jA0 n_hc,jA0 n_hd,jA0 n_e1,jA0 n_e2,jA0 (fun h=>z1 h.1),jA0 (fun h=>x2 h.2)]];exact rmeet_t2 a b c d ha hb hc hd e1 e2 z1 x1 x2 w
  ·rw [show meetR a b c d=mx4 (tch a c d) (tch b c d) (tch c a b) (tch d a b) by unfold meetR;rw [jA0 n_ha,jA0 n_hb,jA0 n_hc,jA0 n_hd,jA0 n_e1,jA0 n_e2,jA0 (fun h=>z1 h.1),jA0 (fun h=>x1 h.1)]];exact rmeet_t1 a b c d ha hb hc hd e1 e2 z1 x1 w
end
section
open Go.RowKit
def kk (a b p:Pt):Int:=(p.x - a.x) * (b.x - a.x)+(p.y - a.y) * (b.y - a.y)
def EE (a b:Pt):Int:=(b.x - a.x) * (b.x - a.x)+(b.y - a.y) * (b.y - a.y)
theorem zK0 {a b:Pt} (h:a≠b):0 < EE a b:=by
 have h1:=zD7 (b.x - a.x);have h2:=zD7 (b.y - a.y);have h3:EE a b≠0:=fun h0=>by
  unfold EE at h0;have g1:(b.x - a.x) * (b.x - a.x)=0:=by omega
  have g2:(b.y - a.y) * (b.y - a.y)=0:=by omega
  apply h;rw [Pt.eq_iff];have k1:b.x - a.x=0:=by rcases jA7.1 g1 with k | k <;> exact k
  have k2:b.y - a.y=0:=by rcases jA7.1 g2 with k | k <;> exact k
  omega
 have:0≤EE a b:=by unfold EE;omega
 omega
theorem coll {a b p:Pt} (h:det a b p=0):EE a b * (p.x - a.x)=kk a b p * (b.x - a.x)∧EE a b * (p.y - a.y)=kk a b p * (b.y - a.y):=by
 have e1:EE a b * (p.x - a.x)=kk a b p * (b.x - a.x) - (b.y - a.y) * det a b p:=by unfold EE kk det;grind
 have e2:EE a b * (p.y - a.y)=kk a b p * (b.y - a.y)+(b.x - a.x) * det a b p:=by unfold EE kk det;grind
 rw [h] at e1 e2;simp only [jAy,jCi,jD1] at e1 e2;exact ⟨e1,e2⟩
theorem coll2 {a b p:Pt} (h:det a b p=0):EE a b * (p.x - b.x)=(kk a b p - EE a b) * (b.x - a.x)∧EE a b * (p.y - b.y)=(kk a b p - EE a b) * (b.y - a.y):=by
 obtain ⟨h1,h2⟩:=coll h;generalize EE a b=E at *
 generalize kk a b p=k at *
 exact ⟨by grind,by grind⟩
def lexs (u v:Int):Int:=if u=0 then sgn v else sgn u
theorem zEs (p q:Pt):cmpP p q=lexs (p.x - q.x) (p.y - q.y):=by
 unfold cmpP lexs cmpN;by_cases h:p.x=q.x
 ·rw [jAc h,jAc (by omega)]
 ·rw [jA0 h,jA0 (by omega)]
theorem zFm {E x y z:Int} (hE:0 < E) (h:E * x=y * z):sgn x=sgn y * sgn z:=by
 have h1:=zNw E x;rw [sgn_p hE,h,zNw] at h1;omega
theorem zIu {E k u1 v1 u2 v2:Int} (hE:0 < E) (h1:E * u1=k * u2) (h2:E * v1=k * v2):lexs u1 v1=sgn k * lexs u2 v2:=by
 have s1:=zFm hE h1;have s2:=zFm hE h2;unfold lexs;by_cases hu:u1=0
 ·rw [jAc hu,s2];by_cases hu2:u2=0
  ·rw [jAc hu2]
  ·rw [jA0 hu2];rw [hu] at h1;have:k=0:=by
    rcases jA7.1 (show k * u2=0 by rw [←h1];simp) with h | h
    ·exact h
    ·exact absurd h hu2
   rw [this];simp [sgn]
 ·rw [jA0 hu,s1];have hu2:u2≠0:=fun h=>by
   rw [h] at h1;simp only [jAy] at h1;rcases jA7.1 h1 with h | h
   ·omega
   ·exact hu h
  rw [jA0 hu2]
theorem lexs_ne {u v:Int} (h:¬ (u=0∧v=0)):lexs u v=1∨lexs u v = -1:=by
 unfold lexs;have h1:=zA8 u;have h2:=zA8 v;split <;> omega
theorem one_sq {x:Int} (h:x=1∨x = -1) (a b:Int) : -(a * x) * (b * x) = -(a * b):=by
 rcases h with rfl | rfl <;> grind
theorem on_k {a b p:Pt} (hab:a≠b) (h:det a b p=0):(0≤cmpP a p * cmpP p b)↔(0≤kk a b p∧kk a b p≤EE a b):=by
 have hE:=zK0 hab;obtain ⟨c1,c2⟩:=coll h;obtain ⟨c3,c4⟩:=coll2 h;have l1:=zIu hE c1 c2;have l2:=zIu hE c3 c4;have l3:cmpP a p = -cmpP p a:=by unfold cmpP cmpN sgn;(repeat' split) <;> omega
 rw [←zEs,←zEs] at l1;rw [←zEs,←zEs] at l2;have l4:cmpP b a=1∨cmpP b a = -1:=by
  rw [zEs];refine lexs_ne (fun k=>hab ?_);rw [Pt.eq_iff];omega
 rw [l3,l1,l2,one_sq l4];have h1:=zA8 (kk a b p);have h2:=zA8 (kk a b p - EE a b);rcases h1 with ⟨s1,t1⟩ | ⟨s1,t1⟩ | ⟨s1,t1⟩ <;> rcases h2 with ⟨s2,t2⟩ | ⟨s2,t2⟩ | ⟨s2,t2⟩ <;> rw [s1,s2] <;> omega
theorem btw_t {n a b:Int} (h:btw n a b=true):0≤(n - a) * (b - a)∧(n - a) * (b - a)≤(b - a) * (b - a):=by
 simp only [btw,jA4] at h;rcases jDp a b with k | k
 ·exact ⟨jA2 (by omega) (by omega),jBc (by omega) (by omega)⟩
 ·exact ⟨jBr (by omega) (by omega),jEm (by omega) (by omega)⟩
theorem zNt {E k n a b:Int} (hE:0 < E) (k0:0≤k) (k1:k≤E) (h:E * (n - a)=k * (b - a)):btw n a b=true:=by
 simp only [btw,jA4];rcases jDp a b with c | c
 ·have h1:E * 0≤E * (n - a):=by rw [h,jAy];exact jA2 k0 (by omega)
  have h2:E * (n - a)≤E * (b - a):=by rw [h];exact jBc k1 (by omega)
  have g1:=jBv h1 hE;have g2:=jBv h2 hE;omega
 ·have h1:E * (n - a)≤E * 0:=by rw [h,jAy];exact jC1 k0 (by omega)
  have h2:E * (b - a)≤E * (n - a):=by rw [h];exact jEm k1 (by omega)
  have g1:=jBv h1 hE;have g2:=jBv h2 hE;omega
theorem btw_k {a b p:Pt} (hab:a≠b) (h:det a b p=0):(btw p.x a.x b.x && btw p.y a.y b.y)=true↔(0≤kk a b p∧kk a b p≤EE a b):=by
 have hE:=zK0 hab;obtain ⟨c1,c2⟩:=coll h;rw [jA3];constructor
 ·rintro ⟨h1,h2⟩;have t1:=btw_t h1;have t2:=btw_t h2;unfold kk EE;omega
 ·rintro ⟨h1,h2⟩;exact ⟨zNt hE h1 h2 c1,zNt hE h1 h2 c2⟩
theorem on_eq (p a b:Pt):onS p a b=onR p a b:=by
 unfold onS onR;cases hp:vld p with
 | false=>rfl
 | true=>cases ha:vld a with
  | false=>rfl
  | true=>cases hb:vld b with
   | false=>rfl
   | true=>
    simp only [jCp];have ho:decide (ori a b p=0)=decide (det a b p=0):=by
     rw [ori_v ha hb hp,decide_eq_decide];exact zBk
    rw [ho];by_cases hd:det a b p=0
    ·rw [show decide (det a b p=0)=true by simpa using hd];simp only [jCp];by_cases hab:a=b
     ·subst hab;rw [jCs,jA4,jA3];simp only [btw,jA4];have l3:cmpP a p = -cmpP p a:=by unfold cmpP cmpN sgn;(repeat' split) <;> omega
      have l4:cmpP p a=0↔p.x=a.x∧p.y=a.y:=by unfold cmpP cmpN sgn;(repeat' split) <;> omega
      have l5:=cmpP_bd p a;rw [l3];have l6:cmpP p a=0∨cmpP p a=1∨cmpP p a = -1:=by omega
      rcases l6 with l | l | l <;> rw [l] at l4 ⊢ <;> omega
     ·rw [jCs,jA4,btw_k hab hd];exact on_k hab hd
    ·rw [show decide (det a b p=0)=false by simpa using hd];rfl
theorem tch_k {p a b:Pt} (hp:vld p=true) (ha:vld a=true) (hb:vld b=true) (hab:a≠b):tch p a b=if det a b p=0∧0 < kk a b p∧kk a b p < EE a b then 2 else 0:=by
 have hE:=zK0 hab;unfold tch onR;rw [hp,ha,hb];simp only [jCp];by_cases hd:det a b p=0
 ·rw [show decide (det a b p=0)=true by simpa using hd];simp only [jCp];obtain ⟨c1,c2⟩:=coll hd;obtain ⟨c3,c4⟩:=coll2 hd;have z1:p=a↔kk a b p=0:=by
   constructor
   ·rintro rfl;unfold kk;simp
   ·intro h;rw [h] at c1 c2;simp only [jB1] at c1 c2;rw [Pt.eq_iff];rcases jA7.1 c1 with h1 | h1 <;> rcases jA7.1 c2 with h2 | h2 <;> omega
  have z2:p=b↔kk a b p - EE a b=0:=by
   constructor
   ·rintro rfl;unfold kk EE;omega
   ·intro h;rw [h] at c3 c4;simp only [jB1] at c3 c4;rw [Pt.eq_iff];rcases jA7.1 c3 with h1 | h1 <;> rcases jA7.1 c4 with h2 | h2 <;> omega
  by_cases hk:0≤kk a b p∧kk a b p≤EE a b
  ·rw [(btw_k hab hd).2 hk,jA0 (by simp)];by_cases h1:p=a
   ·have:=z1.1 h1;rw [jAc (pp h1),jA0 (by omega)]
   ·rw [jA0 (np h1)];by_cases h2:p=b
    ·have:=z2.1 h2;rw [jAc (pp h2),jA0 (by omega)]
    ·have k1:kk a b p≠0:=fun k=>h1 (z1.2 k);have k2:kk a b p - EE a b≠0:=fun k=>h2 (z2.2 k);rw [jA0 (np h2),jAc (by omega)]
  ·have:(btw p.x a.x b.x && btw p.y a.y b.y)=false:=by rw [←jBl,btw_k hab hd];exact hk
   rw [jAc this,jA0 (by omega)]
 ·rw [show decide (det a b p=0)=false by simpa using hd,jAc (by simp),jA0 (fun k=>hd k.1)]
theorem I1 (a b c d:Pt):EE a b * det c d a=kk a b c * det a b d - det a b c * kk a b d:=by unfold EE kk det;grind
theorem I2 (a b c d:Pt):EE a b * det c d b=(kk a b c - EE a b) * det a b d - det a b c * (kk a b d - EE a b):=by unfold EE kk det;grind
end
section
open Go.RowKit
structure Seg2 (a b c d:Pt):Prop where
 va:vld a=true
 vb:vld b=true
 vc:vld c=true
 vd:vld d=true
 nab:a≠b
 ncd:c≠d
theorem zBg {a b c d:Pt} (h:¬ Seg2 a b c d):meetS a b c d=0:=by
 unfold meetS;cases va:vld a with
 | false=>rfl
 | true=>cases vb:vld b with
  | false=>rfl
  | true=>cases vc:vld c with
   | false=>rfl
   | true=>cases vd:vld d with
    | false=>rfl
    | true=>
     by_cases e1:a=b
     ·rw [jA0 (by simp),jA0 (by simp),jA0 (by simp),jA0 (by simp),jAc (pp e1)]
     ·by_cases e2:c=d
      ·rw [jA0 (by simp),jA0 (by simp),jA0 (by simp),jA0 (by simp),jA0 (np e1),jAc (pp e2)]
      ·exact absurd ⟨va,vb,vc,vd,e1,e2⟩ h
theorem meetR_none {a b c d:Pt} (h:¬ Seg2 a b c d):meetR a b c d=0:=by
 unfold meetR;cases va:vld a with
 | false=>rfl
 | true=>cases vb:vld b with
  | false=>rfl
  | true=>cases vc:vld c with
   | false=>rfl
   | true=>cases vd:vld d with
    | false=>rfl
    | true=>
     by_cases e1:a=b
     ·rw [jA0 (by simp),jA0 (by simp),jA0 (by simp),jA0 (by simp),jAc (pp e1)]
     ·by_cases e2:c=d
      ·rw [jA0 (by simp),jA0 (by simp),jA0 (by simp),jA0 (by simp),jA0 (np e1),jAc (pp e2)]
      ·exact absurd ⟨va,vb,vc,vd,e1,e2⟩ h
section
variable {a b c d:Pt} (s:Seg2 a b c d)
include s
theorem zBa (h:det a b c=0∧det a b d=0):meetS a b c d=mil a b c d:=by
 unfold meetS;rw [jA0 (by rw [s.va];simp),jA0 (by rw [s.vb];simp),jA0 (by rw [s.vc];simp),jA0 (by rw [s.vd];simp),jA0 (np s.nab),jA0 (np s.ncd),
  jAc ⟨by rw [ori_v s.va s.vb s.vc,h.1];rfl,by rw [ori_v s.va s.vb s.vd,h.2];rfl⟩]
theorem zJl (h:¬ (det a b c=0∧det a b d=0)):¬ (ori a b c=0∧ori a b d=0):=fun k=>h ⟨by rw [←zBk,←ori_v s.va s.vb s.vc];exact k.1,by rw [←zBk,←ori_v s.va s.vb s.vd];exact k.2⟩
theorem zC4 (h:¬ (det a b c=0∧det a b d=0)) (e:a=c∨a=d∨b=c∨b=d):meetS a b c d=0:=by
 unfold meetS;rw [jA0 (by rw [s.va];simp),jA0 (by rw [s.vb];simp),jA0 (by rw [s.vc];simp),jA0 (by rw [s.vd];simp),jA0 (np s.nab),jA0 (np s.ncd),jA0 (zJl s h)];by_cases e1:a=c
 ·rw [jAc (pp e1)]
 rw [jA0 (np e1)];by_cases e2:a=d
 ·rw [jAc (pp e2)]
 rw [jA0 (np e2)];by_cases e3:b=c
 ·rw [jAc (pp e3)]
 rw [jA0 (np e3)];by_cases e4:b=d
 ·rw [jAc (pp e4)]
 rcases e with e | e | e | e
 ·exact absurd e e1
 ·exact absurd e e2
 ·exact absurd e e3
 ·exact absurd e e4
theorem zC3 (h:¬ (det a b c=0∧det a b d=0)) (e:¬ (a=c∨a=d∨b=c∨b=d)):meetS a b c d=fin (sgn (det c d a)) (sgn (det c d b)) (sgn (det a b c)) (sgn (det a b d)):=by
 unfold meetS;rw [jA0 (by rw [s.va];simp),jA0 (by rw [s.vb];simp),jA0 (by rw [s.vc];simp),jA0 (by rw [s.vd];simp),jA0 (np s.nab),jA0 (np s.ncd),jA0 (zJl s h),
  jA0 (np (fun k=>e (.inl k))),jA0 (np (fun k=>e (.inr (.inl k)))),jA0 (np (fun k=>e (.inr (.inr (.inl k))))),jA0 (np (fun k=>e (.inr (.inr (.inr k))))),
  ori_v s.va s.vb s.vc,ori_v s.va s.vb s.vd,ori_v s.vc s.vd s.va,ori_v s.vc s.vd s.vb]
theorem meetR_line (h:det a b c=0∧det a b d=0):meetR a b c d=lap a b c d:=by
 unfold meetR;rw [jA0 (by rw [s.va];simp),jA0 (by rw [s.vb];simp),jA0 (by rw [s.vc];simp),jA0 (by rw [s.vd];simp),jA0 (np s.nab),jA0 (np s.ncd),
  jAc ⟨by rw [ori_v s.va s.vb s.vc,h.1];rfl,by rw [ori_v s.va s.vb s.vd,h.2];rfl⟩]
theorem zEi (h:¬ (det a b c=0∧det a b d=0)):meetR a b c d=if sgn (det a b c) * sgn (det a b d) < 0∧sgn (det c d a) * sgn (det c d b) < 0 then 1 else mx4 (tch a c d) (tch b c d) (tch c a b) (tch d a b):=by
 unfold meetR;rw [jA0 (by rw [s.va];simp),jA0 (by rw [s.vb];simp),jA0 (by rw [s.vc];simp),jA0 (by rw [s.vd];simp),jA0 (np s.nab),jA0 (np s.ncd),jA0 (zJl s h),
  ori_v s.va s.vb s.vc,ori_v s.va s.vb s.vd,ori_v s.vc s.vd s.va,ori_v s.vc s.vd s.vb]
theorem key_n:key a≠key b:=fun h=>s.nab (zBo s.va s.vb h)
theorem key_n2:key c≠key d:=fun h=>s.ncd (zBo s.vc s.vd h)
end
theorem zO4 {p q:Pt} (hp:vld p=true) (hq:vld q=true):vld (lo2 p q)=true∧key (lo2 p q)=min (key p) (key q):=by
 unfold lo2;rw [zCd hq hp];have:=zA8 (key q - key p);split
 ·exact ⟨hq,by omega⟩
 ·exact ⟨hp,by omega⟩
theorem zOa {p q:Pt} (hp:vld p=true) (hq:vld q=true):vld (hi2 p q)=true∧key (hi2 p q)=max (key p) (key q):=by
 unfold hi2;rw [zCd hq hp];have:=zA8 (key q - key p);split
 ·exact ⟨hp,by omega⟩
 ·exact ⟨hq,by omega⟩
theorem zOs {p q:Pt} (hp:vld p=true) (hq:vld q=true):vld (rl p q)=true∧key (rl p q)=min (key p) (key q):=by
 unfold rl;rw [zCd hp hq];have:=zA8 (key p - key q);split
 ·exact ⟨hp,by omega⟩
 ·exact ⟨hq,by omega⟩
theorem zOt {p q:Pt} (hp:vld p=true) (hq:vld q=true):vld (rg p q)=true∧key (rg p q)=max (key p) (key q):=by
 unfold rg;rw [zCd hp hq];have:=zA8 (key p - key q);split
 ·exact ⟨hq,by omega⟩
 ·exact ⟨hp,by omega⟩
theorem zF8 {p q:Pt} (hp:vld p=true) (hq:vld q=true):cmpP p q < 0↔key p < key q:=by
 rw [zCd hp hq];have:=zA8 (key p - key q);omega
theorem zD4 {a b c d:Pt} (s:Seg2 a b c d):mil a b c d=if min (key a) (key b) < max (key c) (key d)∧min (key c) (key d) < max (key a) (key b) then 3 else 0:=by
 obtain ⟨u1,u2⟩:=zO4 s.va s.vb;obtain ⟨u3,u4⟩:=zOa s.va s.vb;obtain ⟨u5,u6⟩:=zO4 s.vc s.vd;obtain ⟨u7,u8⟩:=zOa s.vc s.vd;unfold mil;simp only [zF8 u1 u7,zF8 u5 u3,u2,u4,u6,u8]
 (repeat' split) <;> omega
theorem lap_key {a b c d:Pt} (s:Seg2 a b c d):lap a b c d=if min (key a) (key b) < max (key c) (key d)∧min (key c) (key d) < max (key a) (key b) then 3 else 0:=by
 obtain ⟨u1,u2⟩:=zOs s.va s.vb;obtain ⟨u3,u4⟩:=zOt s.va s.vb;obtain ⟨u5,u6⟩:=zOs s.vc s.vd;obtain ⟨u7,u8⟩:=zOt s.vc s.vd;obtain ⟨t1,t2⟩:=zOt u1 u5;obtain ⟨t3,t4⟩:=zOs u3 u7;have n1:=key_n s;have n2:=key_n2 s;unfold lap;simp only [zF8 t1 t3,t2,t4,u2,u4,u6,u8]
 (repeat' split) <;> omega
theorem fin_0 {sA sB sC sD:Int} (h:sA=sB∨sC=sD):fin sA sB sC sD=0:=by unfold fin;(repeat' split) <;> omega
theorem fin_2 {sA sB sC sD:Int} (h1:sA≠sB) (h2:sC≠sD) (h:sA=0∨sB=0∨sC=0∨sD=0):fin sA sB sC sD=2:=by unfold fin;(repeat' split) <;> omega
theorem zLx {E A B kc D:Int} (hE:0 < E) (hD:D≠0) (h1:E * A=kc * D) (h2:E * B=(kc - E) * D):(kc=0∧A=0∧B≠0)∨(kc=E∧B=0∧A≠0)∨((kc < 0∨E < kc)∧A≠0∧B≠0∧sgn A=sgn B)∨(0 < kc∧kc < E∧A≠0∧B≠0∧sgn A≠sgn B):=by
 have s1:=zFm hE h1;have s2:=zFm hE h2;have c1:=zA8 kc;have c2:=zA8 (kc - E);have c3:=zA8 D;have c4:=zA8 A;have c5:=zA8 B;rcases c1 with ⟨e1,t1⟩ | ⟨e1,t1⟩ | ⟨e1,t1⟩ <;> rcases c2 with ⟨e2,t2⟩ | ⟨e2,t2⟩ | ⟨e2,t2⟩ <;> rw [e1] at s1 <;> rw [e2] at s2 <;> omega
theorem s0:sgn 0=0:=rfl
theorem zKt (a b:Pt):kk a b a=0:=by unfold kk;simp
theorem zNp (a b:Pt):kk a b b=EE a b:=rfl
theorem det_1 (a b:Pt):det a b a=0:=by unfold det;grind
theorem det_2 (a b:Pt):det a b b=0:=by unfold det;grind
theorem zH9 (a b c d:Pt):meetS a b c d=meetR a b c d:=by
 by_cases s:Seg2 a b c d
 case neg=>rw [zBg s,meetR_none s]
 case pos=>
 by_cases hl:det a b c=0∧det a b d=0
 ·rw [zBa s hl,meetR_line s hl,zD4 s,lap_key s]
 rw [zEi s hl,tch_k s.va s.vc s.vd s.ncd,tch_k s.vb s.vc s.vd s.ncd,tch_k s.vc s.va s.vb s.nab,tch_k s.vd s.va s.vb s.nab];have hE:=zK0 s.nab;have hF:=zK0 s.ncd;have i1:=I1 a b c d;have i2:=I2 a b c d;have i3:=I1 c d a b;have i4:=I2 c d a b
 -- ends in common
 have e1:a=c→det c d a=0∧det a b c=0∧kk c d a=0∧kk a b c=0:=by rintro rfl;exact ⟨det_1 _ _,det_1 _ _,zKt _ _,zKt _ _⟩
 have e2:a=d→det c d a=0∧det a b d=0∧kk c d a=EE c d∧kk a b d=0:=by rintro rfl;exact ⟨det_2 _ _,det_1 _ _,zNp _ _,zKt _ _⟩
 have e3:b=c→det c d b=0∧det a b c=0∧kk c d b=0∧kk a b c=EE a b:=by rintro rfl;exact ⟨det_1 _ _,det_2 _ _,zKt _ _,zNp _ _⟩
 have e4:b=d→det c d b=0∧det a b d=0∧kk c d b=EE c d∧kk a b d=EE a b:=by rintro rfl;exact ⟨det_2 _ _,det_2 _ _,zNp _ _,zNp _ _⟩
 have f1:det a b c=0→kk a b c=0→a=c:=fun h k=>by
  obtain ⟨c1,c2⟩:=coll h;rw [k] at c1 c2;simp only [jB1] at c1 c2;rw [Pt.eq_iff];rcases jA7.1 c1 with h1 | h1 <;> rcases jA7.1 c2 with h2 | h2 <;> omega
 have f2:det a b d=0→kk a b d=0→a=d:=fun h k=>by
  obtain ⟨c1,c2⟩:=coll h;rw [k] at c1 c2;simp only [jB1] at c1 c2;rw [Pt.eq_iff];rcases jA7.1 c1 with h1 | h1 <;> rcases jA7.1 c2 with h2 | h2 <;> omega
 have f3:det a b c=0→kk a b c=EE a b→b=c:=fun h k=>by
  obtain ⟨c1,c2⟩:=coll2 h;rw [k] at c1 c2;simp only [jDg,jB1] at c1 c2;rw [Pt.eq_iff];rcases jA7.1 c1 with h1 | h1 <;> rcases jA7.1 c2 with h2 | h2 <;> omega
 have f4:det a b d=0→kk a b d=EE a b→b=d:=fun h k=>by
  obtain ⟨c1,c2⟩:=coll2 h;rw [k] at c1 c2;simp only [jDg,jB1] at c1 c2;rw [Pt.eq_iff];rcases jA7.1 c1 with h1 | h1 <;> rcases jA7.1 c2 with h2 | h2 <;> omega
 by_cases hs:a=c∨a=d∨b=c∨b=d
 ·rw [zC4 s hl hs];clear f1 f2 f3 f4;generalize det a b c=C at *
  generalize det a b d=D at *
  generalize det c d a=A at *
  generalize det c d b=B at *
  generalize kk a b c=kc at *
  generalize kk a b d=kd at *
  generalize kk c d a=la at *
  generalize kk c d b=lb at *
  generalize EE a b=E at *
  generalize EE c d=F at *
  rcases hs with h | h | h | h
  ·obtain ⟨g1,g2,g3,g4⟩:=e1 h;subst g1 g2 g3 g4;have hD:D≠0:=fun k=>hl ⟨rfl,k⟩;have hB:B≠0:=by rcases zLx (A:=0) (B:=B) (kc:=0) hE hD (by simp) (by simpa using i2) with x | x | x | x <;> omega
   simp [sgn,mx4,hD,hB]
  ·obtain ⟨g1,g2,g3,g4⟩:=e2 h;subst g1 g2 g3 g4;have hC:C≠0:=fun k=>hl ⟨k,rfl⟩;have hB:B≠0:=by
    rintro rfl;simp only [jAy,jDh] at i2;have:=jA7.1 (show C * -E=0 by omega);omega
   simp [sgn,mx4,hC,hB]
  ·obtain ⟨g1,g2,g3,g4⟩:=e3 h;subst g1 g2 g3 g4;have hD:D≠0:=fun k=>hl ⟨rfl,k⟩;have hA:A≠0:=by
    rintro rfl;simp only [jAy,jB1,jCi] at i1;have:=jA7.1 i1.symm;omega
   simp [sgn,mx4,hD,hA]
  ·obtain ⟨g1,g2,g3,g4⟩:=e4 h;subst g1 g2 g3 g4;have hC:C≠0:=fun k=>hl ⟨k,rfl⟩;have hA:A≠0:=by
    rintro rfl;simp only [jAy,jDh] at i1;have:=jA7.1 (show C * kd=0 by omega);omega
   simp [sgn,mx4,hC,hA]
 ·rw [zC3 s hl hs];have n1:¬ a=c:=fun h=>hs (.inl h);have n2:¬ a=d:=fun h=>hs (.inr (.inl h));have n3:¬ b=c:=fun h=>hs (.inr (.inr (.inl h)));have n4:¬ b=d:=fun h=>hs (.inr (.inr (.inr h)));clear e1 e2 e3 e4 hs;generalize det a b c=C at *
  generalize det a b d=D at *
  generalize det c d a=A at *
  generalize det c d b=B at *
  generalize kk a b c=kc at *
  generalize kk a b d=kd at *
  generalize kk c d a=la at *
  generalize kk c d b=lb at *
  generalize EE a b=E at *
  generalize EE c d=F at *
  by_cases hC:C=0
  ·subst hC;have hD:D≠0:=fun k=>hl ⟨rfl,k⟩;have k1:kc≠0:=fun k=>n1 (f1 rfl k);have k2:kc≠E:=fun k=>n3 (f3 rfl k);rcases zLx (A:=A) (B:=B) hE hD (by simpa using i1) (by simpa using i2) with x | x | ⟨x1,x2,x3,x4⟩ | ⟨x1,x2,x3,x4,x5⟩
   ·omega
   ·omega
   ·rw [s0,fin_0 (.inl x4),jA0 (by simp),jA0 (by omega),jA0 (by omega),jA0 (by omega),jA0 (by omega)];rfl
   ·rw [s0,fin_2 x5 (by have:=zA8 D;omega) (.inr (.inr (.inl rfl))),jA0 (by simp),jA0 (by omega),jA0 (by omega),jAc (by omega),jA0 (by omega)];rfl
  ·by_cases hD:D=0
   ·subst hD;have k1:kd≠0:=fun k=>n2 (f2 rfl k);have k2:kd≠E:=fun k=>n4 (f4 rfl k);rcases zLx (A := -A) (B := -B) (kc:=kd) hE hC (by simp only [jAy,jDh] at i1;rw [jCj,i1,jD2 C];simp) (by simp only [jAy,jDh] at i2;rw [jCj,i2,jD2 C];simp) with x | x | ⟨x1,x2,x3,x4⟩ | ⟨x1,x2,x3,x4,x5⟩
    ·omega
    ·omega
    ·rw [zC8,zC8] at x4;rw [s0,fin_0 (.inl (by omega)),jA0 (by simp),jA0 (by omega),jA0 (by omega),jA0 (by omega),jA0 (by omega)];rfl
    ·rw [zC8,zC8] at x5;rw [s0,fin_2 (by omega) (by have:=zA8 C;omega) (.inr (.inr (.inr rfl))),jA0 (by simp),jA0 (by omega),jA0 (by omega),jA0 (by omega),jAc (by omega)];rfl
   ·by_cases hA:A=0
    ·subst hA;have hB:B≠0:=by
      rintro rfl;simp only [jAy,jB1,jCi] at i3;rcases jA7.1 i3 with h | h <;> omega
     rcases zLx (A:=C) (B:=D) (kc:=la) hF hB (by simpa using i3) (by simpa using i4) with x | x | ⟨x1,x2,x3,x4⟩ | ⟨x1,x2,x3,x4,x5⟩
     ·omega
     ·omega
     ·rw [s0,fin_0 (.inr x4),jA0 (by simp),jA0 (by omega),jA0 (by omega),jA0 (by omega),jA0 (by omega)];rfl
     ·rw [s0,fin_2 (by have:=zA8 B;omega) x5 (.inl rfl),jA0 (by simp),jAc (by omega),jA0 (by omega),jA0 (by omega),jA0 (by omega)];rfl
    ·by_cases hB:B=0
     ·subst hB;rcases zLx (A := -C) (B := -D) (kc:=lb) hF hA (by simp only [jAy,jDh] at i3;rw [jCj,i3,jD2 A];simp) (by simp only [jAy,jDh] at i4;rw [jCj,i4,jD2 A];simp) with x | x | ⟨x1,x2,x3,x4⟩ | ⟨x1,x2,x3,x4,x5⟩
      ·omega
      ·omega
      ·rw [zC8,zC8] at x4;rw [s0,fin_0 (.inr (by omega)),jA0 (by simp),jA0 (by omega),jA0 (by omega),jA0 (by omega),jA0 (by omega)];rfl
      ·rw [zC8,zC8] at x5;rw [s0,fin_2 (by have:=zA8 A;omega) (by omega) (.inr (.inl rfl)),jA0 (by simp),jA0 (by omega),jAc (by omega),jA0 (by omega),jA0 (by omega)];rfl
     ·have c1:=zA8 A;have c2:=zA8 B;have c3:=zA8 C;have c4:=zA8 D;simp only [hA,hB,hC,hD,false_and,jDf];have m0:mx4 0 0 0 0=0:=rfl;rw [m0];generalize sgn A=sA at *
      generalize sgn B=sB at *
      generalize sgn C=sC at *
      generalize sgn D=sD at *
      have d1:sA=1∨sA = -1:=by omega
      have d2:sB=1∨sB = -1:=by omega
      have d3:sC=1∨sC = -1:=by omega
      have d4:sD=1∨sD = -1:=by omega
      clear c1 c2 c3 c4;rcases d1 with rfl | rfl <;> rcases d2 with rfl | rfl <;> rcases d3 with rfl | rfl <;> rcases d4 with rfl | rfl <;> rfl
end
section
open Go.RowKit Go.Sort
attribute [local go_sem] rOper rAt rUpon cell_set sg_i64 sg_u64 alloc_cell alloc_frozen
attribute [local go_sem 10000] pt_eql pt_neq
attribute [local irreducible] rWalk
structure Tri3 where
 A:Pt
 B:Pt
 C:Pt
instance:Coe Tri3 Value:=⟨fun T=>.agg #[.int .i64 T.A.x,.int .i64 T.A.y,.int .i64 T.B.x,.int .i64 T.B.y,.int .i64 T.C.x,.int .i64 T.C.y]⟩
def mkT (x y z:Pt):Tri3:=if cmpP y x < 0∨cmpP z x < 0 then (if cmpP z y < 0∨cmpP x y < 0 then ⟨z,x,y⟩ else ⟨y,z,x⟩) else ⟨x,y,z⟩
def mk (a b c:Pt):Tri3:=if ori a b c=0 then ⟨⟨0,0⟩,⟨0,0⟩,⟨0,0⟩⟩ else if ori a b c=1 then mkT a b c else mkT a c b
theorem zEf {x y z:Pt} (hx:vld x=true) (hy:vld y=true) (hz:vld z=true) (n1:key x≠key y) (n2:key x≠key z) (n3:key y≠key z):(key x < key y∧key x < key z∧mkT x y z=⟨x,y,z⟩)∨(key y < key x∧key y < key z∧mkT x y z=⟨y,z,x⟩)∨(key z < key x∧key z < key y∧mkT x y z=⟨z,x,y⟩):=by
 unfold mkT;simp only [zF8 hy hx,zF8 hz hx,zF8 hz hy,zF8 hx hy]
 (repeat' split) <;> simp <;> omega
theorem dlt {p q:Pt} (hp:vld p=true) (hq:vld q=true) (h:key p < key q):decide (cmpP p q < 0)=true:=by simpa using (zF8 hp hq).2 h
theorem dge {p q:Pt} (hp:vld p=true) (hq:vld q=true) (h:key q≤key p):decide (cmpP p q < 0)=false:=by
 have:=zF8 hp hq;simp;omega
theorem zB4 (a b c:Pt) (w:World):Calls prog 30 #[a,b,c] w (Rt w (.tuple #[.agg #[.int .i64 (mk a b c).A.x,.int .i64 (mk a b c).A.y,.int .i64 (mk a b c).B.x,.int .i64 (mk a b c).B.y,.int .i64 (mk a b c).C.x,.int .i64 (mk a b c).C.y],.bool (!decide (ori a b c=0))])):=by
 by_cases h0:ori a b c=0
 ·rw [show mk a b c=⟨⟨0,0⟩,⟨0,0⟩,⟨0,0⟩⟩ by unfold mk;rw [jAc h0],show (!decide (ori a b c=0))=false by simp [h0]];exact rmake_0 a b c h0 w
 ·obtain ⟨va,vb,vc⟩:=zBy h0;obtain ⟨d1,d2,d3⟩:=zBm h0;have n1:key a≠key b:=fun h=>d1 (zBo va vb h).symm;have n2:key a≠key c:=fun h=>d2 (zBo va vc h).symm;have n3:key b≠key c:=fun h=>d3 (zBo vb vc h).symm;rw [show (!decide (ori a b c=0))=true by simp [h0]];have hb:=zAw a b c;by_cases h1:ori a b c=1
  ·rw [show mk a b c=mkT a b c by unfold mk;rw [jA0 h0,jAc h1]];rcases zEf va vb vc n1 n2 n3 with ⟨x1,x2,e⟩ | ⟨x1,x2,e⟩ | ⟨x1,x2,e⟩ <;> rw [e]
   ·exact rmake_p0 a b c h1 (dge vb va (by omega)) (dge vc va (by omega)) w
   ·exact rmake_p1 a b c h1 (dlt vb va (by omega)) (dge vc vb (by omega)) (dge va vb (by omega)) w
   ·rcases jDi (key b) (key a) with y | y
    ·exact rmake_p2 a b c h1 (dlt vb va (by omega)) (dlt vc vb (by omega)) (dge va vc (by omega)) (dge vb vc (by omega)) w
    ·exact rmake_p3 a b c h1 (dge vb va (by omega)) (dlt vc va (by omega)) (dlt vc vb (by omega)) (dge va vc (by omega)) (dge vb vc (by omega)) w
  ·have h2:ori a b c = -1:=by omega
   rw [show mk a b c=mkT a c b by unfold mk;rw [jA0 h0,jA0 h1]];rcases zEf va vc vb n2 n1 n3.symm with ⟨x1,x2,e⟩ | ⟨x1,x2,e⟩ | ⟨x1,x2,e⟩ <;> rw [e]
   ·exact rmake_n0 a b c h2 (dge vc va (by omega)) (dge vb va (by omega)) w
   ·exact rmake_n1 a b c h2 (dlt vc va (by omega)) (dge vb vc (by omega)) (dge va vc (by omega)) w
   ·rcases jDi (key c) (key a) with y | y
    ·exact rmake_n2 a b c h2 (dlt vc va (by omega)) (dlt vb vc (by omega)) (dge va vb (by omega)) (dge vc vb (by omega)) w
    ·exact rmake_n3 a b c h2 (dge vc va (by omega)) (dlt vb va (by omega)) (dlt vb vc (by omega)) (dge va vb (by omega)) (dge vc vb (by omega)) w
def teq (s u:Tri3):Bool:=peqI s.A.x s.A.y u.A.x u.A.y && (peqI s.B.x s.B.y u.B.x u.B.y && peqI s.C.x s.C.y u.C.x u.C.y)
theorem tri_eql (s u:Tri3) (w:World):(binOp .eql 56 (.agg #[s.A.x,s.A.y,s.B.x,s.B.y,s.C.x,s.C.y]) (.agg #[u.A.x,u.A.y,u.B.x,u.B.y,u.C.x,u.C.y])).run prog w=.ok (.bool (teq s u)) w:=by
 unfold teq peqI;by_cases h1:s.A.x=u.A.x
 case neg=>simp [go_sem,h1]
 case pos=>
 by_cases h2:s.A.y=u.A.y
 case neg=>simp [go_sem,h1,h2]
 case pos=>
 by_cases h3:s.B.x=u.B.x
 case neg=>simp [go_sem,h1,h2,h3]
 case pos=>
 by_cases h4:s.B.y=u.B.y
 case neg=>simp [go_sem,h1,h2,h3,h4]
 case pos=>
 by_cases h5:s.C.x=u.C.x
 case neg=>simp [go_sem,h1,h2,h3,h4,h5]
 case pos=>
 by_cases h6:s.C.y=u.C.y
 ·simp [go_sem,h1,h2,h3,h4,h5,h6]
 ·simp [go_sem,h1,h2,h3,h4,h5,h6]
end
section
open Go.RowKit Go.Sort
attribute [local go_sem] rOper rAt rUpon cell_set sg_i64 sg_u64 alloc_cell alloc_frozen
attribute [local go_sem 10000] pt_eql pt_neq tri_eql
attribute [local irreducible] rWalk
def valT (T:Tri3):Bool := !decide (ori T.A T.B T.C=0) && teq (mk T.A T.B T.C) T
theorem rvalT_0 (T:Tri3) (h:(!decide (ori T.A T.B T.C=0))=false) (w:World):Calls prog 100 #[T] w (Rt w (.bool false)):=by
 have cm:=zB4 T.A T.B T.C;rw [h] at cm;clear h;generalize mk T.A T.B T.C=M at *
 go_enter func100,ntmps100
 go_wp2_with fail;refine qE1 fun W1 Bt hw=>?_;refine qC1 (cm _) Bt hw fun w2 Bt hw Ft=>?_;go_wp2
 go_ret
 exact ⟨rfl,by have hl:=hw.size;go_grown⟩
theorem rvalT_1 (T:Tri3) (h:(!decide (ori T.A T.B T.C=0))=true) (w:World):Calls prog 100 #[T] w (Rt w (.bool (teq (mk T.A T.B T.C) T))):=by
 have cm:=zB4 T.A T.B T.C;rw [h] at cm;clear h;generalize mk T.A T.B T.C=M at *
 go_enter func100,ntmps100
 go_wp2_with fail;refine qE1 fun W1 Bt hw=>?_;refine qC1 (cm _) Bt hw fun w2 Bt hw Ft=>?_;go_wp2
 go_ret
 exact ⟨rfl,by have hl:=hw.size;go_grown⟩
theorem zDq (T:Tri3) (w:World):Calls prog 100 #[T] w (Rt w (.bool (valT T))):=by
 unfold valT;cases h:(!decide (ori T.A T.B T.C=0)) with
 | false=>exact rvalT_0 T h w
 | true=>exact rvalT_1 T h w
def hasP (T:Tri3) (p:Pt):Bool:=valT T && (vld p && (decide (0≤ori T.A T.B p) && (decide (0≤ori T.B T.C p) && decide (0≤ori T.C T.A p))))
theorem rhasP_0 (T:Tri3) (p:Pt) (h0:valT T=false) (w:World):Calls prog 143 #[T,p] w (Rt w (.bool false)):=by
 have cv:=zDq T;rw [h0] at cv;clear h0
 go_enter func143,ntmps143
 go_wp2_with fail;refine qE2 fun W1 Bt Bp hw=>?_;refine qC2 (cv _) Bt Bp hw fun w2 Bt Bp hw F_tp=>?_;go_wp2
 go_ret
 exact ⟨rfl,hw⟩
theorem rhasP_1 (T:Tri3) (p:Pt) (h0:valT T=true) (h1:vld p=false) (w:World):Calls prog 143 #[T,p] w (Rt w (.bool false)):=by
 have cv:=zDq T;rw [h0] at cv;clear h0;have cp:=zA0 p;rw [h1] at cp;clear h1
 go_enter func143,ntmps143
 go_wp2_with fail;refine qE2 fun W1 Bt Bp hw=>?_;refine qC2 (cv _) Bt Bp hw fun w2 Bt Bp hw F_tp=>?_;go_wp2_with fail;clear F_tp;refine qC2 (cp _) Bt Bp hw fun w3 Bt Bp hw F_tp=>?_;go_wp2
 go_ret
 exact ⟨rfl,hw⟩
theorem rhasP_2 (T:Tri3) (p:Pt) (h0:valT T=true) (h1:vld p=true) (g0:decide (0≤ori T.A T.B p)=false) (w:World):Calls prog 143 #[T,p] w (Rt w (.bool false)):=by
 have cv:=zDq T;rw [h0] at cv;clear h0;have cp:=zA0 p;rw [h1] at cp;clear h1;have o0:=zA3 T.A T.B p;generalize ori T.A T.B p=O0 at *
 go_enter func143,ntmps143
 go_wp2_with fail;refine qE2 fun W1 Bt Bp hw=>?_;refine qC2 (cv _) Bt Bp hw fun w2 Bt Bp hw F_tp=>?_;go_wp2_with fail;clear F_tp;refine qC2 (cp _) Bt Bp hw fun w3 Bt Bp hw F_tp=>?_;go_wp2_with fail;clear F_tp;refine qC2 (o0 _) Bt Bp hw fun w4 Bt Bp hw F_tp=>?_;go_wp2
 go_ret
 exact ⟨rfl,hw⟩
theorem rhasP_3 (T:Tri3) (p:Pt) (h0:valT T=true) (h1:vld p=true) (g0:decide (0≤ori T.A T.B p)=true) (g1:decide (0≤ori T.B T.C p)=false) (w:World):Calls prog 143 #[T,p] w (Rt w (.bool false)):=by
 have cv:=zDq T;rw [h0] at cv;clear h0;have cp:=zA0 p;rw [h1] at cp;clear h1;have o0:=zA3 T.A T.B p;generalize ori T.A T.B p=O0 at *
 have o1:=zA3 T.B T.C p;generalize ori T.B T.C p=O1 at *
 go_enter func143,ntmps143
 go_wp2_with fail;refine qE2 fun W1 Bt Bp hw=>?_;refine qC2 (cv _) Bt Bp hw fun w2 Bt Bp hw F_tp=>?_;go_wp2_with fail;clear F_tp;refine qC2 (cp _) Bt Bp hw fun w3 Bt Bp hw F_tp=>?_;go_wp2_with fail;clear F_tp;refine qC2 (o0 _) Bt Bp hw fun w4 Bt Bp hw F_tp=>?_;go_wp2_with fail;clear F_tp;refine qC2 (o1 _) Bt Bp hw fun w5 Bt Bp hw F_tp=>?_;go_wp2
 go_ret
 exact ⟨rfl,hw⟩
theorem rhasP_4 (T:Tri3) (p:Pt) (h0:valT T=true) (h1:vld p=true) (g0:decide (0≤ori T.A T.B p)=true) (g1:decide (0≤ori T.B T.C p)=true) (w:World):Calls prog 143 #[T,p] w (Rt w (.bool (decide (0≤ori T.C T.A p)))):=by
 have cv:=zDq T;rw [h0] at cv;clear h0;have cp:=zA0 p;rw [h1] at cp;clear h1;have o0:=zA3 T.A T.B p;generalize ori T.A T.B p=O0 at *
 have o1:=zA3 T.B T.C p;generalize ori T.B T.C p=O1 at *
 have o2:=zA3 T.C T.A p;generalize ori T.C T.A p=O2 at *
 go_enter func143,ntmps143
 go_wp2_with fail;refine qE2 fun W1 Bt Bp hw=>?_;refine qC2 (cv _) Bt Bp hw fun w2 Bt Bp hw F_tp=>?_;go_wp2_with fail;clear F_tp;refine qC2 (cp _) Bt Bp hw fun w3 Bt Bp hw F_tp=>?_;go_wp2_with fail;clear F_tp;refine qC2 (o0 _) Bt Bp hw fun w4 Bt Bp hw F_tp=>?_;go_wp2_with fail;clear F_tp;refine qC2 (o1 _) Bt Bp hw fun w5 Bt Bp hw F_tp=>?_;go_wp2_with fail;clear F_tp;refine qC2 (o2 _) Bt Bp hw fun w6 Bt Bp hw F_tp=>?_;go_wp2
 go_ret
 exact ⟨rfl,hw⟩
theorem zDs (T:Tri3) (p:Pt) (w:World):Calls prog 143 #[T,p] w (Rt w (.bool (hasP T p))):=by
 unfold hasP;cases h0:valT T with
 | false=>exact rhasP_0 T p h0 w
 | true=>cases h1:vld p with
  | false=>exact rhasP_1 T p h0 h1 w
  | true=>cases g0:decide (0≤ori T.A T.B p) with
   | false=>exact rhasP_2 T p h0 h1 g0 w
   | true=>cases g1:decide (0≤ori T.B T.C p) with
    | false=>exact rhasP_3 T p h0 h1 g0 g1 w
    | true=>exact rhasP_4 T p h0 h1 g0 g1 w
end
end Go.Proofs.YtogffkimgmlilaaGreat
