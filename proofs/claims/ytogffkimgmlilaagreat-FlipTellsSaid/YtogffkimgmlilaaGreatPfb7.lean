/- Put together: ExH, ExI, ExJ, ExN. -/
import Derived.Test.YtogffkimgmlilaaGreatPfb6
set_option maxRecDepth 100000
set_option maxHeartbeats 8000000
set_option linter.all false
namespace Go.Proofs.YtogffkimgmlilaaGreat
open _root_.Go.Proofs.Tryz
section
open Go.RowKit Go.Sort
attribute [local go_sem] rOper rAt rUpon cell_set sg_i64 sg_u64 alloc_cell alloc_frozen
attribute [local go_sem 10000] pt_eql pt_neq
attribute [local irreducible] rWalk
def fin (sA sB sC sD:Int):Int:=if sA=sB then 0 else if sC=sD then 0 else if sA=0 then 2 else if sB=0 then 2 else if sC=0 then 2 else if sD=0 then 2 else 1
def meetS (a b c d:Pt):Int:=
 if vld a=false then 0 else if vld b=false then 0 else if vld c=false then 0 else if vld d=false then 0 else if peqI a.x a.y b.x b.y=true then 0 else if peqI c.x c.y d.x d.y=true then 0
 else if ori a b c=0∧ori a b d=0 then mil a b c d
 else if peqI a.x a.y c.x c.y=true then 0 else if peqI a.x a.y d.x d.y=true then 0 else if peqI b.x b.y c.x c.y=true then 0 else if peqI b.x b.y d.x d.y=true then 0
 else fin (ori c d a) (ori c d b) (ori a b c) (ori a b d)
theorem meet_v0 (a b c d:Pt) (ha:vld a=false) (w:World):Calls prog 130 #[a,b,c,d] w (Rt w (.int .i64 0)):=by
 have ca:=zA2 a;rw [ha] at ca;clear ha
 go_enter func130,ntmps130
 go_wp2_with fail;refine qE4 fun W1 Ba Bb Bc Bd hw=>?_;refine qC4 (ca _) Ba Bb Bc Bd hw fun w2 Ba Bb Bc Bd hw F_abcd=>?_;go_wp2
 go_ret
 exact ⟨rfl,hw⟩
theorem meet_v1 (a b c d:Pt) (ha:vld a=true) (hb:vld b=false) (w:World):Calls prog 130 #[a,b,c,d] w (Rt w (.int .i64 0)):=by
 have ca:=zA2 a;rw [ha] at ca;clear ha;have cb:=zA2 b;rw [hb] at cb;clear hb
 go_enter func130,ntmps130
 go_wp2_with fail;refine qE4 fun W1 Ba Bb Bc Bd hw=>?_;refine qC4 (ca _) Ba Bb Bc Bd hw fun w2 Ba Bb Bc Bd hw F_abcd=>?_;go_wp2_with fail;clear F_abcd;refine qC4 (cb _) Ba Bb Bc Bd hw fun w3 Ba Bb Bc Bd hw F_abcd=>?_;go_wp2
 go_ret
 exact ⟨rfl,hw⟩
theorem meet_v2 (a b c d:Pt) (ha:vld a=true) (hb:vld b=true) (hc:vld c=false) (w:World):Calls prog 130 #[a,b,c,d] w (Rt w (.int .i64 0)):=by
 have ca:=zA2 a;rw [ha] at ca;clear ha;have cb:=zA2 b;rw [hb] at cb;clear hb;have cc:=zA2 c;rw [hc] at cc;clear hc
 go_enter func130,ntmps130
 go_wp2_with fail;refine qE4 fun W1 Ba Bb Bc Bd hw=>?_;refine qC4 (ca _) Ba Bb Bc Bd hw fun w2 Ba Bb Bc Bd hw F_abcd=>?_;go_wp2_with fail;clear F_abcd;refine qC4 (cb _) Ba Bb Bc Bd hw fun w3 Ba Bb Bc Bd hw F_abcd=>?_;go_wp2_with fail;clear F_abcd;refine qC4 (cc _) Ba Bb Bc Bd hw fun w4 Ba Bb Bc Bd hw F_abcd=>?_;go_wp2
 go_ret
 exact ⟨rfl,hw⟩
theorem meet_v3 (a b c d:Pt) (ha:vld a=true) (hb:vld b=true) (hc:vld c=true) (hd:vld d=false) (w:World):Calls prog 130 #[a,b,c,d] w (Rt w (.int .i64 0)):=by
 have ca:=zA2 a;rw [ha] at ca;clear ha;have cb:=zA2 b;rw [hb] at cb;clear hb;have cc:=zA2 c;rw [hc] at cc;clear hc;have cd:=zA2 d;rw [hd] at cd;clear hd
 go_enter func130,ntmps130
 go_wp2_with fail;refine qE4 fun W1 Ba Bb Bc Bd hw=>?_;refine qC4 (ca _) Ba Bb Bc Bd hw fun w2 Ba Bb Bc Bd hw F_abcd=>?_;go_wp2_with fail;clear F_abcd;refine qC4 (cb _) Ba Bb Bc Bd hw fun w3 Ba Bb Bc Bd hw F_abcd=>?_;go_wp2_with fail;clear F_abcd;refine qC4 (cc _) Ba Bb Bc Bd hw fun w4 Ba Bb Bc Bd hw F_abcd=>?_;go_wp2_with fail;clear F_abcd;refine qC4 (cd _) Ba Bb Bc Bd hw fun w5 Ba Bb Bc Bd hw F_abcd=>?_;go_wp2
 go_ret
 exact ⟨rfl,hw⟩
theorem meet_e1 (a b c d:Pt) (ha:vld a=true) (hb:vld b=true) (hc:vld c=true) (hd:vld d=true) (e1:peqI a.x a.y b.x b.y=true) (w:World):Calls prog 130 #[a,b,c,d] w (Rt w (.int .i64 0)):=by
 have ca:=zA2 a;rw [ha] at ca;clear ha;have cb:=zA2 b;rw [hb] at cb;clear hb;have cc:=zA2 c;rw [hc] at cc;clear hc;have cd:=zA2 d;rw [hd] at cd;clear hd
 go_enter func130,ntmps130
 go_wp2_with fail;refine qE4 fun W1 Ba Bb Bc Bd hw=>?_;refine qC4 (ca _) Ba Bb Bc Bd hw fun w2 Ba Bb Bc Bd hw F_abcd=>?_;go_wp2_with fail;clear F_abcd;refine qC4 (cb _) Ba Bb Bc Bd hw fun w3 Ba Bb Bc Bd hw F_abcd=>?_;go_wp2_with fail;clear F_abcd;refine qC4 (cc _) Ba Bb Bc Bd hw fun w4 Ba Bb Bc Bd hw F_abcd=>?_;go_wp2_with fail;clear F_abcd;refine qC4 (cd _) Ba Bb Bc Bd hw fun w5 Ba Bb Bc Bd hw F_abcd=>?_;go_wp2
 go_ret
 exact ⟨rfl,hw⟩
theorem meet_e2 (a b c d:Pt) (ha:vld a=true) (hb:vld b=true) (hc:vld c=true) (hd:vld d=true) (e1:peqI a.x a.y b.x b.y=false) (e2:peqI c.x c.y d.x d.y=true) (w:World):Calls prog 130 #[a,b,c,d] w (Rt w (.int .i64 0)):=by
 have ca:=zA2 a;rw [ha] at ca;clear ha;have cb:=zA2 b;rw [hb] at cb;clear hb;have cc:=zA2 c;rw [hc] at cc;clear hc;have cd:=zA2 d;rw [hd] at cd;clear hd
 go_enter func130,ntmps130
 go_wp2_with fail;refine qE4 fun W1 Ba Bb Bc Bd hw=>?_;refine qC4 (ca _) Ba Bb Bc Bd hw fun w2 Ba Bb Bc Bd hw F_abcd=>?_;go_wp2_with fail;clear F_abcd;refine qC4 (cb _) Ba Bb Bc Bd hw fun w3 Ba Bb Bc Bd hw F_abcd=>?_;go_wp2_with fail;clear F_abcd;refine qC4 (cc _) Ba Bb Bc Bd hw fun w4 Ba Bb Bc Bd hw F_abcd=>?_;go_wp2_with fail;clear F_abcd;refine qC4 (cd _) Ba Bb Bc Bd hw fun w5 Ba Bb Bc Bd hw F_abcd=>?_;go_wp2
 go_ret
 exact ⟨rfl,hw⟩
theorem meet_l (a b c d:Pt) (ha:vld a=true) (hb:vld b=true) (hc:vld c=true) (hd:vld d=true) (e1:peqI a.x a.y b.x b.y=false) (e2:peqI c.x c.y d.x d.y=false) (z1:ori a b c=0) (z2:ori a b d=0) (w:World):Calls prog 130 #[a,b,c,d] w (Rt w (.int .i64 (mil a b c d))):=by
 have ca:=zA2 a;rw [ha] at ca;clear ha;have cb:=zA2 b;rw [hb] at cb;clear hb;have cc:=zA2 c;rw [hc] at cc;clear hc;have cd:=zA2 d;rw [hd] at cd;clear hd;have o1:=zA5 a b c;have o2:=zA5 a b d;rw [z1] at o1;rw [z2] at o2;clear z1 z2;have cm:=mil_any a b c d
 go_enter func130,ntmps130
 go_wp2_with fail;refine qE4 fun W1 Ba Bb Bc Bd hw=>?_;refine qC4 (ca _) Ba Bb Bc Bd hw fun w2 Ba Bb Bc Bd hw F_abcd=>?_;go_wp2_with fail;clear F_abcd;refine qC4 (cb _) Ba Bb Bc Bd hw fun w3 Ba Bb Bc Bd hw F_abcd=>?_;go_wp2_with fail;clear F_abcd;refine qC4 (cc _) Ba Bb Bc Bd hw fun w4 Ba Bb Bc Bd hw F_abcd=>?_;go_wp2_with fail;clear F_abcd;refine qC4 (cd _) Ba Bb Bc Bd hw fun w5 Ba Bb Bc Bd hw F_abcd=>?_;go_wp2;refine zA1 fun W6 hW=>?_;subst hW;clear F_abcd;have g_abcd:=J4 Ba.cells Bb.cells Bc.cells Bd.cells;refine rgn 8 (fun w7 hb=>?_);clear g_abcd;obtain ⟨Ba,Bb,Bc,Bd,hw,F_abcd⟩:=qX4 Ba Bb Bc Bd hw hb;go_wp2_with fail;clear F_abcd;refine qK4 (cm _) Ba Bb Bc Bd hw fun w8 Ba Bb Bc Bd hw=>?_;go_wp2
 go_ret
 exact ⟨rfl,hw⟩
theorem meet_n0 (a b c d:Pt) (ha:vld a=true) (hb:vld b=true) (hc:vld c=true) (hd:vld d=true) (e1:peqI a.x a.y b.x b.y=false) (e2:peqI c.x c.y d.x d.y=false) (z1:¬ ori a b c=0) (q1:peqI a.x a.y c.x c.y=true) (w:World):Calls prog 130 #[a,b,c,d] w (Rt w (.int .i64 0)):=by
 have ca:=zA2 a;rw [ha] at ca;clear ha;have cb:=zA2 b;rw [hb] at cb;clear hb;have cc:=zA2 c;rw [hc] at cc;clear hc;have cd:=zA2 d;rw [hd] at cd;clear hd;have o1:=zA5 a b c;have o2:=zA5 a b d;have sC:=zAw a b c;generalize ori a b c=C at *
 generalize ori a b d=D at *
 have t1:(C == 0)=false:=by simpa using z1
 clear z1
 go_enter func130,ntmps130
 go_wp2_with fail;refine qE4 fun W1 Ba Bb Bc Bd hw=>?_;refine qC4 (ca _) Ba Bb Bc Bd hw fun w2 Ba Bb Bc Bd hw F_abcd=>?_;go_wp2_with fail;clear F_abcd;refine qC4 (cb _) Ba Bb Bc Bd hw fun w3 Ba Bb Bc Bd hw F_abcd=>?_;go_wp2_with fail;clear F_abcd;refine qC4 (cc _) Ba Bb Bc Bd hw fun w4 Ba Bb Bc Bd hw F_abcd=>?_;go_wp2_with fail;clear F_abcd;refine qC4 (cd _) Ba Bb Bc Bd hw fun w5 Ba Bb Bc Bd hw F_abcd=>?_;go_wp2;refine zA1 fun W6 hW=>?_;subst hW;clear F_abcd;have g_abcd:=J4 Ba.cells Bb.cells Bc.cells Bd.cells;refine rgn 8 (fun w7 hb=>?_);clear g_abcd;obtain ⟨Ba,Bb,Bc,Bd,hw,F_abcd⟩:=qX4 Ba Bb Bc Bd hw hb;go_wp2
 go_ret
 exact ⟨rfl,hw⟩
theorem meet_n1 (a b c d:Pt) (ha:vld a=true) (hb:vld b=true) (hc:vld c=true) (hd:vld d=true) (e1:peqI a.x a.y b.x b.y=false) (e2:peqI c.x c.y d.x d.y=false) (z1:¬ ori a b c=0) (q1:peqI a.x a.y c.x c.y=false) (q2:peqI a.x a.y d.x d.y=true) (w:World):Calls prog 130 #[a,b,c,d] w (Rt w (.int .i64 0)):=by
 have ca:=zA2 a;rw [ha] at ca;clear ha;have cb:=zA2 b;rw [hb] at cb;clear hb;have cc:=zA2 c;rw [hc] at cc;clear hc;have cd:=zA2 d;rw [hd] at cd;clear hd;have o1:=zA5 a b c;have o2:=zA5 a b d;have sC:=zAw a b c;generalize ori a b c=C at *
 generalize ori a b d=D at *
 have t1:(C == 0)=false:=by simpa using z1
 clear z1
 go_enter func130,ntmps130
 go_wp2_with fail;refine qE4 fun W1 Ba Bb Bc Bd hw=>?_;refine qC4 (ca _) Ba Bb Bc Bd hw fun w2 Ba Bb Bc Bd hw F_abcd=>?_;go_wp2_with fail;clear F_abcd;refine qC4 (cb _) Ba Bb Bc Bd hw fun w3 Ba Bb Bc Bd hw F_abcd=>?_;go_wp2_with fail;clear F_abcd;refine qC4 (cc _) Ba Bb Bc Bd hw fun w4 Ba Bb Bc Bd hw F_abcd=>?_;go_wp2_with fail;clear F_abcd;refine qC4 (cd _) Ba Bb Bc Bd hw fun w5 Ba Bb Bc Bd hw F_abcd=>?_;go_wp2;refine zA1 fun W6 hW=>?_;subst hW;clear F_abcd;have g_abcd:=J4 Ba.cells Bb.cells Bc.cells Bd.cells;refine rgn 8 (fun w7 hb=>?_);clear g_abcd;obtain ⟨Ba,Bb,Bc,Bd,hw,F_abcd⟩:=qX4 Ba Bb Bc Bd hw hb;go_wp2
 go_ret
 exact ⟨rfl,hw⟩
theorem meet_n2 (a b c d:Pt) (ha:vld a=true) (hb:vld b=true) (hc:vld c=true) (hd:vld d=true) (e1:peqI a.x a.y b.x b.y=false) (e2:peqI c.x c.y d.x d.y=false) (z1:¬ ori a b c=0) (q1:peqI a.x a.y c.x c.y=false) (q2:peqI a.x a.y d.x d.y=false) (q3:peqI b.x b.y c.x c.y=true) (w:World):Calls prog 130 #[a,b,c,d] w (Rt w (.int .i64 0)):=by
 have ca:=zA2 a;rw [ha] at ca;clear ha;have cb:=zA2 b;rw [hb] at cb;clear hb;have cc:=zA2 c;rw [hc] at cc;clear hc;have cd:=zA2 d;rw [hd] at cd;clear hd;have o1:=zA5 a b c;have o2:=zA5 a b d;have sC:=zAw a b c;generalize ori a b c=C at *
 generalize ori a b d=D at *
 have t1:(C == 0)=false:=by simpa using z1
 clear z1
 go_enter func130,ntmps130
 go_wp2_with fail;refine qE4 fun W1 Ba Bb Bc Bd hw=>?_;refine qC4 (ca _) Ba Bb Bc Bd hw fun w2 Ba Bb Bc Bd hw F_abcd=>?_;go_wp2_with fail;clear F_abcd;refine qC4 (cb _) Ba Bb Bc Bd hw fun w3 Ba Bb Bc Bd hw F_abcd=>?_;go_wp2_with fail;clear F_abcd;refine qC4 (cc _) Ba Bb Bc Bd hw fun w4 Ba Bb Bc Bd hw F_abcd=>?_;go_wp2_with fail;clear F_abcd;refine qC4 (cd _) Ba Bb Bc Bd hw fun w5 Ba Bb Bc Bd hw F_abcd=>?_;go_wp2;refine zA1 fun W6 hW=>?_;subst hW;clear F_abcd;have g_abcd:=J4 Ba.cells Bb.cells Bc.cells Bd.cells;refine rgn 8 (fun w7 hb=>?_);clear g_abcd;obtain ⟨Ba,Bb,Bc,Bd,hw,F_abcd⟩:=qX4 Ba Bb Bc Bd hw hb;go_wp2
 go_ret
 exact ⟨rfl,hw⟩
theorem meet_n3 (a b c d:Pt) (ha:vld a=true) (hb:vld b=true) (hc:vld c=true) (hd:vld d=true) (e1:peqI a.x a.y b.x b.y=false) (e2:peqI c.x c.y d.x d.y=false) (z1:¬ ori a b c=0) (q1:peqI a.x a.y c.x c.y=false) (q2:peqI a.x a.y d.x d.y=false) (q3:peqI b.x b.y c.x c.y=false) (q4:peqI b.x b.y d.x d.y=true) (w:World):Calls prog 130 #[a,b,c,d] w (Rt w (.int .i64 0)):=by
 have ca:=zA2 a;rw [ha] at ca;clear ha;have cb:=zA2 b;rw [hb] at cb;clear hb;have cc:=zA2 c;rw [hc] at cc;clear hc;have cd:=zA2 d;rw [hd] at cd;clear hd;have o1:=zA5 a b c;have o2:=zA5 a b d;have sC:=zAw a b c;generalize ori a b c=C at *
 generalize ori a b d=D at *
 have t1:(C == 0)=false:=by simpa using z1
 clear z1
 go_enter func130,ntmps130
 go_wp2_with fail;refine qE4 fun W1 Ba Bb Bc Bd hw=>?_;refine qC4 (ca _) Ba Bb Bc Bd hw fun w2 Ba Bb Bc Bd hw F_abcd=>?_;go_wp2_with fail;clear F_abcd;refine qC4 (cb _) Ba Bb Bc Bd hw fun w3 Ba Bb Bc Bd hw F_abcd=>?_;go_wp2_with fail;clear F_abcd;refine qC4 (cc _) Ba Bb Bc Bd hw fun w4 Ba Bb Bc Bd hw F_abcd=>?_;go_wp2_with fail;clear F_abcd;refine qC4 (cd _) Ba Bb Bc Bd hw fun w5 Ba Bb Bc Bd hw F_abcd=>?_;go_wp2;refine zA1 fun W6 hW=>?_;subst hW;clear F_abcd;have g_abcd:=J4 Ba.cells Bb.cells Bc.cells Bd.cells;refine rgn 8 (fun w7 hb=>?_);clear g_abcd;obtain ⟨Ba,Bb,Bc,Bd,hw,F_abcd⟩:=qX4 Ba Bb Bc Bd hw hb;go_wp2
 go_ret
 exact ⟨rfl,hw⟩
theorem meet_n4 (a b c d:Pt) (ha:vld a=true) (hb:vld b=true) (hc:vld c=true) (hd:vld d=true) (e1:peqI a.x a.y b.x b.y=false) (e2:peqI c.x c.y d.x d.y=false) (z1:¬ ori a b c=0) (q1:peqI a.x a.y c.x c.y=false) (q2:peqI a.x a.y d.x d.y=false) (q3:peqI b.x b.y c.x c.y=false) (q4:peqI b.x b.y d.x d.y=false) (w:World):Calls prog 130 #[a,b,c,d] w (Rt w (.int .i64 (fin (ori c d a) (ori c d b) (ori a b c) (ori a b d)))):=by
 have ca:=zA2 a;rw [ha] at ca;clear ha;have cb:=zA2 b;rw [hb] at cb;clear hb;have cc:=zA2 c;rw [hc] at cc;clear hc;have cd:=zA2 d;rw [hd] at cd;clear hd;have o1:=zA5 a b c;have o2:=zA5 a b d;have o3:=zA5 c d a;have o4:=zA5 c d b;generalize ori c d a=A at *
 generalize ori c d b=B at *
 have sC:=zAw a b c;generalize ori a b c=C at *
 generalize ori a b d=D at *
 have t1:(C == 0)=false:=by simpa using z1
 clear z1
 go_enter func130,ntmps130
 go_wp2_with fail;refine qE4 fun W1 Ba Bb Bc Bd hw=>?_;refine qC4 (ca _) Ba Bb Bc Bd hw fun w2 Ba Bb Bc Bd hw F_abcd=>?_;go_wp2_with fail;clear F_abcd;refine qC4 (cb _) Ba Bb Bc Bd hw fun w3 Ba Bb Bc Bd hw F_abcd=>?_;go_wp2_with fail;clear F_abcd;refine qC4 (cc _) Ba Bb Bc Bd hw fun w4 Ba Bb Bc Bd hw F_abcd=>?_;go_wp2_with fail;clear F_abcd;refine qC4 (cd _) Ba Bb Bc Bd hw fun w5 Ba Bb Bc Bd hw F_abcd=>?_;go_wp2;refine zA1 fun W6 hW=>?_;subst hW;clear F_abcd;have g_abcd:=J4 Ba.cells Bb.cells Bc.cells Bd.cells;refine rgn 8 (fun w7 hb=>?_);clear g_abcd;obtain ⟨Ba,Bb,Bc,Bd,hw,F_abcd⟩:=qX4 Ba Bb Bc Bd hw hb;go_wp2;refine zA1 fun W8 hW=>?_;subst hW;clear F_abcd;have g_abcd:=J4 Ba.cells Bb.cells Bc.cells Bd.cells;refine rgn 8 (fun w9 hb=>?_);clear g_abcd;obtain ⟨Ba,Bb,Bc,Bd,hw,-⟩:=qX4 Ba Bb Bc Bd hw hb;go_wp2;all_goals go_ret
 all_goals exact ⟨zAp (by unfold fin;simp_all),hw⟩
theorem meet_z0 (a b c d:Pt) (ha:vld a=true) (hb:vld b=true) (hc:vld c=true) (hd:vld d=true) (e1:peqI a.x a.y b.x b.y=false) (e2:peqI c.x c.y d.x d.y=false) (z1:ori a b c=0) (z2:¬ ori a b d=0) (q1:peqI a.x a.y c.x c.y=true) (w:World):Calls prog 130 #[a,b,c,d] w (Rt w (.int .i64 0)):=by
 have ca:=zA2 a;rw [ha] at ca;clear ha;have cb:=zA2 b;rw [hb] at cb;clear hb;have cc:=zA2 c;rw [hc] at cc;clear hc;have cd:=zA2 d;rw [hd] at cd;clear hd;have o1:=zA5 a b c;have o2:=zA5 a b d;rw [z1] at o1;generalize ori a b d=D at *
 have t1:(D == 0)=false:=by simpa using z2
 clear z1 z2
 go_enter func130,ntmps130
 go_wp2_with fail;refine qE4 fun W1 Ba Bb Bc Bd hw=>?_;refine qC4 (ca _) Ba Bb Bc Bd hw fun w2 Ba Bb Bc Bd hw F_abcd=>?_;go_wp2_with fail;clear F_abcd;refine qC4 (cb _) Ba Bb Bc Bd hw fun w3 Ba Bb Bc Bd hw F_abcd=>?_;go_wp2_with fail;clear F_abcd;refine qC4 (cc _) Ba Bb Bc Bd hw fun w4 Ba Bb Bc Bd hw F_abcd=>?_;go_wp2_with fail;clear F_abcd;refine qC4 (cd _) Ba Bb Bc Bd hw fun w5 Ba Bb Bc Bd hw F_abcd=>?_;go_wp2;refine zA1 fun W6 hW=>?_;subst hW;clear F_abcd;have g_abcd:=J4 Ba.cells Bb.cells Bc.cells Bd.cells;refine rgn 8 (fun w7 hb=>?_);clear g_abcd;obtain ⟨Ba,Bb,Bc,Bd,hw,F_abcd⟩:=qX4 Ba Bb Bc Bd hw hb;go_wp2
 go_ret
 exact ⟨rfl,hw⟩
theorem meet_z1 (a b c d:Pt) (ha:vld a=true) (hb:vld b=true) (hc:vld c=true) (hd:vld d=true) (e1:peqI a.x a.y b.x b.y=false) (e2:peqI c.x c.y d.x d.y=false) (z1:ori a b c=0) (z2:¬ ori a b d=0) (q1:peqI a.x a.y c.x c.y=false) (q2:peqI a.x a.y d.x d.y=true) (w:World):Calls prog 130 #[a,b,c,d] w (Rt w (.int .i64 0)):=by
 have ca:=zA2 a;rw [ha] at ca;clear ha;have cb:=zA2 b;rw [hb] at cb;clear hb;have cc:=zA2 c;rw [hc] at cc;clear hc;have cd:=zA2 d;rw [hd] at cd;clear hd;have o1:=zA5 a b c;have o2:=zA5 a b d;rw [z1] at o1;generalize ori a b d=D at *
 have t1:(D == 0)=false:=by simpa using z2
 clear z1 z2
 go_enter func130,ntmps130
 go_wp2_with fail;refine qE4 fun W1 Ba Bb Bc Bd hw=>?_;refine qC4 (ca _) Ba Bb Bc Bd hw fun w2 Ba Bb Bc Bd hw F_abcd=>?_;go_wp2_with fail;clear F_abcd;refine qC4 (cb _) Ba Bb Bc Bd hw fun w3 Ba Bb Bc Bd hw F_abcd=>?_;go_wp2_with fail;clear F_abcd;refine qC4 (cc _) Ba Bb Bc Bd hw fun w4 Ba Bb Bc Bd hw F_abcd=>?_;go_wp2_with fail;clear F_abcd;refine qC4 (cd _) Ba Bb Bc Bd hw fun w5 Ba Bb Bc Bd hw F_abcd=>?_;go_wp2;refine zA1 fun W6 hW=>?_;subst hW;clear F_abcd;have g_abcd:=J4 Ba.cells Bb.cells Bc.cells Bd.cells;refine rgn 8 (fun w7 hb=>?_);clear g_abcd;obtain ⟨Ba,Bb,Bc,Bd,hw,F_abcd⟩:=qX4 Ba Bb Bc Bd hw hb;go_wp2
 go_ret
 exact ⟨rfl,hw⟩
theorem meet_z2 (a b c d:Pt) (ha:vld a=true) (hb:vld b=true) (hc:vld c=true) (hd:vld d=true) (e1:peqI a.x a.y b.x b.y=false) (e2:peqI c.x c.y d.x d.y=false) (z1:ori a b c=0) (z2:¬ ori a b d=0) (q1:peqI a.x a.y c.x c.y=false) (q2:peqI a.x a.y d.x d.y=false) (q3:peqI b.x b.y c.x c.y=true) (w:World):Calls prog 130 #[a,b,c,d] w (Rt w (.int .i64 0)):=by
 have ca:=zA2 a;rw [ha] at ca;clear ha;have cb:=zA2 b;rw [hb] at cb;clear hb;have cc:=zA2 c;rw [hc] at cc;clear hc;have cd:=zA2 d;rw [hd] at cd;clear hd;have o1:=zA5 a b c;have o2:=zA5 a b d;rw [z1] at o1;generalize ori a b d=D at *
 have t1:(D == 0)=false:=by simpa using z2
 clear z1 z2
 go_enter func130,ntmps130
 go_wp2_with fail;refine qE4 fun W1 Ba Bb Bc Bd hw=>?_;refine qC4 (ca _) Ba Bb Bc Bd hw fun w2 Ba Bb Bc Bd hw F_abcd=>?_;go_wp2_with fail;clear F_abcd;refine qC4 (cb _) Ba Bb Bc Bd hw fun w3 Ba Bb Bc Bd hw F_abcd=>?_;go_wp2_with fail;clear F_abcd;refine qC4 (cc _) Ba Bb Bc Bd hw fun w4 Ba Bb Bc Bd hw F_abcd=>?_;go_wp2_with fail;clear F_abcd;refine qC4 (cd _) Ba Bb Bc Bd hw fun w5 Ba Bb Bc Bd hw F_abcd=>?_;go_wp2;refine zA1 fun W6 hW=>?_;subst hW;clear F_abcd;have g_abcd:=J4 Ba.cells Bb.cells Bc.cells Bd.cells;refine rgn 8 (fun w7 hb=>?_);clear g_abcd;obtain ⟨Ba,Bb,Bc,Bd,hw,F_abcd⟩:=qX4 Ba Bb Bc Bd hw hb;go_wp2
 go_ret
 exact ⟨rfl,hw⟩
theorem meet_z3 (a b c d:Pt) (ha:vld a=true) (hb:vld b=true) (hc:vld c=true) (hd:vld d=true) (e1:peqI a.x a.y b.x b.y=false) (e2:peqI c.x c.y d.x d.y=false) (z1:ori a b c=0) (z2:¬ ori a b d=0) (q1:peqI a.x a.y c.x c.y=false) (q2:peqI a.x a.y d.x d.y=false) (q3:peqI b.x b.y c.x c.y=false) (q4:peqI b.x b.y d.x d.y=true) (w:World):Calls prog 130 #[a,b,c,d] w (Rt w (.int .i64 0)):=by
 have ca:=zA2 a;rw [ha] at ca;clear ha;have cb:=zA2 b;rw [hb] at cb;clear hb;have cc:=zA2 c;rw [hc] at cc;clear hc;have cd:=zA2 d;rw [hd] at cd;clear hd;have o1:=zA5 a b c;have o2:=zA5 a b d;rw [z1] at o1;generalize ori a b d=D at *
 have t1:(D == 0)=false:=by simpa using z2
 clear z1 z2
 go_enter func130,ntmps130
 go_wp2_with fail;refine qE4 fun W1 Ba Bb Bc Bd hw=>?_;refine qC4 (ca _) Ba Bb Bc Bd hw fun w2 Ba Bb Bc Bd hw F_abcd=>?_;go_wp2_with fail;clear F_abcd;refine qC4 (cb _) Ba Bb Bc Bd hw fun w3 Ba Bb Bc Bd hw F_abcd=>?_;go_wp2_with fail;clear F_abcd;refine qC4 (cc _) Ba Bb Bc Bd hw fun w4 Ba Bb Bc Bd hw F_abcd=>?_;go_wp2_with fail;clear F_abcd;refine qC4 (cd _) Ba Bb Bc Bd hw fun w5 Ba Bb Bc Bd hw F_abcd=>?_;go_wp2;refine zA1 fun W6 hW=>?_;subst hW;clear F_abcd;have g_abcd:=J4 Ba.cells Bb.cells Bc.cells Bd.cells;refine rgn 8 (fun w7 hb=>?_);clear g_abcd;obtain ⟨Ba,Bb,Bc,Bd,hw,F_abcd⟩:=qX4 Ba Bb Bc Bd hw hb;go_wp2
 go_ret
 exact ⟨rfl,hw⟩
theorem meet_z4 (a b c d:Pt) (ha:vld a=true) (hb:vld b=true) (hc:vld c=true) (hd:vld d=true) (e1:peqI a.x a.y b.x b.y=false) (e2:peqI c.x c.y d.x d.y=false) (z1:ori a b c=0) (z2:¬ ori a b d=0) (q1:peqI a.x a.y c.x c.y=false) (q2:peqI a.x a.y d.x d.y=false) (q3:peqI b.x b.y c.x c.y=false) (q4:peqI b.x b.y d.x d.y=false) (w:World):Calls prog 130 #[a,b,c,d] w (Rt w (.int .i64 (fin (ori c d a) (ori c d b) 0 (ori a b d)))):=by
 have ca:=zA2 a;rw [ha] at ca;clear ha;have cb:=zA2 b;rw [hb] at cb;clear hb;have cc:=zA2 c;rw [hc] at cc;clear hc;have cd:=zA2 d;rw [hd] at cd;clear hd;have o1:=zA5 a b c;have o2:=zA5 a b d;have o3:=zA5 c d a;have o4:=zA5 c d b;generalize ori c d a=A at *
 generalize ori c d b=B at *
 rw [z1] at o1;generalize ori a b d=D at *
 have t1:(D == 0)=false:=by simpa using z2
 clear z1 z2
 go_enter func130,ntmps130
 go_wp2_with fail;refine qE4 fun W1 Ba Bb Bc Bd hw=>?_;refine qC4 (ca _) Ba Bb Bc Bd hw fun w2 Ba Bb Bc Bd hw F_abcd=>?_;go_wp2_with fail;clear F_abcd;refine qC4 (cb _) Ba Bb Bc Bd hw fun w3 Ba Bb Bc Bd hw F_abcd=>?_;go_wp2_with fail;clear F_abcd;refine qC4 (cc _) Ba Bb Bc Bd hw fun w4 Ba Bb Bc Bd hw F_abcd=>?_;go_wp2_with fail;clear F_abcd;refine qC4 (cd _) Ba Bb Bc Bd hw fun w5 Ba Bb Bc Bd hw F_abcd=>?_;go_wp2;refine zA1 fun W6 hW=>?_;subst hW;clear F_abcd;have g_abcd:=J4 Ba.cells Bb.cells Bc.cells Bd.cells;refine rgn 8 (fun w7 hb=>?_);clear g_abcd;obtain ⟨Ba,Bb,Bc,Bd,hw,F_abcd⟩:=qX4 Ba Bb Bc Bd hw hb;go_wp2;refine zA1 fun W8 hW=>?_;subst hW;clear F_abcd;have g_abcd:=J4 Ba.cells Bb.cells Bc.cells Bd.cells;refine rgn 8 (fun w9 hb=>?_);clear g_abcd;obtain ⟨Ba,Bb,Bc,Bd,hw,-⟩:=qX4 Ba Bb Bc Bd hw hb;go_wp2;all_goals go_ret
 all_goals exact ⟨zAp (by unfold fin;simp_all),hw⟩
theorem zHv (a b c d:Pt) (w:World):Calls prog 130 #[a,b,c,d] w (Rt w (.int .i64 (meetS a b c d))):=by
 cases ha:vld a with
 | false=>rw [show meetS a b c d=0 by unfold meetS;rw [jAc ha]];exact meet_v0 a b c d ha w
 | true=>
 have n_ha:¬ vld a=false:=by rw [ha];simp
 cases hb:vld b with
 | false=>rw [show meetS a b c d=0 by unfold meetS;rw [jA0 n_ha,jAc hb]];exact meet_v1 a b c d ha hb w
 | true=>
 have n_hb:¬ vld b=false:=by rw [hb];simp
 cases hc:vld c with
 | false=>rw [show meetS a b c d=0 by unfold meetS;rw [jA0 n_ha,jA0 n_hb,jAc hc]];exact meet_v2 a b c d ha hb hc w
 | true=>
 have n_hc:¬ vld c=false:=by rw [hc];simp
 cases hd:vld d with
 | false=>rw [show meetS a b c d=0 by unfold meetS;rw [jA0 n_ha,jA0 n_hb,jA0 n_hc,jAc hd]];exact meet_v3 a b c d ha hb hc hd w
 | true=>
 have n_hd:¬ vld d=false:=by rw [hd];simp
 cases e1:peqI a.x a.y b.x b.y with
 | true=>rw [show meetS a b c d=0 by unfold meetS;rw [jA0 n_ha,jA0 n_hb,jA0 n_hc,jA0 n_hd,jAc e1]];exact meet_e1 a b c d ha hb hc hd e1 w
 | false=>
 have n_e1:¬ peqI a.x a.y b.x b.y=true:=by rw [e1];simp
 cases e2:peqI c.x c.y d.x d.y with
 | true=>rw [show meetS a b c d=0 by unfold meetS;rw [jA0 n_ha,jA0 n_hb,jA0 n_hc,jA0 n_hd,jA0 n_e1,jAc e2]];exact meet_e2 a b c d ha hb hc hd e1 e2 w
 | false=>
 have n_e2:¬ peqI c.x c.y d.x d.y=true:=by rw [e2];simp
 by_cases z1:ori a b c=0
 ·by_cases z2:ori a b d=0
  ·rw [show meetS a b c d=mil a b c d by unfold meetS;rw [jA0 n_ha,jA0 n_hb,jA0 n_hc,jA0 n_hd,jA0 n_e1,jA0 n_e2,jAc ⟨z1,z2⟩]];exact meet_l a b c d ha hb hc hd e1 e2 z1 z2 w
  ·have nz:¬ (ori a b c=0∧ori a b d=0):=fun h=>z2 h.2;cases q1:peqI a.x a.y c.x c.y with
   | true=>rw [show meetS a b c d=0 by unfold meetS;rw [jA0 n_ha,jA0 n_hb,jA0 n_hc,jA0 n_hd,jA0 n_e1,jA0 n_e2,jA0 nz,jAc q1]];exact meet_z0 a b c d ha hb hc hd e1 e2 z1 z2 q1 w
   | false=>
   have k1:¬ peqI a.x a.y c.x c.y=true:=by rw [q1];simp
   cases q2:peqI a.x a.y d.x d.y with
   | true=>rw [show meetS a b c d=0 by unfold meetS;rw [jA0 n_ha,jA0 n_hb,jA0 n_hc,jA0 n_hd,jA0 n_e1,jA0 n_e2,jA0 nz,jA0 k1,jAc q2]];exact meet_z1 a b c d ha hb hc hd e1 e2 z1 z2 q1 q2 w
   | false=>
   have k2:¬ peqI a.x a.y d.x d.y=true:=by rw [q2];simp
   cases q3:peqI b.x b.y c.x c.y with
   | true=>rw [show meetS a b c d=0 by unfold meetS;rw [jA0 n_ha,jA0 n_hb,jA0 n_hc,jA0 n_hd,jA0 n_e1,jA0 n_e2,jA0 nz,jA0 k1,jA0 k2,jAc q3]];exact meet_z2 a b c d ha hb hc hd e1 e2 z1 z2 q1 q2 q3 w
   | false=>
   have k3:¬ peqI b.x b.y c.x c.y=true:=by rw [q3];simp
   cases q4:peqI b.x b.y d.x d.y with
   | true=>rw [show meetS a b c d=0 by unfold meetS;rw [jA0 n_ha,jA0 n_hb,jA0 n_hc,jA0 n_hd,jA0 n_e1,jA0 n_e2,jA0 nz,jA0 k1,jA0 k2,jA0 k3,jAc q4]];exact meet_z3 a b c d ha hb hc hd e1 e2 z1 z2 q1 q2 q3 q4 w
   | false=>
   have k4:¬ peqI b.x b.y d.x d.y=true:=by rw [q4];simp
   rw [show meetS a b c d=fin (ori c d a) (ori c d b) (ori a b c) (ori a b d) by unfold meetS;rw [jA0 n_ha,jA0 n_hb,jA0 n_hc,jA0 n_hd,jA0 n_e1,jA0 n_e2,jA0 nz,jA0 k1,jA0 k2,jA0 k3,jA0 k4]];rw [z1];exact meet_z4 a b c d ha hb hc hd e1 e2 z1 z2 q1 q2 q3 q4 w
 ·have nz:¬ (ori a b c=0∧ori a b d=0):=fun h=>z1 h.1;cases q1:peqI a.x a.y c.x c.y with
  | true=>rw [show meetS a b c d=0 by unfold meetS;rw [jA0 n_ha,jA0 n_hb,jA0 n_hc,jA0 n_hd,jA0 n_e1,jA0 n_e2,jA0 nz,jAc q1]];exact meet_n0 a b c d ha hb hc hd e1 e2 z1 q1 w
  | false=>
  have k1:¬ peqI a.x a.y c.x c.y=true:=by rw [q1];simp
  cases q2:peqI a.x a.y d.x d.y with
  | true=>rw [show meetS a b c d=0 by unfold meetS;rw [jA0 n_ha,jA0 n_hb,jA0 n_hc,jA0 n_hd,jA0 n_e1,jA0 n_e2,jA0 nz,jA0 k1,jAc q2]];exact meet_n1 a b c d ha hb hc hd e1 e2 z1 q1 q2 w
  | false=>
  have k2:¬ peqI a.x a.y d.x d.y=true:=by rw [q2];simp
  cases q3:peqI b.x b.y c.x c.y with
  | true=>rw [show meetS a b c d=0 by unfold meetS;rw [jA0 n_ha,jA0 n_hb,jA0 n_hc,jA0 n_hd,jA0 n_e1,jA0 n_e2,jA0 nz,jA0 k1,jA0 k2,jAc q3]];exact meet_n2 a b c d ha hb hc hd e1 e2 z1 q1 q2 q3 w
  | false=>
  have k3:¬ peqI b.x b.y c.x c.y=true:=by rw [q3];simp
  cases q4:peqI b.x b.y d.x d.y with
  | true=>rw [show meetS a b c d=0 by unfold meetS;rw [jA0 n_ha,jA0 n_hb,jA0 n_hc,jA0 n_hd,jA0 n_e1,jA0 n_e2,jA0 nz,jA0 k1,jA0 k2,jA0 k3,jAc q4]];exact meet_n3 a b c d ha hb hc hd e1 e2 z1 q1 q2 q3 q4 w
  | false=>
  have k4:¬ peqI b.x b.y d.x d.y=true:=by rw [q4];simp
  rw [show meetS a b c d=fin (ori c d a) (ori c d b) (ori a b c) (ori a b d) by unfold meetS;rw [jA0 n_ha,jA0 n_hb,jA0 n_hc,jA0 n_hd,jA0 n_e1,jA0 n_e2,jA0 nz,jA0 k1,jA0 k2,jA0 k3,jA0 k4]];exact meet_n4 a b c d ha hb hc hd e1 e2 z1 q1 q2 q3 q4 w
theorem zA0 (p:Pt) (w:World):Calls prog 58 #[p] w (Rt w (.bool (vld p))):=by
 have Hv:=hdd (show vld p=(inG p.x && inG p.y) from rfl)
 go_enter func58,ntmps58
 go_wp2;all_goals go_ret
 all_goals exact ⟨zB9 (by rw [Hv.out,jCs];simp [inG];omega),by go_grown⟩
theorem zAe (p q:Pt) (w:World):Calls prog 47 #[p,q] w (Rt w (.int .i64 (cmpP p q))):=by
 have H:Hid (∀ n:Int,(n = -1∧(p.x < q.x∨p.x=q.x∧p.y < q.y)∨n=0∧p.x=q.x∧p.y=q.y∨n=1∧(q.x < p.x∨p.x=q.x∧q.y < p.y))→n=cmpP p q):=hdd (fun n h=>by
  unfold cmpP cmpN sgn
  (repeat' split) <;> omega)
 rcases jD3 p.x q.x with h | h | h
 ·go_enter func47,ntmps47
  go_wp2
  go_ret
  exact ⟨zAp (H.out _ (by omega)),by go_grown⟩
 ·rcases jD3 p.y q.y with k | k | k
  all_goals have e1:(p.x == q.x)=true:=by simpa using h
  all_goals have e2:decide (p.x < q.x)=false:=by simp;omega
  ·have e3:decide (p.y < q.y)=true:=by simpa using k
   go_enter func47,ntmps47
   have h':=hdd h;clear h;go_wp2
   go_ret
   exact ⟨zAp (H.out _ (by have:=h'.out;omega)),by go_grown⟩
  ·have e3:decide (p.y < q.y)=false:=by simp;omega
   have e4:peqI p.x p.y q.x q.y=true:=by rw [zC9];exact ⟨h,k⟩
   have h':=hdd h;clear h;have k':=hdd k;clear k
   go_enter func47,ntmps47
   go_wp2
   go_ret
   exact ⟨zAp (H.out _ (by have:=h'.out;have:=k'.out;omega)),by go_grown⟩
  ·have e3:decide (p.y < q.y)=false:=by simp;omega
   have e4:peqI p.x p.y q.x q.y=false:=by rw [←jBl,zC9];omega
   have h':=hdd h;clear h
   go_enter func47,ntmps47
   go_wp2
   go_ret
   exact ⟨zAp (H.out _ (by have:=h'.out;omega)),by go_grown⟩
 ·have e1:(p.x == q.x)=false:=by simp;omega
  have e2:decide (p.x < q.x)=false:=by simp;omega
  have e4:peqI p.x p.y q.x q.y=false:=by rw [←jBl,zC9];omega
  go_enter func47,ntmps47
  go_wp2
  go_ret
  exact ⟨zAp (H.out _ (by omega)),by go_grown⟩
theorem zKa (n:Int) (w:World):Calls prog 64 #[n] w fun e w'=>e=.returned (.int .i64 (sgn n))∧w=w':=by
 go_enter func64,ntmps64
 go_wp2;all_goals go_ret
 all_goals exact ⟨zAp (by unfold sgn;(repeat' split) <;> omega),rfl⟩
theorem zEa (a b c:Pt) (ha:vld a=true) (hb:vld b=true) (hc:vld c=true) (w:World):Calls prog 93 #[a,b,c] w (Rt w (.int .i64 (det a b c))):=by
 have s1:=zE0 ha hb;have s2:=zE0 ha hc;have h1:=zBi s1.1 s2.2;have h2:=zBi s1.2 s2.1;have e:wrap64 (wrap64 (wrap64 (b.x - a.x) * wrap64 (c.y - a.y)) - wrap64 (wrap64 (b.y - a.y) * wrap64 (c.x - a.x)))=det a b c:=by
  rw [zAm] at ha hb hc;rw [show wrap64 (b.x - a.x)=(way a b).x by rw [w64];unfold way;simp only;omega,show wrap64 (c.y - a.y)=(way a c).y by rw [w64];unfold way;simp only;omega,show wrap64 (b.y - a.y)=(way a b).y by rw [w64];unfold way;simp only;omega,show wrap64 (c.x - a.x)=(way a c).x by rw [w64];unfold way;simp only;omega];show _=(way a b).x * (way a c).y - (way a b).y * (way a c).x;generalize (way a b).x * (way a c).y=p at *
  generalize (way a b).y * (way a c).x=q at *
  simp only [w64];omega
 have E:=hdd e;clear e h1 h2 s1 s2 ha hb hc
 go_enter func93,ntmps93
 go_wp2
 go_ret
 exact ⟨zAp (by simpa using E.out),by go_grown⟩
theorem rorient_0 (a b c:Pt) (ha:vld a=false) (w:World):Calls prog 57 #[a,b,c] w (Rt w (.int .i64 0)):=by
 have ca:=zA0 a;rw [ha] at ca;clear ha
 go_enter func57,ntmps57
 go_wp2_with fail;refine qE3 fun W1 Ba Bb Bc hw=>?_;refine qC3 (ca _) Ba Bb Bc hw fun w2 Ba Bb Bc hw F_abc=>?_;go_wp2
 go_ret
 exact ⟨rfl,hw⟩
theorem rorient_1 (a b c:Pt) (ha:vld a=true) (hb:vld b=false) (w:World):Calls prog 57 #[a,b,c] w (Rt w (.int .i64 0)):=by
 have ca:=zA0 a;rw [ha] at ca;have cb:=zA0 b;rw [hb] at cb;clear ha hb
 go_enter func57,ntmps57
 go_wp2_with fail;refine qE3 fun W1 Ba Bb Bc hw=>?_;refine qC3 (ca _) Ba Bb Bc hw fun w2 Ba Bb Bc hw F_abc=>?_;go_wp2_with fail;clear F_abc;refine qC3 (cb _) Ba Bb Bc hw fun w3 Ba Bb Bc hw F_abc=>?_;go_wp2
 go_ret
 exact ⟨rfl,hw⟩
theorem rorient_2 (a b c:Pt) (ha:vld a=true) (hb:vld b=true) (hc:vld c=false) (w:World):Calls prog 57 #[a,b,c] w (Rt w (.int .i64 0)):=by
 have ca:=zA0 a;rw [ha] at ca;have cb:=zA0 b;rw [hb] at cb;have cc:=zA0 c;rw [hc] at cc;clear ha hb hc
 go_enter func57,ntmps57
 go_wp2_with fail;refine qE3 fun W1 Ba Bb Bc hw=>?_;refine qC3 (ca _) Ba Bb Bc hw fun w2 Ba Bb Bc hw F_abc=>?_;go_wp2_with fail;clear F_abc;refine qC3 (cb _) Ba Bb Bc hw fun w3 Ba Bb Bc hw F_abc=>?_;go_wp2_with fail;clear F_abc;refine qC3 (cc _) Ba Bb Bc hw fun w4 Ba Bb Bc hw F_abc=>?_;go_wp2
 go_ret
 exact ⟨rfl,hw⟩
theorem rorient_3 (a b c:Pt) (ha:vld a=true) (hb:vld b=true) (hc:vld c=true) (w:World):Calls prog 57 #[a,b,c] w (Rt w (.int .i64 (sgn (det a b c)))):=by
 have ca:=zA0 a;rw [ha] at ca;have cb:=zA0 b;rw [hb] at cb;have cc:=zA0 c;rw [hc] at cc;have ct:=zEa a b c ha hb hc;generalize det a b c=D at *
 have cs:=zD8 (zKa D);clear ha hb hc
 go_enter func57,ntmps57
 go_wp2_with fail;refine qE3 fun W1 Ba Bb Bc hw=>?_;refine qC3 (ca _) Ba Bb Bc hw fun w2 Ba Bb Bc hw F_abc=>?_;go_wp2_with fail;clear F_abc;refine qC3 (cb _) Ba Bb Bc hw fun w3 Ba Bb Bc hw F_abc=>?_;go_wp2_with fail;clear F_abc;refine qC3 (cc _) Ba Bb Bc hw fun w4 Ba Bb Bc hw F_abc=>?_;go_wp2_with fail;clear F_abc;refine qC3 (ct _) Ba Bb Bc hw fun w5 Ba Bb Bc hw F_abc=>?_;go_wp2_with fail;clear F_abc;refine qC3 (cs _) Ba Bb Bc hw fun w6 Ba Bb Bc hw F_abc=>?_;go_wp2
 go_ret
 exact ⟨rfl,hw⟩
theorem zA3 (a b c:Pt) (w:World):Calls prog 57 #[a,b,c] w (Rt w (.int .i64 (ori a b c))):=by
 cases ha:vld a with
 | false=>rw [show ori a b c=0 by simp [ori,ha]];exact rorient_0 a b c ha w
 | true=>cases hb:vld b with
  | false=>rw [show ori a b c=0 by simp [ori,hb]];exact rorient_1 a b c ha hb w
  | true=>cases hc:vld c with
   | false=>rw [show ori a b c=0 by simp [ori,hc]];exact rorient_2 a b c ha hb hc w
   | true=>rw [show ori a b c=sgn (det a b c) by simp [ori,ha,hb,hc]];exact rorient_3 a b c ha hb hc w
def btw (n a b:Int):Bool:=decide (min a b≤n∧n≤max a b)
theorem zNa (n a b:Int) (w:World):Calls prog 170 #[n,a,b] w fun e w'=>e=.returned (.bool (btw n a b))∧w=w':=by
 go_enter func170,ntmps170
 go_wp2;all_goals go_ret
 all_goals exact ⟨zB9 (by unfold btw;rw [jCs];simp;omega),rfl⟩
def onR (p a b:Pt):Bool:=vld p && (vld a && (vld b && (decide (det a b p=0) && (btw p.x a.x b.x && btw p.y a.y b.y))))
theorem ron_0 (p a b:Pt) (hp:vld p=false) (w:World):Calls prog 144 #[p,a,b] w (Rt w (.bool false)):=by
 have cp:=zA0 p;rw [hp] at cp;clear hp
 go_enter func144,ntmps144
 go_wp2_with fail;refine qE3 fun W1 Bp Ba Bb hw=>?_;refine qC3 (cp _) Bp Ba Bb hw fun w2 Bp Ba Bb hw F_pab=>?_;go_wp2
 go_ret
 exact ⟨rfl,hw⟩
theorem ron_1 (p a b:Pt) (hp:vld p=true) (ha:vld a=false) (w:World):Calls prog 144 #[p,a,b] w (Rt w (.bool false)):=by
 have cp:=zA0 p;rw [hp] at cp;have ca:=zA0 a;rw [ha] at ca;clear hp ha
 go_enter func144,ntmps144
 go_wp2_with fail;refine qE3 fun W1 Bp Ba Bb hw=>?_;refine qC3 (cp _) Bp Ba Bb hw fun w2 Bp Ba Bb hw F_pab=>?_;go_wp2_with fail;clear F_pab;refine qC3 (ca _) Bp Ba Bb hw fun w3 Bp Ba Bb hw F_pab=>?_;go_wp2
 go_ret
 exact ⟨rfl,hw⟩
theorem ron_2 (p a b:Pt) (hp:vld p=true) (ha:vld a=true) (hb:vld b=false) (w:World):Calls prog 144 #[p,a,b] w (Rt w (.bool false)):=by
 have cp:=zA0 p;rw [hp] at cp;have ca:=zA0 a;rw [ha] at ca;have cb:=zA0 b;rw [hb] at cb;clear hp ha hb
 go_enter func144,ntmps144
 go_wp2_with fail;refine qE3 fun W1 Bp Ba Bb hw=>?_;refine qC3 (cp _) Bp Ba Bb hw fun w2 Bp Ba Bb hw F_pab=>?_;go_wp2_with fail;clear F_pab;refine qC3 (ca _) Bp Ba Bb hw fun w3 Bp Ba Bb hw F_pab=>?_;go_wp2_with fail;clear F_pab;refine qC3 (cb _) Bp Ba Bb hw fun w4 Bp Ba Bb hw F_pab=>?_;go_wp2
 go_ret
 exact ⟨rfl,hw⟩
theorem ron_3 (p a b:Pt) (hp:vld p=true) (ha:vld a=true) (hb:vld b=true) (h0:¬ det a b p=0) (w:World):Calls prog 144 #[p,a,b] w (Rt w (.bool false)):=by
 have cp:=zA0 p;rw [hp] at cp;have ca:=zA0 a;rw [ha] at ca;have cb:=zA0 b;rw [hb] at cb;have ct:=zEa a b p ha hb hp;clear ha hb hp;generalize det a b p=D at *
 have t0:(D == 0)=false:=by simpa using h0
 clear h0
 go_enter func144,ntmps144
 go_wp2_with fail;refine qE3 fun W1 Bp Ba Bb hw=>?_;refine qC3 (cp _) Bp Ba Bb hw fun w2 Bp Ba Bb hw F_pab=>?_;go_wp2_with fail;clear F_pab;refine qC3 (ca _) Bp Ba Bb hw fun w3 Bp Ba Bb hw F_pab=>?_;go_wp2_with fail;clear F_pab;refine qC3 (cb _) Bp Ba Bb hw fun w4 Bp Ba Bb hw F_pab=>?_;go_wp2_with fail;clear F_pab;refine qC3 (ct _) Bp Ba Bb hw fun w5 Bp Ba Bb hw F_pab=>?_;go_wp2
 go_ret
 exact ⟨rfl,hw⟩
theorem ron_4 (p a b:Pt) (hp:vld p=true) (ha:vld a=true) (hb:vld b=true) (h0:det a b p=0) (h1:btw p.x a.x b.x=false) (w:World):Calls prog 144 #[p,a,b] w (Rt w (.bool false)):=by
 have cp:=zA0 p;rw [hp] at cp;have ca:=zA0 a;rw [ha] at ca;have cb:=zA0 b;rw [hb] at cb;have ct:=zEa a b p ha hb hp;clear ha hb hp;rw [h0] at ct;clear h0;have k1:=zD8 (zNa p.x a.x b.x);rw [h1] at k1;clear h1
 go_enter func144,ntmps144
 go_wp2_with fail;refine qE3 fun W1 Bp Ba Bb hw=>?_;refine qC3 (cp _) Bp Ba Bb hw fun w2 Bp Ba Bb hw F_pab=>?_;go_wp2_with fail;clear F_pab;refine qC3 (ca _) Bp Ba Bb hw fun w3 Bp Ba Bb hw F_pab=>?_;go_wp2_with fail;clear F_pab;refine qC3 (cb _) Bp Ba Bb hw fun w4 Bp Ba Bb hw F_pab=>?_;go_wp2_with fail;clear F_pab;refine qC3 (ct _) Bp Ba Bb hw fun w5 Bp Ba Bb hw F_pab=>?_;go_wp2_with fail;clear F_pab;refine qC3 (k1 _) Bp Ba Bb hw fun w6 Bp Ba Bb hw F_pab=>?_;go_wp2
 go_ret
 exact ⟨rfl,hw⟩
theorem ron_5 (p a b:Pt) (hp:vld p=true) (ha:vld a=true) (hb:vld b=true) (h0:det a b p=0) (h1:btw p.x a.x b.x=true) (w:World):Calls prog 144 #[p,a,b] w (Rt w (.bool (btw p.y a.y b.y))):=by
 have cp:=zA0 p;rw [hp] at cp;have ca:=zA0 a;rw [ha] at ca;have cb:=zA0 b;rw [hb] at cb;have ct:=zEa a b p ha hb hp;clear ha hb hp;rw [h0] at ct;clear h0;have k1:=zD8 (zNa p.x a.x b.x);rw [h1] at k1;clear h1;have k2:=zD8 (zNa p.y a.y b.y);generalize btw p.y a.y b.y=B at *
 go_enter func144,ntmps144
 go_wp2_with fail;refine qE3 fun W1 Bp Ba Bb hw=>?_;refine qC3 (cp _) Bp Ba Bb hw fun w2 Bp Ba Bb hw F_pab=>?_;go_wp2_with fail;clear F_pab;refine qC3 (ca _) Bp Ba Bb hw fun w3 Bp Ba Bb hw F_pab=>?_;go_wp2_with fail;clear F_pab;refine qC3 (cb _) Bp Ba Bb hw fun w4 Bp Ba Bb hw F_pab=>?_;go_wp2_with fail;clear F_pab;refine qC3 (ct _) Bp Ba Bb hw fun w5 Bp Ba Bb hw F_pab=>?_;go_wp2_with fail;clear F_pab;refine qC3 (k1 _) Bp Ba Bb hw fun w6 Bp Ba Bb hw F_pab=>?_;go_wp2_with fail;clear F_pab;refine qC3 (k2 _) Bp Ba Bb hw fun w7 Bp Ba Bb hw F_pab=>?_;go_wp2
 go_ret
 exact ⟨rfl,hw⟩
theorem zGz (p a b:Pt) (w:World):Calls prog 144 #[p,a,b] w (Rt w (.bool (onR p a b))):=by
 cases hp:vld p with
 | false=>rw [show onR p a b=false by unfold onR;rw [hp];rfl];exact ron_0 p a b hp w
 | true=>cases ha:vld a with
  | false=>rw [show onR p a b=false by unfold onR;rw [hp,ha];rfl];exact ron_1 p a b hp ha w
  | true=>cases hb:vld b with
   | false=>rw [show onR p a b=false by unfold onR;rw [hp,ha,hb];rfl];exact ron_2 p a b hp ha hb w
   | true=>
    by_cases h0:det a b p=0
    ·cases h1:btw p.x a.x b.x with
     | false=>rw [show onR p a b=false by unfold onR;rw [hp,ha,hb,h0,h1];rfl];exact ron_4 p a b hp ha hb h0 h1 w
     | true=>rw [show onR p a b=btw p.y a.y b.y by unfold onR;rw [hp,ha,hb,h0,h1];rfl];exact ron_5 p a b hp ha hb h0 h1 w
    ·rw [show onR p a b=false by unfold onR;rw [hp,ha,hb];simp [h0]];exact ron_3 p a b hp ha hb h0 w
def rl (p q:Pt):Pt:=if cmpP p q < 0 then p else q
theorem rl_0 (p q:Pt) (h:decide (cmpP p q < 0)=false) (w:World):Calls prog 101 #[p,q] w (Rt w (.agg #[q.x,q.y])):=by
 have c:=zAe p q;generalize cmpP p q=n at *
 go_enter func101,ntmps101
 go_wp2_with fail;refine qE3 fun W1 Bp Bq Br hw=>?_;refine qK3 (c _) Bp Bq Br hw fun w2 Bp Bq Br hw=>?_;have Fp:=Bp.f;have Fq:=Bq.f;have Fr:=Br.f;go_wp2_with fail;refine bodyPost_ret (v:=.agg #[q.x,q.y]) (by simp [results,results101,go_sem,Fr]) rfl ⟨rfl,by have hl:=hw.size;go_grown⟩
theorem rl_1 (p q:Pt) (h:decide (cmpP p q < 0)=true) (w:World):Calls prog 101 #[p,q] w (Rt w (.agg #[p.x,p.y])):=by
 have c:=zAe p q;generalize cmpP p q=n at *
 go_enter func101,ntmps101
 go_wp2_with fail;refine qE3 fun W1 Bp Bq Br hw=>?_;refine qK3 (c _) Bp Bq Br hw fun w2 Bp Bq Br hw=>?_;have Fp:=Bp.f;have Fq:=Bq.f;have Fr:=Br.f;go_wp2_with fail;refine bodyPost_ret (v:=.agg #[p.x,p.y]) (by simp [results,results101,go_sem,Fr]) rfl ⟨rfl,by have hl:=hw.size;go_grown⟩
theorem zGr (p q:Pt) (w:World):Calls prog 101 #[p,q] w (Rt w (.agg #[.int .i64 (rl p q).x,.int .i64 (rl p q).y])):=by
 by_cases h:cmpP p q < 0
 ·rw [show rl p q=p by unfold rl;rw [jAc h]];exact rl_1 p q (by simpa using h) w
 ·rw [show rl p q=q by unfold rl;rw [jA0 h]];exact rl_0 p q (by simpa using h) w
def rg (p q:Pt):Pt:=if cmpP p q < 0 then q else p
theorem rg_0 (p q:Pt) (h:decide (cmpP p q < 0)=false) (w:World):Calls prog 102 #[p,q] w (Rt w (.agg #[p.x,p.y])):=by
 have c:=zAe p q;generalize cmpP p q=n at *
 go_enter func102,ntmps102
 go_wp2_with fail;refine qE3 fun W1 Bp Bq Br hw=>?_;refine qK3 (c _) Bp Bq Br hw fun w2 Bp Bq Br hw=>?_;have Fp:=Bp.f;have Fq:=Bq.f;have Fr:=Br.f;go_wp2_with fail;refine bodyPost_ret (v:=.agg #[p.x,p.y]) (by simp [results,results102,go_sem,Fr]) rfl ⟨rfl,by have hl:=hw.size;go_grown⟩
theorem rg_1 (p q:Pt) (h:decide (cmpP p q < 0)=true) (w:World):Calls prog 102 #[p,q] w (Rt w (.agg #[q.x,q.y])):=by
 have c:=zAe p q;generalize cmpP p q=n at *
 go_enter func102,ntmps102
 go_wp2_with fail;refine qE3 fun W1 Bp Bq Br hw=>?_;refine qK3 (c _) Bp Bq Br hw fun w2 Bp Bq Br hw=>?_;have Fp:=Bp.f;have Fq:=Bq.f;have Fr:=Br.f;go_wp2_with fail;refine bodyPost_ret (v:=.agg #[q.x,q.y]) (by simp [results,results102,go_sem,Fr]) rfl ⟨rfl,by have hl:=hw.size;go_grown⟩
theorem zGs (p q:Pt) (w:World):Calls prog 102 #[p,q] w (Rt w (.agg #[.int .i64 (rg p q).x,.int .i64 (rg p q).y])):=by
 by_cases h:cmpP p q < 0
 ·rw [show rg p q=q by unfold rg;rw [jAc h]];exact rg_1 p q (by simpa using h) w
 ·rw [show rg p q=p by unfold rg;rw [jA0 h]];exact rg_0 p q (by simpa using h) w
def tch (p a b:Pt):Int:=if onR p a b=false then 0 else if peqI p.x p.y a.x a.y=true then 0 else if peqI p.x p.y b.x b.y=true then 0 else 2
theorem tch_0 (p a b:Pt) (h:onR p a b=false) (w:World):Calls prog 171 #[p,a,b] w (Rt w (.int .i64 0)):=by
 have c:=zGz p a b;rw [h] at c;clear h
 go_enter func171,ntmps171
 go_wp2_with fail;refine qE3 fun W1 Bp Ba Bb hw=>?_;refine qC3 (c _) Bp Ba Bb hw fun w2 Bp Ba Bb hw F_pab=>?_;go_wp2
 go_ret
 exact ⟨rfl,hw⟩
theorem tch_1 (p a b:Pt) (h:onR p a b=true) (e1:peqI p.x p.y a.x a.y=true) (w:World):Calls prog 171 #[p,a,b] w (Rt w (.int .i64 0)):=by
 have c:=zGz p a b;rw [h] at c;clear h
 go_enter func171,ntmps171
 go_wp2_with fail;refine qE3 fun W1 Bp Ba Bb hw=>?_;refine qC3 (c _) Bp Ba Bb hw fun w2 Bp Ba Bb hw F_pab=>?_;go_wp2
 go_ret
 exact ⟨rfl,hw⟩
theorem tch_2 (p a b:Pt) (h:onR p a b=true) (e1:peqI p.x p.y a.x a.y=false) (e2:peqI p.x p.y b.x b.y=true) (w:World):Calls prog 171 #[p,a,b] w (Rt w (.int .i64 0)):=by
 have c:=zGz p a b;rw [h] at c;clear h
 go_enter func171,ntmps171
 go_wp2_with fail;refine qE3 fun W1 Bp Ba Bb hw=>?_;refine qC3 (c _) Bp Ba Bb hw fun w2 Bp Ba Bb hw F_pab=>?_;go_wp2
 go_ret
 exact ⟨rfl,hw⟩
theorem tch_3 (p a b:Pt) (h:onR p a b=true) (e1:peqI p.x p.y a.x a.y=false) (e2:peqI p.x p.y b.x b.y=false) (w:World):Calls prog 171 #[p,a,b] w (Rt w (.int .i64 2)):=by
 have c:=zGz p a b;rw [h] at c;clear h
 go_enter func171,ntmps171
 go_wp2_with fail;refine qE3 fun W1 Bp Ba Bb hw=>?_;refine qC3 (c _) Bp Ba Bb hw fun w2 Bp Ba Bb hw F_pab=>?_;go_wp2
 go_ret
 exact ⟨rfl,hw⟩
theorem zD3 (p a b:Pt) (w:World):Calls prog 171 #[p,a,b] w (Rt w (.int .i64 (tch p a b))):=by
 cases h:onR p a b with
 | false=>rw [show tch p a b=0 by unfold tch;rw [jAc h]];exact tch_0 p a b h w
 | true=>
  cases e1:peqI p.x p.y a.x a.y with
  | true=>rw [show tch p a b=0 by unfold tch;simp [h,e1]];exact tch_1 p a b h e1 w
  | false=>cases e2:peqI p.x p.y b.x b.y with
   | true=>rw [show tch p a b=0 by unfold tch;simp [h,e1,e2]];exact tch_2 p a b h e1 e2 w
   | false=>rw [show tch p a b=2 by unfold tch;simp [h,e1,e2]];exact tch_3 p a b h e1 e2 w
end
section
open Go.RowKit
theorem zC8 (n:Int):sgn (-n) = -sgn n:=by unfold sgn;(repeat' split) <;> omega
theorem sgn_n {n:Int} (h:n < 0):sgn n = -1:=by unfold sgn;rw [jAc h]
theorem sgn_p {n:Int} (h:0 < n):sgn n=1:=by unfold sgn;rw [jA0 (by omega),jAc h]
theorem zNw (a b:Int):sgn (a * b)=sgn a * sgn b:=by
 rcases jD3 a 0 with ha | ha | ha <;> rcases jD3 b 0 with hb | hb | hb
 ·rw [sgn_n ha,sgn_n hb,sgn_p (jCt ha hb)];rfl
 ·subst hb;simp [sgn]
 ·rw [sgn_n ha,sgn_p hb,sgn_n (jEc ha hb)];rfl
 ·subst ha;simp [sgn]
 ·subst ha;simp [sgn]
 ·subst ha;simp [sgn]
 ·rw [sgn_p ha,sgn_n hb,sgn_n (jBp ha hb)];rfl
 ·subst hb;simp [sgn]
 ·rw [sgn_p ha,sgn_p hb,sgn_p (jAf ha hb)];rfl
theorem zBk {n:Int}:sgn n=0↔n=0:=by unfold sgn;(repeat' split) <;> omega
theorem sgn_pos {n:Int}:sgn n=1↔0 < n:=by unfold sgn;(repeat' split) <;> omega
theorem zA8 (n:Int):sgn n = -1∧n < 0∨sgn n=0∧n=0∨sgn n=1∧0 < n:=by unfold sgn;(repeat' split) <;> omega
theorem ori_v {a b c:Pt} (ha:vld a=true) (hb:vld b=true) (hc:vld c=true):ori a b c=sgn (det a b c):=by unfold ori;rw [jAc ⟨ha,hb,hc⟩]
theorem zAh (a b c:Pt):det b c a=det a b c:=by unfold det;grind
theorem zAd (a b c:Pt):det b a c = -det a b c:=by unfold det;grind
theorem zBn (a b c:Pt):ori b c a=ori a b c:=by
 unfold ori;rw [zAh];by_cases h:vld a=true∧vld b=true∧vld c=true
 ·rw [jAc h,jAc ⟨h.2.1,h.2.2,h.1⟩]
 ·rw [jA0 h,jA0 (fun k=>h ⟨k.2.2,k.1,k.2.1⟩)]
theorem zDe (a b c:Pt):ori b a c = -ori a b c:=by
 unfold ori;rw [zAd,zC8];by_cases h:vld a=true∧vld b=true∧vld c=true
 ·rw [jAc h,jAc ⟨h.2.1,h.1,h.2.2⟩]
 ·rw [jA0 h,jA0 (fun k=>h ⟨k.2.1,k.1,k.2.2⟩)];rfl
theorem zEe (a b c:Pt):ori a c b = -ori a b c:=by
 rw [←zBn a c b,zDe b c a,zBn a b c]
theorem zGc (a b c d:Pt):lft b c a d=lft a b c d:=by unfold lft;omega
theorem lft_swap (a b c d:Pt):lft b a c d = -lft a b c d:=by unfold lft ht cr;grind
theorem lft_last (a b c d:Pt):lft a b d c = -lft a b c d:=by unfold lft ht cr way;grind
def key (p:Pt):Int:=p.x * 16777216+p.y
theorem zCd {p q:Pt} (hp:vld p=true) (hq:vld q=true):cmpP p q=sgn (key p - key q):=by
 rw [zAm] at hp hq;unfold cmpP cmpN key;unfold sgn
 (repeat' split) <;> omega
theorem zBo {p q:Pt} (hp:vld p=true) (hq:vld q=true) (h:key p=key q):p=q:=by
 rw [zAm] at hp hq;rw [Pt.eq_iff];unfold key at h;omega
theorem zD5 {p m:Pt} (hp:vld p=true) (hm:vld m=true):vld (lsr p m)=true:=by unfold lsr;split <;> assumption
theorem zHa {p m:Pt} (hp:vld p=true) (hm:vld m=true):key (lsr p m)=min (key p) (key m):=by
 unfold lsr;rw [zCd hp hm];have:=zA8 (key p - key m);split <;> omega
theorem zEd {p q:Pt}:peqI p.x p.y q.x q.y=true↔p=q:=by rw [zC9,Pt.eq_iff]
theorem zBr {p q:Pt}:peqI p.x p.y q.x q.y=false↔p≠q:=by rw [←jBl,zEd]
theorem pp {p q:Pt} (h:p=q):peqI p.x p.y q.x q.y=true:=zEd.2 h
theorem np {p q:Pt} (h:¬ p=q):¬ peqI p.x p.y q.x q.y=true:=fun k=>h (zEd.1 k)
theorem zOw (p m:Pt):lsr p m=p∨lsr p m=m:=by unfold lsr;split <;> simp
theorem zMd (a b c d:Pt):min4 a b c d=a∨min4 a b c d=b∨min4 a b c d=c∨min4 a b c d=d:=by
 unfold min4;rcases zOw d (lsr c (lsr b a)) with h | h <;> rw [h]
 ·simp
 rcases zOw c (lsr b a) with h | h <;> rw [h]
 ·simp
 rcases zOw b a with h | h <;> rw [h] <;> simp
section
variable {a b c d:Pt} (ha:vld a=true) (hb:vld b=true) (hc:vld c=true) (hd:vld d=true)
include ha hb hc hd
theorem zE3:vld (min4 a b c d)=true:=zD5 hd (zD5 hc (zD5 hb ha))
theorem zDg:key (min4 a b c d)=min (key d) (min (key c) (min (key b) (key a))):=by
 unfold min4;rw [zHa hd (zD5 hc (zD5 hb ha)),zHa hc (zD5 hb ha),zHa hb ha]
theorem min4_r:lsr c (lsr b (lsr a d))=min4 a b c d:=by
 refine zBo (zD5 hc (zD5 hb (zD5 ha hd))) (zE3 ha hb hc hd) ?_;rw [zDg ha hb hc hd,zHa hc (zD5 hb (zD5 ha hd)),zHa hb (zD5 ha hd),zHa ha hd];omega
theorem min4_swap:min4 b a c d=min4 a b c d:=by
 refine zBo (zE3 hb ha hc hd) (zE3 ha hb hc hd) ?_;rw [zDg ha hb hc hd,zDg hb ha hc hd];omega
theorem min4_cyc:min4 b c a d=min4 a b c d:=by
 refine zBo (zE3 hb hc ha hd) (zE3 ha hb hc hd) ?_;rw [zDg ha hb hc hd,zDg hb hc ha hd];omega
theorem min4_last:min4 a b d c=min4 a b c d:=by
 refine zBo (zE3 ha hb hd hc) (zE3 ha hb hc hd) ?_;rw [zDg ha hb hc hd,zDg ha hb hd hc];omega
end
theorem zBv {a b c d:Pt} (h0:¬ ori a b c=0) (hv:vld d=true) (e1:d≠a) (e2:d≠b) (e3:d≠c):circ a b c d=if ¬ sgn (lft a b c d)=0 then sgn (lft a b c d) else tie a b c d (min4 a b c d) (ori a b c):=by
 unfold circ;rw [jA0 h0,jA0 (by rw [hv];simp),jA0 (np e1),jA0 (np e2),jA0 (np e3)]
theorem zAg {a b c d:Pt} (h:ori a b c=0∨vld d=false∨d=a∨d=b∨d=c):circ a b c d=0:=by
 unfold circ;rcases h with h | h | h | h | h
 ·rw [jAc h]
 ·simp [h]
 all_goals (have k:=pp h;simp [k])
theorem zBm {a b c:Pt} (h:¬ ori a b c=0):b≠a∧c≠a∧c≠b:=by
 refine ⟨?_,?_,?_⟩;all_goals (rintro rfl;apply h;unfold ori;split)
 all_goals first | rfl | (rw [zBk];unfold det;grind)
theorem tie_swap {a b c d m:Pt} {o:Int} (n1:b≠a):tie b a c d m (-o) = -tie a b c d m o:=by
 unfold tie;by_cases h1:m=d
 ·rw [jAc (pp h1),jAc (pp h1)]
 rw [jA0 (np h1),jA0 (np h1)];by_cases h2:m=a
 ·have h3:¬ m=b:=by rw [h2];exact n1.symm
  rw [jA0 (np h3),jAc (pp h2),jAc (pp h2)];rw [zDe d b c]
 ·rw [jA0 (np h2) (c:=peqI m.x m.y a.x a.y=true) (e:=if peqI m.x m.y b.x b.y=true then -ori a d c else -ori a b d)];by_cases h3:m=b
  ·rw [jAc (pp h3),jAc (pp h3),zDe a d c]
  ·rw [jA0 (np h3),jA0 (np h2),jA0 (np h3),zDe a b d]
theorem tie_cyc {a b c d m:Pt} {o:Int} (hm:m=a∨m=b∨m=c∨m=d) (n1:b≠a) (n2:c≠a) (n3:c≠b):tie b c a d m o=tie a b c d m o:=by
 unfold tie;by_cases h1:m=d
 ·rw [jAc (pp h1),jAc (pp h1)]
 rw [jA0 (np h1),jA0 (np h1)];rcases hm with h | h | h | h
 ·subst h;rw [jA0 (np n1.symm),jA0 (np n2.symm),jAc (pp rfl)];rw [←zBn d b c]
 ·subst h;rw [jAc (pp rfl),jA0 (np n1),jAc (pp rfl)];rw [zBn a d c]
 ·subst h;rw [jA0 (np n3),jAc (pp rfl),jA0 (np n2),jA0 (np n3)];rw [zBn a b d]
 ·exact absurd h h1
theorem zIa (a b c d:Pt):circ b a c d = -circ a b c d:=by
 by_cases h0:ori a b c=0
 ·rw [zAg (.inl h0),zAg (.inl (by rw [zDe,h0];rfl))];rfl
 cases hv:vld d with
 | false=>rw [zAg (.inr (.inl hv)),zAg (.inr (.inl hv))];rfl
 | true=>
 by_cases e1:d=a
 ·rw [zAg (.inr (.inr (.inl e1))),zAg (.inr (.inr (.inr (.inl e1))))];rfl
 by_cases e2:d=b
 ·rw [zAg (.inr (.inr (.inl e2))),zAg (.inr (.inr (.inr (.inl e2))))];rfl
 by_cases e3:d=c
 ·rw [zAg (.inr (.inr (.inr (.inr e3)))),zAg (.inr (.inr (.inr (.inr e3))))];rfl
 obtain ⟨va,vb,vc⟩:=zBy h0;obtain ⟨n1,n2,n3⟩:=zBm h0;rw [zBv h0 hv e1 e2 e3,zBv (by rw [zDe];omega) hv e2 e1 e3,lft_swap,zC8,min4_swap va vb vc hv,zDe,tie_swap n1];split <;> split <;> omega
theorem zIb (a b c d:Pt):circ b c a d=circ a b c d:=by
 by_cases h0:ori a b c=0
 ·rw [zAg (.inl h0),zAg (.inl (by rw [zBn,h0]))]
 cases hv:vld d with
 | false=>rw [zAg (.inr (.inl hv)),zAg (.inr (.inl hv))]
 | true=>
 by_cases e1:d=a
 ·rw [zAg (.inr (.inr (.inl e1))),zAg (.inr (.inr (.inr (.inr e1))))]
 by_cases e2:d=b
 ·rw [zAg (.inr (.inr (.inl e2))),zAg (.inr (.inr (.inr (.inl e2))))]
 by_cases e3:d=c
 ·rw [zAg (.inr (.inr (.inr (.inl e3)))),zAg (.inr (.inr (.inr (.inr e3))))]
 obtain ⟨va,vb,vc⟩:=zBy h0;obtain ⟨n1,n2,n3⟩:=zBm h0;rw [zBv h0 hv e1 e2 e3,zBv (by rw [zBn];omega) hv e2 e3 e1,zGc,min4_cyc va vb vc hv,zBn,tie_cyc (zMd a b c d) n1 n2 n3]
theorem zF2 {a b c d:Pt} (hl:lft a b c d=0) (h0:det a b c≠0) (e2:d≠b) (e3:d≠c):det d b c≠0:=by
 intro hd;have e0:det a b c=cr (way d b) (way d c)+cr (way d c) (way d a)+cr (way d a) (way d b):=by unfold det cr way;grind
 have ed:det d b c=cr (way d b) (way d c):=by unfold det cr way;grind
 have n2:way d b≠⟨0,0⟩:=fun h=>e2 (by rw [Pt.eq_iff] at h ⊢;unfold way at h;simp only at h;omega);have n3:way d c≠⟨0,0⟩:=fun h=>e3 (by rw [Pt.eq_iff] at h ⊢;unfold way at h;simp only at h;omega);rw [ed] at hd;rw [e0] at h0;unfold lft at hl;generalize way d a=u at *
 generalize way d b=v at *
 generalize way d c=z at *
 have i1:ht u * cr v z+ht v * cr z u+ht z * cr u v=ht u * cr v z+(v.x * z.x+v.y * z.y) * (cr v u+cr u z) - cr v z * (v.x * u.x+v.y * u.y+z.x * u.x+z.y * u.y):=by unfold ht cr;grind
 have i2:cr v u+cr u z = -(cr z u+cr u v):=by unfold cr;grind
 have i3:ht v * ht z=(v.x * z.x+v.y * z.y) * (v.x * z.x+v.y * z.y)+cr v z * cr v z:=by unfold ht cr;grind
 rw [hl,i2,hd] at i1;simp only [jAy,jB1,jE4,jCi] at i1;have h1:(v.x * z.x+v.y * z.y)=0:=by
  rcases jA7.1 i1.symm with h | h
  ·exact h
  ·exfalso;apply h0;omega
 rw [h1,hd] at i3;simp only [jAy,jE4] at i3;have key0:∀ p:Pt,ht p=0→p=⟨0,0⟩:=fun p hp=>by
  have a1:=zD7 p.x;have a2:=zD7 p.y;unfold ht at hp;have b1:p.x * p.x=0:=by omega
  have b2:p.y * p.y=0:=by omega
  rw [Pt.eq_iff];exact ⟨by rcases jA7.1 b1 with h | h <;> exact h,by rcases jA7.1 b2 with h | h <;> exact h⟩
 rcases jA7.1 i3 with h | h
 ·exact n2 (key0 v h)
 ·exact n3 (key0 z h)
theorem circ_sign {a b c d:Pt} (h0:¬ ori a b c=0) (hv:vld d=true) (e1:d≠a) (e2:d≠b) (e3:d≠c):circ a b c d=1∨circ a b c d = -1:=by
 rw [zBv h0 hv e1 e2 e3];obtain ⟨va,vb,vc⟩:=zBy h0;have o3:∀ p q r:Pt,vld p=true→vld q=true→vld r=true→det p q r≠0→ori p q r=1∨ori p q r = -1:=fun p q r hp hq hr h=>by
  rw [ori_v hp hq hr];have:=zA8 (det p q r);omega
 have hdet:det a b c≠0:=fun h=>h0 (by rw [ori_v va vb vc,h];rfl);split
 ·rename_i h;have:=zA8 (lft a b c d);omega
 ·rename_i h
  have hl:lft a b c d=0:=by rw [←zBk];omega
  unfold tie;split
  ·exact o3 _ _ _ va vb vc hdet
  split
  ·have:=o3 d b c hv vb vc (zF2 hl hdet e2 e3);omega
  split
  ·have h3:=zF2 (a:=b) (b:=c) (c:=a) (d:=d) (by rw [zGc];exact hl) (by rw [zAh];exact hdet) e3 e1;have:=o3 a d c va hv vc (by rw [←zAh a d c];exact h3);omega
  ·have h3:=zF2 (a:=c) (b:=a) (c:=b) (d:=d) (by rw [zGc b c a,zGc];exact hl) (by rw [zAh b c a,zAh];exact hdet) e1 e2;have:=o3 a b d va vb hv (by rw [←zAh a b d,←zAh b d a];exact h3);omega
theorem zLf {a b c d:Pt} (h0:¬ ori a b c=0) (h1:¬ ori a b d=0) (e:d≠c):circ a b d c = -circ a b c d:=by
 obtain ⟨va,vb,vc⟩:=zBy h0;obtain ⟨_,_,vd⟩:=zBy h1;obtain ⟨n1,n2,n3⟩:=zBm h0;obtain ⟨_,k2,k3⟩:=zBm h1;rw [zBv h0 vd k2 k3 e,zBv h1 vc n2 n3 e.symm,lft_last,zC8,min4_last va vb vc vd];by_cases hs:sgn (lft a b c d)=0
 ·rw [jA0 (by omega),jA0 (by omega)];unfold tie;rcases zMd a b c d with h | h | h | h <;> rw [h]
  ·rw [jA0 (np n2.symm),jAc (pp rfl),jA0 (np k2.symm),jAc (pp rfl),zDe b c d,zBn d b c]
  ·rw [jA0 (np n3.symm),jA0 (np n1),jAc (pp rfl),jA0 (np k3.symm),jA0 (np n1),jAc (pp rfl),zEe]
  ·rw [jAc (pp rfl),jA0 (np e.symm),jA0 (np n2),jA0 (np n3)];omega
  ·rw [jA0 (np e),jA0 (np k2),jA0 (np k3),jAc (pp rfl)]
 ·rw [jAc (by omega),jAc hs]
end
end Go.Proofs.YtogffkimgmlilaaGreat
