/- Put together: MesU, TrC. -/
import Derived.Test.YtogffkimgmlilaaGreatPfb11
set_option maxRecDepth 100000
set_option maxHeartbeats 8000000
set_option linter.all false
namespace Go.Proofs.YtogffkimgmlilaaGreat
open Go.RowKit Go.Sort _root_.Go.Proofs.Tryz
section
attribute [local go_sem] rOper rAt rUpon cell_set sg_i64 sg_u64 alloc_cell alloc_frozen
attribute [local go_sem 10000] pt_eql pt_neq tri_eql
attribute [local irreducible] rWalk
def apx (T:Tri3) (a b:Pt):Pt:=if peqI T.A.x T.A.y a.x a.y=false∧peqI T.A.x T.A.y b.x b.y=false then T.A else if peqI T.B.x T.B.y a.x a.y=false∧peqI T.B.x T.B.y b.x b.y=false then T.B else T.C
theorem cor_0 (T:Tri3) (w:World):Calls prog 115 #[T,()] w (Rt w (.agg #[T.A.x,T.A.y])):=zEr T 0 w
theorem cor_1 (T:Tri3) (w:World):Calls prog 115 #[T,.int .i64 1] w (Rt w (.agg #[T.B.x,T.B.y])):=zEr T 1 w
theorem apex_0 (T:Tri3) (a b:Pt) (ha0:peqI T.A.x T.A.y a.x a.y=false) (hb0:peqI T.A.x T.A.y b.x b.y=false) (w:World):Calls prog 116 #[T,a,b] w (Rt w (.agg #[T.A.x,T.A.y])):=by
 have cc0:=cor_0 T
 go_enter func116,ntmps116
 go_wp2_with fail;refine qD4 fun W1 Bt Ba Bb Br hw=>?_;refine wp_loop_rounds 4 ?_;try rw [rounds_succ]
 obtain ⟨xt,yt,zt,vt⟩:=Bt.f;obtain ⟨xa,ya,za,va⟩:=Ba.f;obtain ⟨xb,yb,zb,vb⟩:=Bb.f;obtain ⟨xr,yr,zr,vr⟩:=Br.f;go_wp2_with fail;clear xt yt zt vt xa ya za va xb yb zb vb xr yr zr vr;refine qK4 (cc0 _) Bt Ba Bb Br hw fun w2 Bt Ba Bb Br hw=>?_;obtain ⟨xt,yt,zt,vt⟩:=Bt.f;obtain ⟨xa,ya,za,va⟩:=Ba.f;obtain ⟨xb,yb,zb,vb⟩:=Bb.f;obtain ⟨xr,yr,zr,vr⟩:=Br.f;go_wp2_with fail;refine bodyPost_ret (v:=.agg #[T.A.x,T.A.y]) (by simp [results,results116,go_sem,xr,zr]) rfl ⟨rfl,by have hl:=hw.size;go_grown⟩
theorem apex_10 (T:Tri3) (a b:Pt) (ha0:peqI T.A.x T.A.y a.x a.y=true) (ha1:peqI T.B.x T.B.y a.x a.y=false) (hb1:peqI T.B.x T.B.y b.x b.y=false) (w:World):Calls prog 116 #[T,a,b] w (Rt w (.agg #[T.B.x,T.B.y])):=by
 have cc0:=cor_0 T;have cc1:=cor_1 T
 go_enter func116,ntmps116
 go_wp2_with fail;refine qD4 fun W1 Bt Ba Bb Br hw=>?_;refine wp_loop_rounds 4 ?_;try rw [rounds_succ]
 obtain ⟨xt,yt,zt,vt⟩:=Bt.f;obtain ⟨xa,ya,za,va⟩:=Ba.f;obtain ⟨xb,yb,zb,vb⟩:=Bb.f;obtain ⟨xr,yr,zr,vr⟩:=Br.f;go_wp2_with fail;clear xt yt zt vt xa ya za va xb yb zb vb xr yr zr vr;refine qK4 (cc0 _) Bt Ba Bb Br hw fun w2 Bt Ba Bb Br hw=>?_;obtain ⟨xt,yt,zt,vt⟩:=Bt.f;obtain ⟨xa,ya,za,va⟩:=Ba.f;obtain ⟨xb,yb,zb,vb⟩:=Bb.f;obtain ⟨xr,yr,zr,vr⟩:=Br.f;go_wp2_with fail;clear xt yt zt vt xa ya za va xb yb zb vb xr yr zr vr;refine zA1 fun W3 hW=>?_;obtain ⟨bkp0,hbp0⟩:∃ b,w2.heap.size=b:=⟨_,rfl⟩;rw [hbp0];obtain ⟨ltp0,lap0,lbp0,lrp0,fp0,Bp0,Bt,Ba,Bb,Br,hw⟩:=qM4 hW hbp0 Bt Ba Bb Br hw;clear hW hbp0;obtain ⟨xt,yt,zt,vt⟩:=Bt.f;obtain ⟨xa,ya,za,va⟩:=Ba.f;obtain ⟨xb,yb,zb,vb⟩:=Bb.f;obtain ⟨xr,yr,zr,vr⟩:=Br.f;obtain ⟨xp0,yp0,zp0,vp0⟩:=Bp0.f;go_wp2_with fail;clear xt yt zt vt xa ya za va xb yb zb vb xr yr zr vr xp0 yp0 zp0 vp0;try rw [rounds_succ]
 obtain ⟨xt,yt,zt,vt⟩:=Bt.f;obtain ⟨xa,ya,za,va⟩:=Ba.f;obtain ⟨xb,yb,zb,vb⟩:=Bb.f;obtain ⟨xr,yr,zr,vr⟩:=Br.f;obtain ⟨xp0,yp0,zp0,vp0⟩:=Bp0.f;go_wp2_with fail;clear xt yt zt vt xa ya za va xb yb zb vb xr yr zr vr xp0 yp0 zp0 vp0;refine qK5 (cc1 _) Bt Ba Bb Br Bp0 hw fun w4 Bt Ba Bb Br Bp0 hw=>?_;obtain ⟨xt,yt,zt,vt⟩:=Bt.f;obtain ⟨xa,ya,za,va⟩:=Ba.f;obtain ⟨xb,yb,zb,vb⟩:=Bb.f;obtain ⟨xr,yr,zr,vr⟩:=Br.f;obtain ⟨xp0,yp0,zp0,vp0⟩:=Bp0.f;go_wp2_with fail;refine bodyPost_ret (v:=.agg #[T.B.x,T.B.y]) (by simp [results,results116,go_sem,xr,zr]) rfl ⟨rfl,by have hl:=hw.size;go_grown⟩
theorem apex_11 (T:Tri3) (a b:Pt) (ha0:peqI T.A.x T.A.y a.x a.y=true) (ha1:peqI T.B.x T.B.y a.x a.y=true) (w:World):Calls prog 116 #[T,a,b] w (Rt w (.agg #[T.C.x,T.C.y])):=by
 have cc0:=cor_0 T;have cc1:=cor_1 T
 go_enter func116,ntmps116
 go_wp2_with fail;refine qD4 fun W1 Bt Ba Bb Br hw=>?_;refine wp_loop_rounds 4 ?_;try rw [rounds_succ]
 have Ft:=Bt.f;have Fa:=Ba.f;have Fb:=Bb.f;have Fr:=Br.f;go_wp2_with fail;clear Ft Fa Fb Fr;refine qC4 (cc0 _) Bt Ba Bb Br hw fun w2 Bt Ba Bb Br hw F_tabr=>?_;go_wp2_with fail;clear F_tabr;refine zA1 fun W3 hW=>?_;obtain ⟨bkp0,hbp0⟩:∃ b,w2.heap.size=b:=⟨_,rfl⟩;rw [hbp0];obtain ⟨ltp0,lap0,lbp0,lrp0,fp0,Bp0,Bt,Ba,Bb,Br,hw⟩:=qM4 hW hbp0 Bt Ba Bb Br hw;clear hW hbp0;have F_tabrp0:=J5 Bt.f Ba.f Bb.f Br.f Bp0.f;go_wp2_with fail;clear F_tabrp0;try rw [rounds_succ]
 have Ft:=Bt.f;have Fa:=Ba.f;have Fb:=Bb.f;have Fr:=Br.f;have Fp0:=Bp0.f;go_wp2_with fail;clear Ft Fa Fb Fr Fp0;refine qC5 (cc1 _) Bt Ba Bb Br Bp0 hw fun w4 Bt Ba Bb Br Bp0 hw F_tabrp0=>?_;go_wp2_with fail;clear F_tabrp0;refine zA1 fun W5 hW=>?_;obtain ⟨bkp1,hbp1⟩:∃ b,w4.heap.size=b:=⟨_,rfl⟩;rw [hbp1];obtain ⟨ltp1,lap1,lbp1,lrp1,lp0p1,fp1,Bp1,Bt,Ba,Bb,Br,Bp0,hw⟩:=qM5 hW hbp1 Bt Ba Bb Br Bp0 hw;clear hW hbp1;have F_tabrp0p1:=J6 Bt.f Ba.f Bb.f Br.f Bp0.f Bp1.f;go_wp2_with fail;clear F_tabrp0p1;try rw [rounds_succ]
 have Ft:=Bt.f;have Fa:=Ba.f;have Fb:=Bb.f;have Fr:=Br.f;have Fp0:=Bp0.f;have Fp1:=Bp1.f;go_wp2_with fail;refine bodyPost_ret (v:=.agg #[T.C.x,T.C.y]) (by simp [results,results116,go_sem,Fr]) rfl ⟨rfl,by have hl:=hw.size;go_grown⟩
theorem apex_12 (T:Tri3) (a b:Pt) (ha0:peqI T.A.x T.A.y a.x a.y=true) (ha1:peqI T.B.x T.B.y a.x a.y=false) (hb1:peqI T.B.x T.B.y b.x b.y=true) (w:World):Calls prog 116 #[T,a,b] w (Rt w (.agg #[T.C.x,T.C.y])):=by
 have cc0:=cor_0 T;have cc1:=cor_1 T
 go_enter func116,ntmps116
 go_wp2_with fail;refine qD4 fun W1 Bt Ba Bb Br hw=>?_;refine wp_loop_rounds 4 ?_;try rw [rounds_succ]
 have Ft:=Bt.f;have Fa:=Ba.f;have Fb:=Bb.f;have Fr:=Br.f;go_wp2_with fail;clear Ft Fa Fb Fr;refine qC4 (cc0 _) Bt Ba Bb Br hw fun w2 Bt Ba Bb Br hw F_tabr=>?_;go_wp2_with fail;clear F_tabr;refine zA1 fun W3 hW=>?_;obtain ⟨bkp0,hbp0⟩:∃ b,w2.heap.size=b:=⟨_,rfl⟩;rw [hbp0];obtain ⟨ltp0,lap0,lbp0,lrp0,fp0,Bp0,Bt,Ba,Bb,Br,hw⟩:=qM4 hW hbp0 Bt Ba Bb Br hw;clear hW hbp0;have F_tabrp0:=J5 Bt.f Ba.f Bb.f Br.f Bp0.f;go_wp2_with fail;clear F_tabrp0;try rw [rounds_succ]
 have Ft:=Bt.f;have Fa:=Ba.f;have Fb:=Bb.f;have Fr:=Br.f;have Fp0:=Bp0.f;go_wp2_with fail;clear Ft Fa Fb Fr Fp0;refine qC5 (cc1 _) Bt Ba Bb Br Bp0 hw fun w4 Bt Ba Bb Br Bp0 hw F_tabrp0=>?_;go_wp2_with fail;clear F_tabrp0;refine zA1 fun W5 hW=>?_;obtain ⟨bkp1,hbp1⟩:∃ b,w4.heap.size=b:=⟨_,rfl⟩;rw [hbp1];obtain ⟨ltp1,lap1,lbp1,lrp1,lp0p1,fp1,Bp1,Bt,Ba,Bb,Br,Bp0,hw⟩:=qM5 hW hbp1 Bt Ba Bb Br Bp0 hw;clear hW hbp1;have F_tabrp0p1:=J6 Bt.f Ba.f Bb.f Br.f Bp0.f Bp1.f;go_wp2_with fail;clear F_tabrp0p1;try rw [rounds_succ]
 have Ft:=Bt.f;have Fa:=Ba.f;have Fb:=Bb.f;have Fr:=Br.f;have Fp0:=Bp0.f;have Fp1:=Bp1.f;go_wp2_with fail;refine bodyPost_ret (v:=.agg #[T.C.x,T.C.y]) (by simp [results,results116,go_sem,Fr]) rfl ⟨rfl,by have hl:=hw.size;go_grown⟩
theorem apex_20 (T:Tri3) (a b:Pt) (ha0:peqI T.A.x T.A.y a.x a.y=false) (hb0:peqI T.A.x T.A.y b.x b.y=true) (ha1:peqI T.B.x T.B.y a.x a.y=false) (hb1:peqI T.B.x T.B.y b.x b.y=false) (w:World):Calls prog 116 #[T,a,b] w (Rt w (.agg #[T.B.x,T.B.y])):=by
 have cc0:=cor_0 T;have cc1:=cor_1 T
 go_enter func116,ntmps116
 go_wp2_with fail;refine qD4 fun W1 Bt Ba Bb Br hw=>?_;refine wp_loop_rounds 4 ?_;try rw [rounds_succ]
 obtain ⟨xt,yt,zt,vt⟩:=Bt.f;obtain ⟨xa,ya,za,va⟩:=Ba.f;obtain ⟨xb,yb,zb,vb⟩:=Bb.f;obtain ⟨xr,yr,zr,vr⟩:=Br.f;go_wp2_with fail;clear xt yt zt vt xa ya za va xb yb zb vb xr yr zr vr;refine qK4 (cc0 _) Bt Ba Bb Br hw fun w2 Bt Ba Bb Br hw=>?_;obtain ⟨xt,yt,zt,vt⟩:=Bt.f;obtain ⟨xa,ya,za,va⟩:=Ba.f;obtain ⟨xb,yb,zb,vb⟩:=Bb.f;obtain ⟨xr,yr,zr,vr⟩:=Br.f;go_wp2_with fail;clear xt yt zt vt xa ya za va xb yb zb vb xr yr zr vr;refine zA1 fun W3 hW=>?_;obtain ⟨bkp0,hbp0⟩:∃ b,w2.heap.size=b:=⟨_,rfl⟩;rw [hbp0];obtain ⟨ltp0,lap0,lbp0,lrp0,fp0,Bp0,Bt,Ba,Bb,Br,hw⟩:=qM4 hW hbp0 Bt Ba Bb Br hw;clear hW hbp0;obtain ⟨xt,yt,zt,vt⟩:=Bt.f;obtain ⟨xa,ya,za,va⟩:=Ba.f;obtain ⟨xb,yb,zb,vb⟩:=Bb.f;obtain ⟨xr,yr,zr,vr⟩:=Br.f;obtain ⟨xp0,yp0,zp0,vp0⟩:=Bp0.f;go_wp2_with fail;clear xt yt zt vt xa ya za va xb yb zb vb xr yr zr vr xp0 yp0 zp0 vp0;try rw [rounds_succ]
 obtain ⟨xt,yt,zt,vt⟩:=Bt.f;obtain ⟨xa,ya,za,va⟩:=Ba.f;obtain ⟨xb,yb,zb,vb⟩:=Bb.f;obtain ⟨xr,yr,zr,vr⟩:=Br.f;obtain ⟨xp0,yp0,zp0,vp0⟩:=Bp0.f;go_wp2_with fail;clear xt yt zt vt xa ya za va xb yb zb vb xr yr zr vr xp0 yp0 zp0 vp0;refine qK5 (cc1 _) Bt Ba Bb Br Bp0 hw fun w4 Bt Ba Bb Br Bp0 hw=>?_;obtain ⟨xt,yt,zt,vt⟩:=Bt.f;obtain ⟨xa,ya,za,va⟩:=Ba.f;obtain ⟨xb,yb,zb,vb⟩:=Bb.f;obtain ⟨xr,yr,zr,vr⟩:=Br.f;obtain ⟨xp0,yp0,zp0,vp0⟩:=Bp0.f;go_wp2_with fail;refine bodyPost_ret (v:=.agg #[T.B.x,T.B.y]) (by simp [results,results116,go_sem,xr,zr]) rfl ⟨rfl,by have hl:=hw.size;go_grown⟩
theorem apex_21 (T:Tri3) (a b:Pt) (ha0:peqI T.A.x T.A.y a.x a.y=false) (hb0:peqI T.A.x T.A.y b.x b.y=true) (ha1:peqI T.B.x T.B.y a.x a.y=true) (w:World):Calls prog 116 #[T,a,b] w (Rt w (.agg #[T.C.x,T.C.y])):=by
 have cc0:=cor_0 T;have cc1:=cor_1 T
 go_enter func116,ntmps116
 go_wp2_with fail;refine qD4 fun W1 Bt Ba Bb Br hw=>?_;refine wp_loop_rounds 4 ?_;try rw [rounds_succ]
 have Ft:=Bt.f;have Fa:=Ba.f;have Fb:=Bb.f;have Fr:=Br.f;go_wp2_with fail;clear Ft Fa Fb Fr;refine qC4 (cc0 _) Bt Ba Bb Br hw fun w2 Bt Ba Bb Br hw F_tabr=>?_;go_wp2_with fail;clear F_tabr;refine zA1 fun W3 hW=>?_;obtain ⟨bkp0,hbp0⟩:∃ b,w2.heap.size=b:=⟨_,rfl⟩;rw [hbp0];obtain ⟨ltp0,lap0,lbp0,lrp0,fp0,Bp0,Bt,Ba,Bb,Br,hw⟩:=qM4 hW hbp0 Bt Ba Bb Br hw;clear hW hbp0;have F_tabrp0:=J5 Bt.f Ba.f Bb.f Br.f Bp0.f;go_wp2_with fail;clear F_tabrp0;try rw [rounds_succ]
 have Ft:=Bt.f;have Fa:=Ba.f;have Fb:=Bb.f;have Fr:=Br.f;have Fp0:=Bp0.f;go_wp2_with fail;clear Ft Fa Fb Fr Fp0;refine qC5 (cc1 _) Bt Ba Bb Br Bp0 hw fun w4 Bt Ba Bb Br Bp0 hw F_tabrp0=>?_;go_wp2_with fail;clear F_tabrp0;refine zA1 fun W5 hW=>?_;obtain ⟨bkp1,hbp1⟩:∃ b,w4.heap.size=b:=⟨_,rfl⟩;rw [hbp1];obtain ⟨ltp1,lap1,lbp1,lrp1,lp0p1,fp1,Bp1,Bt,Ba,Bb,Br,Bp0,hw⟩:=qM5 hW hbp1 Bt Ba Bb Br Bp0 hw;clear hW hbp1;have F_tabrp0p1:=J6 Bt.f Ba.f Bb.f Br.f Bp0.f Bp1.f;go_wp2_with fail;clear F_tabrp0p1;try rw [rounds_succ]
 have Ft:=Bt.f;have Fa:=Ba.f;have Fb:=Bb.f;have Fr:=Br.f;have Fp0:=Bp0.f;have Fp1:=Bp1.f;go_wp2_with fail;refine bodyPost_ret (v:=.agg #[T.C.x,T.C.y]) (by simp [results,results116,go_sem,Fr]) rfl ⟨rfl,by have hl:=hw.size;go_grown⟩
theorem apex_22 (T:Tri3) (a b:Pt) (ha0:peqI T.A.x T.A.y a.x a.y=false) (hb0:peqI T.A.x T.A.y b.x b.y=true) (ha1:peqI T.B.x T.B.y a.x a.y=false) (hb1:peqI T.B.x T.B.y b.x b.y=true) (w:World):Calls prog 116 #[T,a,b] w (Rt w (.agg #[T.C.x,T.C.y])):=by
 have cc0:=cor_0 T;have cc1:=cor_1 T
 go_enter func116,ntmps116
 go_wp2_with fail;refine qD4 fun W1 Bt Ba Bb Br hw=>?_;refine wp_loop_rounds 4 ?_;try rw [rounds_succ]
 have Ft:=Bt.f;have Fa:=Ba.f;have Fb:=Bb.f;have Fr:=Br.f;go_wp2_with fail;clear Ft Fa Fb Fr;refine qC4 (cc0 _) Bt Ba Bb Br hw fun w2 Bt Ba Bb Br hw F_tabr=>?_;go_wp2_with fail;clear F_tabr;refine zA1 fun W3 hW=>?_;obtain ⟨bkp0,hbp0⟩:∃ b,w2.heap.size=b:=⟨_,rfl⟩;rw [hbp0];obtain ⟨ltp0,lap0,lbp0,lrp0,fp0,Bp0,Bt,Ba,Bb,Br,hw⟩:=qM4 hW hbp0 Bt Ba Bb Br hw;clear hW hbp0;have F_tabrp0:=J5 Bt.f Ba.f Bb.f Br.f Bp0.f;go_wp2_with fail;clear F_tabrp0;try rw [rounds_succ]
 have Ft:=Bt.f;have Fa:=Ba.f;have Fb:=Bb.f;have Fr:=Br.f;have Fp0:=Bp0.f;go_wp2_with fail;clear Ft Fa Fb Fr Fp0;refine qC5 (cc1 _) Bt Ba Bb Br Bp0 hw fun w4 Bt Ba Bb Br Bp0 hw F_tabrp0=>?_;go_wp2_with fail;clear F_tabrp0;refine zA1 fun W5 hW=>?_;obtain ⟨bkp1,hbp1⟩:∃ b,w4.heap.size=b:=⟨_,rfl⟩;rw [hbp1];obtain ⟨ltp1,lap1,lbp1,lrp1,lp0p1,fp1,Bp1,Bt,Ba,Bb,Br,Bp0,hw⟩:=qM5 hW hbp1 Bt Ba Bb Br Bp0 hw;clear hW hbp1;have F_tabrp0p1:=J6 Bt.f Ba.f Bb.f Br.f Bp0.f Bp1.f;go_wp2_with fail;clear F_tabrp0p1;try rw [rounds_succ]
 have Ft:=Bt.f;have Fa:=Ba.f;have Fb:=Bb.f;have Fr:=Br.f;have Fp0:=Bp0.f;have Fp1:=Bp1.f;go_wp2_with fail;refine bodyPost_ret (v:=.agg #[T.C.x,T.C.y]) (by simp [results,results116,go_sem,Fr]) rfl ⟨rfl,by have hl:=hw.size;go_grown⟩
end
section
attribute [local go_sem] rOper rAt rUpon cell_set sg_i64 sg_u64 alloc_cell alloc_frozen
attribute [local go_sem 10000] pt_eql pt_neq tri_eql
attribute [local irreducible] rWalk
theorem zLt:prog.underlying 130=some (.array 3 54):=by kernel_rfl
theorem idx_0 (a b c d e f:Value) (w:World):(Instr.index 130 (.agg #[a,b,c,d,e,f]) (.int .i64 0)).run prog w=.ok (.agg #[a,b]) w:=by
 simp [Instr.index,run_underlying zLt,asIntOf,part,go_sem]
theorem idx_1 (a b c d e f:Value) (w:World):(Instr.index 130 (.agg #[a,b,c,d,e,f]) (.int .i64 1)).run prog w=.ok (.agg #[c,d]) w:=by
 simp [Instr.index,run_underlying zLt,asIntOf,part,go_sem]
theorem idx_2 (a b c d e f:Value) (w:World):(Instr.index 130 (.agg #[a,b,c,d,e,f]) (.int .i64 2)).run prog w=.ok (.agg #[e,f]) w:=by
 simp [Instr.index,run_underlying zLt,asIntOf,part,go_sem]
attribute [local go_sem 10000] idx_0 idx_1 idx_2
theorem rcorner_0 (T:Tri3) (i:Int) (h:plc i=0) (w:World):Calls prog 39 #[T,i] w (Rt w (.agg #[T.A.x,T.A.y])):=by
 have e:=zHo i;rw [h] at e;have e2:(IntKind.i64.wrap (i.tmod 3+3)).tmod 3=0:=by rw [←e,IntKind.wrap_i64,w64]
 clear h
 go_enter func39,ntmps39
 go_wp2_with fail;refine bodyPost_ret (v:=.agg #[T.A.x,T.A.y]) (by simp [results,results39,go_sem]) rfl ⟨rfl,by go_grown⟩
theorem rcorner_1 (T:Tri3) (i:Int) (h:plc i=1) (w:World):Calls prog 39 #[T,i] w (Rt w (.agg #[T.B.x,T.B.y])):=by
 have e:=zHo i;rw [h] at e;have e2:(IntKind.i64.wrap (i.tmod 3+3)).tmod 3=1:=by rw [←e,IntKind.wrap_i64,w64]
 clear h
 go_enter func39,ntmps39
 go_wp2_with fail;refine bodyPost_ret (v:=.agg #[T.B.x,T.B.y]) (by simp [results,results39,go_sem]) rfl ⟨rfl,by go_grown⟩
theorem rcorner_2 (T:Tri3) (i:Int) (h:plc i=2) (w:World):Calls prog 39 #[T,i] w (Rt w (.agg #[T.C.x,T.C.y])):=by
 have e:=zHo i;rw [h] at e;have e2:(IntKind.i64.wrap (i.tmod 3+3)).tmod 3=2:=by rw [←e,IntKind.wrap_i64,w64]
 clear h
 go_enter func39,ntmps39
 go_wp2_with fail;refine bodyPost_ret (v:=.agg #[T.C.x,T.C.y]) (by simp [results,results39,go_sem]) rfl ⟨rfl,by go_grown⟩
theorem zBc (T:Tri3) (i:Int) (w:World):Calls prog 39 #[T,i] w (Rt w (.agg #[.int .i64 (crn T i).x,.int .i64 (crn T i).y])):=by
 rcases zHn i with h | h | h
 ·rw [show crn T i=T.A by unfold crn;simp [h]];exact rcorner_0 T i h w
 ·rw [show crn T i=T.B by unfold crn;simp [h]];exact rcorner_1 T i h w
 ·rw [show crn T i=T.C by unfold crn;simp [h]];exact rcorner_2 T i h w
def cmpT (S T:Tri3):Int:=if cmpP S.A T.A≠0 then cmpP S.A T.A else if cmpP S.B T.B≠0 then cmpP S.B T.B else cmpP S.C T.C
theorem rcmpT_0 (S T:Tri3) (h0:¬ cmpP S.A T.A=0) (w:World):Calls prog 91 #[S,T] w (Rt w (.int .i64 (cmpP S.A T.A))):=by
 have c1:=zAe S.A T.A;have hd:(cmpP S.A T.A == 0)=false:=by simpa using h0
 clear h0;generalize cmpP S.A T.A=n at *
 go_enter func91,ntmps91
 go_wp2_with fail;refine qE2 fun W1 Bs Bt hw=>?_;refine qC2 (c1 _) Bs Bt hw fun w2 Bs Bt hw F_st=>?_;go_wp2
 go_ret
 exact ⟨rfl,by have hl:=hw.size;go_grown⟩
theorem rcmpT_1 (S T:Tri3) (h0:cmpP S.A T.A=0) (h1:¬ cmpP S.B T.B=0) (w:World):Calls prog 91 #[S,T] w (Rt w (.int .i64 (cmpP S.B T.B))):=by
 have c1:=zAe S.A T.A;have c2:=zAe S.B T.B;rw [h0] at c1;have hd:(cmpP S.B T.B == 0)=false:=by simpa using h1
 clear h0 h1;generalize cmpP S.B T.B=n at *
 go_enter func91,ntmps91
 go_wp2_with fail;refine qE2 fun W1 Bs Bt hw=>?_;refine qC2 (c1 _) Bs Bt hw fun w2 Bs Bt hw F_st=>?_;go_wp2_with fail;clear F_st;refine qC2 (c2 _) Bs Bt hw fun w3 Bs Bt hw F_st=>?_;go_wp2
 go_ret
 exact ⟨rfl,by have hl:=hw.size;go_grown⟩
theorem rcmpT_2 (S T:Tri3) (h0:cmpP S.A T.A=0) (h1:cmpP S.B T.B=0) (w:World):Calls prog 91 #[S,T] w (Rt w (.int .i64 (cmpP S.C T.C))):=by
 have c1:=zAe S.A T.A;have c2:=zAe S.B T.B;have c3:=zAe S.C T.C;rw [h0] at c1;rw [h1] at c2;clear h0 h1;generalize cmpP S.C T.C=n at *
 go_enter func91,ntmps91
 go_wp2_with fail;refine qE2 fun W1 Bs Bt hw=>?_;refine qC2 (c1 _) Bs Bt hw fun w2 Bs Bt hw F_st=>?_;go_wp2_with fail;clear F_st;refine qC2 (c2 _) Bs Bt hw fun w3 Bs Bt hw F_st=>?_;go_wp2_with fail;clear F_st;refine qC2 (c3 _) Bs Bt hw fun w4 Bs Bt hw F_st=>?_;go_wp2
 go_ret
 exact ⟨rfl,by have hl:=hw.size;go_grown⟩
theorem rcmpT_any (S T:Tri3) (w:World):Calls prog 91 #[S,T] w (Rt w (.int .i64 (cmpT S T))):=by
 by_cases h0:cmpP S.A T.A=0
 ·by_cases h1:cmpP S.B T.B=0
  ·rw [show cmpT S T=cmpP S.C T.C by unfold cmpT;simp [h0,h1]];exact rcmpT_2 S T h0 h1 w
  ·rw [show cmpT S T=cmpP S.B T.B by unfold cmpT;simp [h0,h1]];exact rcmpT_1 S T h0 h1 w
 ·rw [show cmpT S T=cmpP S.A T.A by unfold cmpT;simp [h0]];exact rcmpT_0 S T h0 w
def or3 (x y z:Int):Int:=if x≠0 then x else if y≠0 then y else z
theorem valT_vld {T:Tri3} (h:valT T=true):vld T.A=true∧vld T.B=true∧vld T.C=true:=by
 rw [zJe] at h;unfold valS at h;simp only [jA3,jA4] at h;exact zBy (by omega)
end
end Go.Proofs.YtogffkimgmlilaaGreat
