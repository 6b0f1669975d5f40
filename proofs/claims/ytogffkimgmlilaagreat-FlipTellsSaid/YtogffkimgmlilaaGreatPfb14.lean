/- Put together: CmpD, TrD, TrE, TrM. -/
import Derived.Test.YtogffkimgmlilaaGreatPfb13
set_option maxRecDepth 100000
set_option maxHeartbeats 8000000
set_option linter.all false
namespace Go.Proofs.YtogffkimgmlilaaGreat
open _root_.Go.Proofs.Tryz
section
open Go.RowKit Go.Sort
attribute [local go_sem] Dr.rOper Dr.rAt Dr.rUpon cell_set sg_i64 sg_u64 alloc_cell alloc_frozen
attribute [local go_sem 10000] pt_eql pt_neq tri_eql
attribute [local irreducible] Dr.rWalk
theorem zHd (p q:Pt) (w:World):Calls prog 55 #[p,q] w fun e w'=>e=.returned (.int .i64 (cmpP p q))∧Dr.Ext w w':=by
 by_cases h:p.x=q.x
 ·have e1:(p.x != q.x)=false:=by simp [h]
  have e2:cmpP p q=cmpN p.y q.y:=by unfold cmpP;rw [jAc h]
  rw [e2];clear e2 h
  go_enter func55,ntmps55
  go_wp2_with (go_at_call 89;refine (zHe _ _ _).mono ?_;rintro e w' ⟨rfl,rfl⟩)
  go_returns
  exact ⟨rfl,by go_grown,jA9 _⟩
 ·have e1:(p.x != q.x)=true:=by simp [h]
  have e2:cmpP p q=cmpN p.x q.x:=by unfold cmpP;rw [jA0 h]
  rw [e2];clear e2 h
  go_enter func55,ntmps55
  go_wp2_with (go_at_call 89;refine (zHe _ _ _).mono ?_;rintro e w' ⟨rfl,rfl⟩)
  go_returns
  exact ⟨rfl,by go_grown,jA9 _⟩
theorem dor_0 (x y z:Int) (h0:(x == 0)=false) (w:World) (bk:Nat) (hB:Box w bk [x,y,z] 3):Calls prog 88 #[.slice (some ⟨bk,0,none⟩) 3 3] w fun e w'=>e=.returned (.int .i64 x)∧Dr.Ext w w':=by
 have Fs:=hB.f
 go_enter func88,ntmps88
 go_wp2_with fail;refine wp_loop_rounds 5 ?_;try rw [rounds_succ]
 go_wp2_with fail
 go_ret
 exact ⟨rfl,by go_grown,jA9 _⟩
theorem dor_1 (x y z:Int) (h0:(x == 0)=true) (h1:(y == 0)=false) (w:World) (bk:Nat) (hB:Box w bk [x,y,z] 3):Calls prog 88 #[.slice (some ⟨bk,0,none⟩) 3 3] w fun e w'=>e=.returned (.int .i64 y)∧Dr.Ext w w':=by
 have Fs:=hB.f
 go_enter func88,ntmps88
 go_wp2_with fail;refine wp_loop_rounds 5 ?_;try rw [rounds_succ]
 go_wp2_with fail;try rw [rounds_succ]
 go_wp2_with fail
 go_ret
 exact ⟨rfl,by go_grown,jA9 _⟩
theorem dor_2 (x y z:Int) (h0:(x == 0)=true) (h1:(y == 0)=true) (h2:(z == 0)=false) (w:World) (bk:Nat) (hB:Box w bk [x,y,z] 3):Calls prog 88 #[.slice (some ⟨bk,0,none⟩) 3 3] w fun e w'=>e=.returned (.int .i64 z)∧Dr.Ext w w':=by
 have Fs:=hB.f
 go_enter func88,ntmps88
 go_wp2_with fail;refine wp_loop_rounds 5 ?_;try rw [rounds_succ]
 go_wp2_with fail;try rw [rounds_succ]
 go_wp2_with fail;try rw [rounds_succ]
 go_wp2_with fail
 go_ret
 exact ⟨rfl,by go_grown,jA9 _⟩
theorem dor_3 (x y z:Int) (h0:(x == 0)=true) (h1:(y == 0)=true) (h2:(z == 0)=true) (w:World) (bk:Nat) (hB:Box w bk [x,y,z] 3):Calls prog 88 #[.slice (some ⟨bk,0,none⟩) 3 3] w fun e w'=>e=.returned (.int .i64 0)∧Dr.Ext w w':=by
 have Fs:=hB.f
 go_enter func88,ntmps88
 go_wp2_with fail;refine wp_loop_rounds 5 ?_;try rw [rounds_succ]
 go_wp2_with fail;try rw [rounds_succ]
 go_wp2_with fail;try rw [rounds_succ]
 go_wp2_with fail;try rw [rounds_succ]
 go_wp2_with fail
 go_ret
 exact ⟨rfl,by go_grown,jA9 _⟩
theorem zOf (x y z:Int) (w:World) (bk:Nat) (hB:Box w bk [x,y,z] 3):Calls prog 88 #[.slice (some ⟨bk,0,none⟩) 3 3] w fun e w'=>e=.returned (.int .i64 (or3 x y z))∧Dr.Ext w w':=by
 cases h0:(x == 0) with
 | false=>rw [show or3 x y z=x by simp at h0;simp [or3,h0]];exact dor_0 x y z h0 w bk hB
 | true=>cases h1:(y == 0) with
  | false=>rw [show or3 x y z=y by simp at h0 h1;simp [or3,h0,h1]];exact dor_1 x y z h0 h1 w bk hB
  | true=>cases h2:(z == 0) with
   | false=>rw [show or3 x y z=z by simp at h0 h1;simp [or3,h0,h1]];exact dor_2 x y z h0 h1 h2 w bk hB
   | true=>rw [show or3 x y z=0 by simp at h0 h1 h2;simp [or3,h0,h1,h2]];exact dor_3 x y z h0 h1 h2 w bk hB
theorem zOo {P:Program} {ops:Array Oper} {C:World→Prop} {Q:Act→Prop} {a:Act} {o:Oper} {rest:List Oper} (hg:Region.wanted o (yielded ops a.tmps)=false) (h:Dr.rWalk P ops C Q rest (a.put o.dst undef)):Dr.rWalk P ops C Q (o :: rest) a:=by
 simp only [Dr.rWalk];rw [hg,jA0 (by simp)];exact h
theorem dcmpT_any (S T:Tri3) (w:World):Calls prog 82 #[S,T] w fun e w'=>e=.returned (.int .i64 (cmpT S T))∧Dr.Ext w w':=by
 have d1:=zHd S.A T.A;have d2:=zHd S.B T.B;have d3:=zHd S.C T.C;rw [show cmpT S T=or3 (cmpP S.A T.A) (cmpP S.B T.B) (cmpP S.C T.C) by rfl];generalize cmpP S.A T.A=m at *
 generalize cmpP S.B T.B=n at *
 generalize cmpP S.C T.C=o at *
 go_enter func82,ntmps82
 go_wp2_with fail;refine zA1 fun W1 hW=>?_;have Bs:Box W1 w [S.A.x,S.A.y,S.B.x,S.B.y,S.C.x,S.C.y] 56:=by rw [hW];exact (Box.new rfl).old _
 have Bt:Box W1 (w+1) [T.A.x,T.A.y,T.B.x,T.B.y,T.C.x,T.C.y] 56:=by rw [hW];exact Box.new (by simp)
 have hw:Below w w W1:=by rw [hW];go_grown
 have hdr:w.drawn≤W1.drawn:=by rw [hW];exact jA9 _
 clear hW;have g_st:=J2 Bs.cells Bt.cells;refine Dr.wp_region_tail 15 (by kernel_rfl) (by kernel_rfl) (C:=fun w'=>∃ p:Regrown,w'=grow (redrawn W1 p.d) p.os) rgB ?_;simp only [tK1,tK0,dP1,dP0];repeat (first | (refine zOo (Eq.refl false) ?_;simp only [Act.put,sT2,sT1,sT0]) | (refine Dr.rWalk_step (fun K hK=>?_);go_simp;first | (refine hK _ ?_;clear hK K) | (apply Exists.intro;refine ⟨fun _=>?_,hK _ ?_⟩;(first | with_reducible exact Dr.toExt d1 _ | with_reducible exact Dr.toExt d2 _ | with_reducible exact Dr.toExt d3 _);clear hK K)))
 refine Dr.rWalk_nil ?_;intro w2 hb0;have hb:=hb0.1;replace hdr:=jAp hdr hb0.2;clear hb0;clear g_st;obtain ⟨Bs,Bt,hw,-⟩:=qX2 Bs Bt hw hb;have Fs:=Bs.f;have Ft:=Bt.f;go_wp2_with fail;refine zA4 fun W3 hW=>?_;obtain ⟨bkv,hbv⟩:∃ b,w2.heap.size=b:=⟨_,rfl⟩;rw [hbv];have lsv:=Bs.lt;rw [hbv] at lsv;have ltv:=Bt.lt;rw [hbv] at ltv;have fv:=hw.size;rw [hbv] at fv;have Bv:Box W3 bkv [.int .i64 m,.int .i64 n,.int .i64 o] 3:=by rw [hW];exact Box.new hbv.symm
 replace Bs:Box W3 w [S.A.x,S.A.y,S.B.x,S.B.y,S.C.x,S.C.y] 56:=by rw [hW];exact Bs.old _
 replace Bt:Box W3 (w+1) [T.A.x,T.A.y,T.B.x,T.B.y,T.C.x,T.C.y] 56:=by rw [hW];exact Bt.old _
 replace hw:Below w w W3:=by have hl:=hw.size;rw [hW];go_grown
 replace hdr:w.drawn≤W3.drawn:=by rw [hW];exact hdr
 clear hW hbv;refine (zOf m n o _ bkv Bv).mono ?_;rintro e w4 ⟨rfl,hb0⟩;have hb:=hb0.1;replace hdr:=jAp hdr hb0.2;clear hb0;clear Fs Ft;obtain ⟨Bs,Bt,Bv,hw,-⟩:=qX3 Bs Bt Bv hw hb;clear hb;have Fs:=Bs.f;have Ft:=Bt.f;have Fv:=Bv.f;go_wp2
 go_ret
 exact ⟨rfl,by have hl:=hw.size;go_grown,hdr⟩
end
section
open Go.RowKit Go.Sort
attribute [local go_sem] rOper rAt rUpon cell_set sg_i64 sg_u64 alloc_cell alloc_frozen
attribute [local go_sem 10000] pt_eql pt_neq tri_eql
attribute [local irreducible] rWalk
theorem tmake_n0 (a b c:Pt) (l0:lds ⟨a,b,c⟩=true) (ho:decide (ori a b c < 0)=true) (hv:valT ⟨a,c,b⟩=true) (w:World):Calls prog 131 #[a,b,c] w (Rt w (.tuple #[.agg #[a.x,a.y,c.x,c.y,b.x,b.y],.bool true])):=by
 have k0:=zAx ⟨a,b,c⟩;rw [l0] at k0;dsimp only at k0;have co:=zA5 a b c;have cv:=zBl ⟨a,c,b⟩;rw [hv] at cv;dsimp only at cv;generalize ori a b c=n at *
 clear hv l0
 go_enter func131,ntmps131
 go_wp2_with fail;refine qD5 fun W1 Ba Bb Bc Br Bt hw=>?_;refine wp_loop_rounds 4 ?_;try rw [rounds_succ]
 have Fa:=Ba.f;have Fb:=Bb.f;have Fc:=Bc.f;have Fr:=Br.f;have Ft:=Bt.f;go_wp2_with fail;clear Fa Fb Fc Fr Ft;refine qK5 (k0 _) Ba Bb Bc Br Bt hw fun w2 Ba Bb Bc Br Bt hw=>?_;have Fa:=Ba.f;have Fb:=Bb.f;have Fc:=Bc.f;have Fr:=Br.f;have Ft:=Bt.f;go_wp2_with fail;clear Fa Fb Fc Fr Ft;refine qK5 (co _) Ba Bb Bc Br Bt hw fun w3 Ba Bb Bc Br Bt hw=>?_;have Fa:=Ba.f;have Fb:=Bb.f;have Fc:=Bc.f;have Fr:=Br.f;have Ft:=Bt.f;go_wp2_with fail;refine zA4 fun W4 hW=>?_;replace Ba:=sto Ba hW;replace Bb:=sto Bb hW;replace Bc:=sto Bc hW;replace Br:=sto Br hW;replace Bt:=sto Bt hW;replace hw:=stw hw hW;clear Fa Fb Fc Fr Ft;clear hW;refine qK5 (cv _) Ba Bb Bc Br Bt hw fun w5 Ba Bb Bc Br Bt hw=>?_;have Fa:=Ba.f;have Fb:=Bb.f;have Fc:=Bc.f;have Fr:=Br.f;have Ft:=Bt.f;go_wp2_with fail;refine bodyPost_ret (v:=.tuple #[.agg #[a.x,a.y,c.x,c.y,b.x,b.y],.bool true]) (by simp [results,results131,go_sem,Fr]) rfl ⟨rfl,by have hl:=hw.size;go_grown⟩
theorem tmake_p0 (a b c:Pt) (l0:lds ⟨a,b,c⟩=true) (ho:decide (ori a b c < 0)=false) (hv:valT ⟨a,b,c⟩=true) (w:World):Calls prog 131 #[a,b,c] w (Rt w (.tuple #[.agg #[a.x,a.y,b.x,b.y,c.x,c.y],.bool true])):=by
 have k0:=zAx ⟨a,b,c⟩;rw [l0] at k0;dsimp only at k0;have co:=zA5 a b c;have cv:=zBl ⟨a,b,c⟩;rw [hv] at cv;dsimp only at cv;generalize ori a b c=n at *
 clear hv l0
 go_enter func131,ntmps131
 go_wp2_with fail;refine qD5 fun W1 Ba Bb Bc Br Bt hw=>?_;refine wp_loop_rounds 4 ?_;try rw [rounds_succ]
 have Fa:=Ba.f;have Fb:=Bb.f;have Fc:=Bc.f;have Fr:=Br.f;have Ft:=Bt.f;go_wp2_with fail;clear Fa Fb Fc Fr Ft;refine qK5 (k0 _) Ba Bb Bc Br Bt hw fun w2 Ba Bb Bc Br Bt hw=>?_;have Fa:=Ba.f;have Fb:=Bb.f;have Fc:=Bc.f;have Fr:=Br.f;have Ft:=Bt.f;go_wp2_with fail;clear Fa Fb Fc Fr Ft;refine qK5 (co _) Ba Bb Bc Br Bt hw fun w3 Ba Bb Bc Br Bt hw=>?_;have Fa:=Ba.f;have Fb:=Bb.f;have Fc:=Bc.f;have Fr:=Br.f;have Ft:=Bt.f;go_wp2_with fail;clear Fa Fb Fc Fr Ft;refine qK5 (cv _) Ba Bb Bc Br Bt hw fun w4 Ba Bb Bc Br Bt hw=>?_;have Fa:=Ba.f;have Fb:=Bb.f;have Fc:=Bc.f;have Fr:=Br.f;have Ft:=Bt.f;go_wp2_with fail;refine bodyPost_ret (v:=.tuple #[.agg #[a.x,a.y,b.x,b.y,c.x,c.y],.bool true]) (by simp [results,results131,go_sem,Fr]) rfl ⟨rfl,by have hl:=hw.size;go_grown⟩
theorem tmake_z0 (a b c:Pt) (l0:lds ⟨a,b,c⟩=true) (ho:decide (ori a b c < 0)=false) (hv:valT ⟨a,b,c⟩=false) (w:World):Calls prog 131 #[a,b,c] w (Rt w (.tuple #[.agg #[(),(),(),(),(),()],.bool false])):=by
 have k0:=zAx ⟨a,b,c⟩;rw [l0] at k0;dsimp only at k0;have co:=zA5 a b c;have cv:=zBl ⟨a,b,c⟩;rw [hv] at cv;dsimp only at cv;generalize ori a b c=n at *
 clear hv l0
 go_enter func131,ntmps131
 go_wp2_with fail;refine qD5 fun W1 Ba Bb Bc Br Bt hw=>?_;refine wp_loop_rounds 4 ?_;try rw [rounds_succ]
 have Fa:=Ba.f;have Fb:=Bb.f;have Fc:=Bc.f;have Fr:=Br.f;have Ft:=Bt.f;go_wp2_with fail;clear Fa Fb Fc Fr Ft;refine qK5 (k0 _) Ba Bb Bc Br Bt hw fun w2 Ba Bb Bc Br Bt hw=>?_;have Fa:=Ba.f;have Fb:=Bb.f;have Fc:=Bc.f;have Fr:=Br.f;have Ft:=Bt.f;go_wp2_with fail;clear Fa Fb Fc Fr Ft;refine qK5 (co _) Ba Bb Bc Br Bt hw fun w3 Ba Bb Bc Br Bt hw=>?_;have Fa:=Ba.f;have Fb:=Bb.f;have Fc:=Bc.f;have Fr:=Br.f;have Ft:=Bt.f;go_wp2_with fail;clear Fa Fb Fc Fr Ft;refine qK5 (cv _) Ba Bb Bc Br Bt hw fun w4 Ba Bb Bc Br Bt hw=>?_;have Fa:=Ba.f;have Fb:=Bb.f;have Fc:=Bc.f;have Fr:=Br.f;have Ft:=Bt.f;go_wp2_with fail;refine bodyPost_ret (v:=.tuple #[.agg #[(),(),(),(),(),()],.bool false]) (by simp [results,results131,go_sem,Fr]) rfl ⟨rfl,by have hl:=hw.size;go_grown⟩
theorem tmake_n1 (a b c:Pt) (l0:lds ⟨a,b,c⟩=false) (l1:lds ⟨b,c,a⟩=true) (ho:decide (ori b c a < 0)=true) (hv:valT ⟨b,a,c⟩=true) (w:World):Calls prog 131 #[a,b,c] w (Rt w (.tuple #[.agg #[b.x,b.y,a.x,a.y,c.x,c.y],.bool true])):=by
 have k0:=zAx ⟨a,b,c⟩;rw [l0] at k0;dsimp only at k0;have r0:=zBp ⟨a,b,c⟩;dsimp only at r0;have k1:=zAx ⟨b,c,a⟩;rw [l1] at k1;dsimp only at k1;have co:=zA5 b c a;have cv:=zBl ⟨b,a,c⟩;rw [hv] at cv;dsimp only at cv;generalize ori b c a=n at *
 clear hv l0 l1
 go_enter func131,ntmps131
 go_wp2_with fail;refine qD5 fun W1 Ba Bb Bc Br Bt hw=>?_;refine wp_loop_rounds 4 ?_;try rw [rounds_succ]
 have Fa:=Ba.f;have Fb:=Bb.f;have Fc:=Bc.f;have Fr:=Br.f;have Ft:=Bt.f;go_wp2_with fail;clear Fa Fb Fc Fr Ft;refine qK5 (k0 _) Ba Bb Bc Br Bt hw fun w2 Ba Bb Bc Br Bt hw=>?_;have Fa:=Ba.f;have Fb:=Bb.f;have Fc:=Bc.f;have Fr:=Br.f;have Ft:=Bt.f;go_wp2_with fail;clear Fa Fb Fc Fr Ft;refine qK5 (r0 _) Ba Bb Bc Br Bt hw fun w3 Ba Bb Bc Br Bt hw=>?_;have Fa:=Ba.f;have Fb:=Bb.f;have Fc:=Bc.f;have Fr:=Br.f;have Ft:=Bt.f;go_wp2_with fail;refine zA1 fun W4 hW=>?_;replace Ba:=sto Ba hW;replace Bb:=sto Bb hW;replace Bc:=sto Bc hW;replace Br:=sto Br hW;replace Bt:=sto Bt hW;replace hw:=stw hw hW;clear Fa Fb Fc Fr Ft;clear hW;try rw [rounds_succ]
 have Fa:=Ba.f;have Fb:=Bb.f;have Fc:=Bc.f;have Fr:=Br.f;have Ft:=Bt.f;go_wp2_with fail;clear Fa Fb Fc Fr Ft;refine qK5 (k1 _) Ba Bb Bc Br Bt hw fun w5 Ba Bb Bc Br Bt hw=>?_;have Fa:=Ba.f;have Fb:=Bb.f;have Fc:=Bc.f;have Fr:=Br.f;have Ft:=Bt.f;go_wp2_with fail;clear Fa Fb Fc Fr Ft;refine qK5 (co _) Ba Bb Bc Br Bt hw fun w6 Ba Bb Bc Br Bt hw=>?_;have Fa:=Ba.f;have Fb:=Bb.f;have Fc:=Bc.f;have Fr:=Br.f;have Ft:=Bt.f;go_wp2_with fail;refine zA4 fun W7 hW=>?_;replace Ba:=sto Ba hW;replace Bb:=sto Bb hW;replace Bc:=sto Bc hW;replace Br:=sto Br hW;replace Bt:=sto Bt hW;replace hw:=stw hw hW;clear Fa Fb Fc Fr Ft;clear hW;refine qK5 (cv _) Ba Bb Bc Br Bt hw fun w8 Ba Bb Bc Br Bt hw=>?_;have Fa:=Ba.f;have Fb:=Bb.f;have Fc:=Bc.f;have Fr:=Br.f;have Ft:=Bt.f;go_wp2_with fail;refine bodyPost_ret (v:=.tuple #[.agg #[b.x,b.y,a.x,a.y,c.x,c.y],.bool true]) (by simp [results,results131,go_sem,Fr]) rfl ⟨rfl,by have hl:=hw.size;go_grown⟩
theorem tmake_p1 (a b c:Pt) (l0:lds ⟨a,b,c⟩=false) (l1:lds ⟨b,c,a⟩=true) (ho:decide (ori b c a < 0)=false) (hv:valT ⟨b,c,a⟩=true) (w:World):Calls prog 131 #[a,b,c] w (Rt w (.tuple #[.agg #[b.x,b.y,c.x,c.y,a.x,a.y],.bool true])):=by
 have k0:=zAx ⟨a,b,c⟩;rw [l0] at k0;dsimp only at k0;have r0:=zBp ⟨a,b,c⟩;dsimp only at r0;have k1:=zAx ⟨b,c,a⟩;rw [l1] at k1;dsimp only at k1;have co:=zA5 b c a;have cv:=zBl ⟨b,c,a⟩;rw [hv] at cv;dsimp only at cv;generalize ori b c a=n at *
 clear hv l0 l1
 go_enter func131,ntmps131
 go_wp2_with fail;refine qD5 fun W1 Ba Bb Bc Br Bt hw=>?_;refine wp_loop_rounds 4 ?_;try rw [rounds_succ]
 have Fa:=Ba.f;have Fb:=Bb.f;have Fc:=Bc.f;have Fr:=Br.f;have Ft:=Bt.f;go_wp2_with fail;clear Fa Fb Fc Fr Ft;refine qK5 (k0 _) Ba Bb Bc Br Bt hw fun w2 Ba Bb Bc Br Bt hw=>?_;have Fa:=Ba.f;have Fb:=Bb.f;have Fc:=Bc.f;have Fr:=Br.f;have Ft:=Bt.f;go_wp2_with fail;clear Fa Fb Fc Fr Ft;refine qK5 (r0 _) Ba Bb Bc Br Bt hw fun w3 Ba Bb Bc Br Bt hw=>?_;have Fa:=Ba.f;have Fb:=Bb.f;have Fc:=Bc.f;have Fr:=Br.f;have Ft:=Bt.f;go_wp2_with fail;refine zA1 fun W4 hW=>?_;replace Ba:=sto Ba hW;replace Bb:=sto Bb hW;replace Bc:=sto Bc hW;replace Br:=sto Br hW;replace Bt:=sto Bt hW;replace hw:=stw hw hW;clear Fa Fb Fc Fr Ft;clear hW;try rw [rounds_succ]
 have Fa:=Ba.f;have Fb:=Bb.f;have Fc:=Bc.f;have Fr:=Br.f;have Ft:=Bt.f;go_wp2_with fail;clear Fa Fb Fc Fr Ft;refine qK5 (k1 _) Ba Bb Bc Br Bt hw fun w5 Ba Bb Bc Br Bt hw=>?_;have Fa:=Ba.f;have Fb:=Bb.f;have Fc:=Bc.f;have Fr:=Br.f;have Ft:=Bt.f;go_wp2_with fail;clear Fa Fb Fc Fr Ft;refine qK5 (co _) Ba Bb Bc Br Bt hw fun w6 Ba Bb Bc Br Bt hw=>?_;have Fa:=Ba.f;have Fb:=Bb.f;have Fc:=Bc.f;have Fr:=Br.f;have Ft:=Bt.f;go_wp2_with fail;clear Fa Fb Fc Fr Ft;refine qK5 (cv _) Ba Bb Bc Br Bt hw fun w7 Ba Bb Bc Br Bt hw=>?_;have Fa:=Ba.f;have Fb:=Bb.f;have Fc:=Bc.f;have Fr:=Br.f;have Ft:=Bt.f;go_wp2_with fail;refine bodyPost_ret (v:=.tuple #[.agg #[b.x,b.y,c.x,c.y,a.x,a.y],.bool true]) (by simp [results,results131,go_sem,Fr]) rfl ⟨rfl,by have hl:=hw.size;go_grown⟩
theorem tmake_z1 (a b c:Pt) (l0:lds ⟨a,b,c⟩=false) (l1:lds ⟨b,c,a⟩=true) (ho:decide (ori b c a < 0)=false) (hv:valT ⟨b,c,a⟩=false) (w:World):Calls prog 131 #[a,b,c] w (Rt w (.tuple #[.agg #[(),(),(),(),(),()],.bool false])):=by
 have k0:=zAx ⟨a,b,c⟩;rw [l0] at k0;dsimp only at k0;have r0:=zBp ⟨a,b,c⟩;dsimp only at r0;have k1:=zAx ⟨b,c,a⟩;rw [l1] at k1;dsimp only at k1;have co:=zA5 b c a;have cv:=zBl ⟨b,c,a⟩;rw [hv] at cv;dsimp only at cv;generalize ori b c a=n at *
 clear hv l0 l1
 go_enter func131,ntmps131
 go_wp2_with fail;refine qD5 fun W1 Ba Bb Bc Br Bt hw=>?_;refine wp_loop_rounds 4 ?_;try rw [rounds_succ]
 have Fa:=Ba.f;have Fb:=Bb.f;have Fc:=Bc.f;have Fr:=Br.f;have Ft:=Bt.f;go_wp2_with fail;clear Fa Fb Fc Fr Ft;refine qK5 (k0 _) Ba Bb Bc Br Bt hw fun w2 Ba Bb Bc Br Bt hw=>?_;have Fa:=Ba.f;have Fb:=Bb.f;have Fc:=Bc.f;have Fr:=Br.f;have Ft:=Bt.f;go_wp2_with fail;clear Fa Fb Fc Fr Ft;refine qK5 (r0 _) Ba Bb Bc Br Bt hw fun w3 Ba Bb Bc Br Bt hw=>?_;have Fa:=Ba.f;have Fb:=Bb.f;have Fc:=Bc.f;have Fr:=Br.f;have Ft:=Bt.f;go_wp2_with fail;refine zA1 fun W4 hW=>?_;replace Ba:=sto Ba hW;replace Bb:=sto Bb hW;replace Bc:=sto Bc hW;replace Br:=sto Br hW;replace Bt:=sto Bt hW;replace hw:=stw hw hW;clear Fa Fb Fc Fr Ft;clear hW;try rw [rounds_succ]
 have Fa:=Ba.f;have Fb:=Bb.f;have Fc:=Bc.f;have Fr:=Br.f;have Ft:=Bt.f;go_wp2_with fail;clear Fa Fb Fc Fr Ft;refine qK5 (k1 _) Ba Bb Bc Br Bt hw fun w5 Ba Bb Bc Br Bt hw=>?_;have Fa:=Ba.f;have Fb:=Bb.f;have Fc:=Bc.f;have Fr:=Br.f;have Ft:=Bt.f;go_wp2_with fail;clear Fa Fb Fc Fr Ft;refine qK5 (co _) Ba Bb Bc Br Bt hw fun w6 Ba Bb Bc Br Bt hw=>?_;have Fa:=Ba.f;have Fb:=Bb.f;have Fc:=Bc.f;have Fr:=Br.f;have Ft:=Bt.f;go_wp2_with fail;clear Fa Fb Fc Fr Ft;refine qK5 (cv _) Ba Bb Bc Br Bt hw fun w7 Ba Bb Bc Br Bt hw=>?_;have Fa:=Ba.f;have Fb:=Bb.f;have Fc:=Bc.f;have Fr:=Br.f;have Ft:=Bt.f;go_wp2_with fail;refine bodyPost_ret (v:=.tuple #[.agg #[(),(),(),(),(),()],.bool false]) (by simp [results,results131,go_sem,Fr]) rfl ⟨rfl,by have hl:=hw.size;go_grown⟩
theorem tmake_n2 (a b c:Pt) (l0:lds ⟨a,b,c⟩=false) (l1:lds ⟨b,c,a⟩=false) (l2:lds ⟨c,a,b⟩=true) (ho:decide (ori c a b < 0)=true) (hv:valT ⟨c,b,a⟩=true) (w:World):Calls prog 131 #[a,b,c] w (Rt w (.tuple #[.agg #[c.x,c.y,b.x,b.y,a.x,a.y],.bool true])):=by
 have k0:=zAx ⟨a,b,c⟩;rw [l0] at k0;dsimp only at k0;have r0:=zBp ⟨a,b,c⟩;dsimp only at r0;have k1:=zAx ⟨b,c,a⟩;rw [l1] at k1;dsimp only at k1;have r1:=zBp ⟨b,c,a⟩;dsimp only at r1;have k2:=zAx ⟨c,a,b⟩;rw [l2] at k2;dsimp only at k2;have co:=zA5 c a b;have cv:=zBl ⟨c,b,a⟩;rw [hv] at cv;dsimp only at cv;generalize ori c a b=n at *
 clear hv l0 l1 l2
 go_enter func131,ntmps131
 go_wp2_with fail;refine qD5 fun W1 Ba Bb Bc Br Bt hw=>?_;refine wp_loop_rounds 4 ?_;try rw [rounds_succ]
 have Fa:=Ba.f;have Fb:=Bb.f;have Fc:=Bc.f;have Fr:=Br.f;have Ft:=Bt.f;go_wp2_with fail;clear Fa Fb Fc Fr Ft;refine qK5 (k0 _) Ba Bb Bc Br Bt hw fun w2 Ba Bb Bc Br Bt hw=>?_;have Fa:=Ba.f;have Fb:=Bb.f;have Fc:=Bc.f;have Fr:=Br.f;have Ft:=Bt.f;go_wp2_with fail;clear Fa Fb Fc Fr Ft;refine qK5 (r0 _) Ba Bb Bc Br Bt hw fun w3 Ba Bb Bc Br Bt hw=>?_;have Fa:=Ba.f;have Fb:=Bb.f;have Fc:=Bc.f;have Fr:=Br.f;have Ft:=Bt.f;go_wp2_with fail;refine zA1 fun W4 hW=>?_;replace Ba:=sto Ba hW;replace Bb:=sto Bb hW;replace Bc:=sto Bc hW;replace Br:=sto Br hW;replace Bt:=sto Bt hW;replace hw:=stw hw hW;clear Fa Fb Fc Fr Ft;clear hW;try rw [rounds_succ]
 have Fa:=Ba.f;have Fb:=Bb.f;have Fc:=Bc.f;have Fr:=Br.f;have Ft:=Bt.f;go_wp2_with fail;clear Fa Fb Fc Fr Ft;refine qK5 (k1 _) Ba Bb Bc Br Bt hw fun w5 Ba Bb Bc Br Bt hw=>?_;have Fa:=Ba.f;have Fb:=Bb.f;have Fc:=Bc.f;have Fr:=Br.f;have Ft:=Bt.f;go_wp2_with fail;clear Fa Fb Fc Fr Ft;refine qK5 (r1 _) Ba Bb Bc Br Bt hw fun w6 Ba Bb Bc Br Bt hw=>?_;have Fa:=Ba.f;have Fb:=Bb.f;have Fc:=Bc.f;have Fr:=Br.f;have Ft:=Bt.f;go_wp2_with fail;refine zA1 fun W7 hW=>?_;replace Ba:=sto Ba hW;replace Bb:=sto Bb hW;replace Bc:=sto Bc hW;replace Br:=sto Br hW;replace Bt:=sto Bt hW;replace hw:=stw hw hW;clear Fa Fb Fc Fr Ft;clear hW;try rw [rounds_succ]
 have Fa:=Ba.f;have Fb:=Bb.f;have Fc:=Bc.f;have Fr:=Br.f;have Ft:=Bt.f;go_wp2_with fail;clear Fa Fb Fc Fr Ft;refine qK5 (k2 _) Ba Bb Bc Br Bt hw fun w8 Ba Bb Bc Br Bt hw=>?_;have Fa:=Ba.f;have Fb:=Bb.f;have Fc:=Bc.f;have Fr:=Br.f;have Ft:=Bt.f;go_wp2_with fail;clear Fa Fb Fc Fr Ft;refine qK5 (co _) Ba Bb Bc Br Bt hw fun w9 Ba Bb Bc Br Bt hw=>?_;have Fa:=Ba.f;have Fb:=Bb.f;have Fc:=Bc.f;have Fr:=Br.f;have Ft:=Bt.f;go_wp2_with fail;refine zA4 fun W10 hW=>?_;replace Ba:=sto Ba hW;replace Bb:=sto Bb hW;replace Bc:=sto Bc hW;replace Br:=sto Br hW;replace Bt:=sto Bt hW;replace hw:=stw hw hW;clear Fa Fb Fc Fr Ft;clear hW;refine qK5 (cv _) Ba Bb Bc Br Bt hw fun w11 Ba Bb Bc Br Bt hw=>?_;have Fa:=Ba.f;have Fb:=Bb.f;have Fc:=Bc.f;have Fr:=Br.f;have Ft:=Bt.f;go_wp2_with fail;refine bodyPost_ret (v:=.tuple #[.agg #[c.x,c.y,b.x,b.y,a.x,a.y],.bool true]) (by simp [results,results131,go_sem,Fr]) rfl ⟨rfl,by have hl:=hw.size;go_grown⟩
theorem tmake_p2 (a b c:Pt) (l0:lds ⟨a,b,c⟩=false) (l1:lds ⟨b,c,a⟩=false) (l2:lds ⟨c,a,b⟩=true) (ho:decide (ori c a b < 0)=false) (hv:valT ⟨c,a,b⟩=true) (w:World):Calls prog 131 #[a,b,c] w (Rt w (.tuple #[.agg #[c.x,c.y,a.x,a.y,b.x,b.y],.bool true])):=by
 have k0:=zAx ⟨a,b,c⟩;rw [l0] at k0;dsimp only at k0;have r0:=zBp ⟨a,b,c⟩;dsimp only at r0;have k1:=zAx ⟨b,c,a⟩;rw [l1] at k1;dsimp only at k1;have r1:=zBp ⟨b,c,a⟩;dsimp only at r1;have k2:=zAx ⟨c,a,b⟩;rw [l2] at k2;dsimp only at k2;have co:=zA5 c a b;have cv:=zBl ⟨c,a,b⟩;rw [hv] at cv;dsimp only at cv;generalize ori c a b=n at *
 clear hv l0 l1 l2
 go_enter func131,ntmps131
 go_wp2_with fail;refine qD5 fun W1 Ba Bb Bc Br Bt hw=>?_;refine wp_loop_rounds 4 ?_;try rw [rounds_succ]
 have Fa:=Ba.f;have Fb:=Bb.f;have Fc:=Bc.f;have Fr:=Br.f;have Ft:=Bt.f;go_wp2_with fail;clear Fa Fb Fc Fr Ft;refine qK5 (k0 _) Ba Bb Bc Br Bt hw fun w2 Ba Bb Bc Br Bt hw=>?_;have Fa:=Ba.f;have Fb:=Bb.f;have Fc:=Bc.f;have Fr:=Br.f;have Ft:=Bt.f;go_wp2_with fail;clear Fa Fb Fc Fr Ft;refine qK5 (r0 _) Ba Bb Bc Br Bt hw fun w3 Ba Bb Bc Br Bt hw=>?_;have Fa:=Ba.f;have Fb:=Bb.f;have Fc:=Bc.f;have Fr:=Br.f;have Ft:=Bt.f;go_wp2_with fail;refine zA1 fun W4 hW=>?_;replace Ba:=sto Ba hW;replace Bb:=sto Bb hW;replace Bc:=sto Bc hW;replace Br:=sto Br hW;replace Bt:=sto Bt hW;replace hw:=stw hw hW;clear Fa Fb Fc Fr Ft;clear hW;try rw [rounds_succ]
 have Fa:=Ba.f;have Fb:=Bb.f;have Fc:=Bc.f;have Fr:=Br.f;have Ft:=Bt.f;go_wp2_with fail;clear Fa Fb Fc Fr Ft;refine qK5 (k1 _) Ba Bb Bc Br Bt hw fun w5 Ba Bb Bc Br Bt hw=>?_;have Fa:=Ba.f;have Fb:=Bb.f;have Fc:=Bc.f;have Fr:=Br.f;have Ft:=Bt.f;go_wp2_with fail;clear Fa Fb Fc Fr Ft;refine qK5 (r1 _) Ba Bb Bc Br Bt hw fun w6 Ba Bb Bc Br Bt hw=>?_;have Fa:=Ba.f;have Fb:=Bb.f;have Fc:=Bc.f;have Fr:=Br.f;have Ft:=Bt.f;go_wp2_with fail;refine zA1 fun W7 hW=>?_;replace Ba:=sto Ba hW;replace Bb:=sto Bb hW;replace Bc:=sto Bc hW;replace Br:=sto Br hW;replace Bt:=sto Bt hW;replace hw:=stw hw hW;clear Fa Fb Fc Fr Ft;clear hW;try rw [rounds_succ]
 have Fa:=Ba.f;have Fb:=Bb.f;have Fc:=Bc.f;have Fr:=Br.f;have Ft:=Bt.f;go_wp2_with fail;clear Fa Fb Fc Fr Ft;refine qK5 (k2 _) Ba Bb Bc Br Bt hw fun w8 Ba Bb Bc Br Bt hw=>?_;have Fa:=Ba.f;have Fb:=Bb.f;have Fc:=Bc.f;have Fr:=Br.f;have Ft:=Bt.f;go_wp2_with fail;clear Fa Fb Fc Fr Ft;refine qK5 (co _) Ba Bb Bc Br Bt hw fun w9 Ba Bb Bc Br Bt hw=>?_;have Fa:=Ba.f;have Fb:=Bb.f;have Fc:=Bc.f;have Fr:=Br.f;have Ft:=Bt.f;go_wp2_with fail;clear Fa Fb Fc Fr Ft;refine qK5 (cv _) Ba Bb Bc Br Bt hw fun w10 Ba Bb Bc Br Bt hw=>?_;have Fa:=Ba.f;have Fb:=Bb.f;have Fc:=Bc.f;have Fr:=Br.f;have Ft:=Bt.f;go_wp2_with fail;refine bodyPost_ret (v:=.tuple #[.agg #[c.x,c.y,a.x,a.y,b.x,b.y],.bool true]) (by simp [results,results131,go_sem,Fr]) rfl ⟨rfl,by have hl:=hw.size;go_grown⟩
theorem tmake_z2 (a b c:Pt) (l0:lds ⟨a,b,c⟩=false) (l1:lds ⟨b,c,a⟩=false) (l2:lds ⟨c,a,b⟩=true) (ho:decide (ori c a b < 0)=false) (hv:valT ⟨c,a,b⟩=false) (w:World):Calls prog 131 #[a,b,c] w (Rt w (.tuple #[.agg #[(),(),(),(),(),()],.bool false])):=by
 have k0:=zAx ⟨a,b,c⟩;rw [l0] at k0;dsimp only at k0;have r0:=zBp ⟨a,b,c⟩;dsimp only at r0;have k1:=zAx ⟨b,c,a⟩;rw [l1] at k1;dsimp only at k1;have r1:=zBp ⟨b,c,a⟩;dsimp only at r1;have k2:=zAx ⟨c,a,b⟩;rw [l2] at k2;dsimp only at k2;have co:=zA5 c a b;have cv:=zBl ⟨c,a,b⟩;rw [hv] at cv;dsimp only at cv;generalize ori c a b=n at *
 clear hv l0 l1 l2
 go_enter func131,ntmps131
 go_wp2_with fail;refine qD5 fun W1 Ba Bb Bc Br Bt hw=>?_;refine wp_loop_rounds 4 ?_;try rw [rounds_succ]
 have Fa:=Ba.f;have Fb:=Bb.f;have Fc:=Bc.f;have Fr:=Br.f;have Ft:=Bt.f;go_wp2_with fail;clear Fa Fb Fc Fr Ft;refine qK5 (k0 _) Ba Bb Bc Br Bt hw fun w2 Ba Bb Bc Br Bt hw=>?_;have Fa:=Ba.f;have Fb:=Bb.f;have Fc:=Bc.f;have Fr:=Br.f;have Ft:=Bt.f;go_wp2_with fail;clear Fa Fb Fc Fr Ft;refine qK5 (r0 _) Ba Bb Bc Br Bt hw fun w3 Ba Bb Bc Br Bt hw=>?_;have Fa:=Ba.f;have Fb:=Bb.f;have Fc:=Bc.f;have Fr:=Br.f;have Ft:=Bt.f;go_wp2_with fail;refine zA1 fun W4 hW=>?_;replace Ba:=sto Ba hW;replace Bb:=sto Bb hW;replace Bc:=sto Bc hW;replace Br:=sto Br hW;replace Bt:=sto Bt hW;replace hw:=stw hw hW;clear Fa Fb Fc Fr Ft;clear hW;try rw [rounds_succ]
 have Fa:=Ba.f;have Fb:=Bb.f;have Fc:=Bc.f;have Fr:=Br.f;have Ft:=Bt.f;go_wp2_with fail;clear Fa Fb Fc Fr Ft;refine qK5 (k1 _) Ba Bb Bc Br Bt hw fun w5 Ba Bb Bc Br Bt hw=>?_;have Fa:=Ba.f;have Fb:=Bb.f;have Fc:=Bc.f;have Fr:=Br.f;have Ft:=Bt.f;go_wp2_with fail;clear Fa Fb Fc Fr Ft;refine qK5 (r1 _) Ba Bb Bc Br Bt hw fun w6 Ba Bb Bc Br Bt hw=>?_;have Fa:=Ba.f;have Fb:=Bb.f;have Fc:=Bc.f;have Fr:=Br.f;have Ft:=Bt.f;go_wp2_with fail;refine zA1 fun W7 hW=>?_;replace Ba:=sto Ba hW;replace Bb:=sto Bb hW;replace Bc:=sto Bc hW;replace Br:=sto Br hW;replace Bt:=sto Bt hW;replace hw:=stw hw hW;clear Fa Fb Fc Fr Ft;clear hW;try rw [rounds_succ]
 have Fa:=Ba.f;have Fb:=Bb.f;have Fc:=Bc.f;have Fr:=Br.f;have Ft:=Bt.f;go_wp2_with fail;clear Fa Fb Fc Fr Ft;refine qK5 (k2 _) Ba Bb Bc Br Bt hw fun w8 Ba Bb Bc Br Bt hw=>?_;have Fa:=Ba.f;have Fb:=Bb.f;have Fc:=Bc.f;have Fr:=Br.f;have Ft:=Bt.f;go_wp2_with fail;clear Fa Fb Fc Fr Ft;refine qK5 (co _) Ba Bb Bc Br Bt hw fun w9 Ba Bb Bc Br Bt hw=>?_;have Fa:=Ba.f;have Fb:=Bb.f;have Fc:=Bc.f;have Fr:=Br.f;have Ft:=Bt.f;go_wp2_with fail;clear Fa Fb Fc Fr Ft;refine qK5 (cv _) Ba Bb Bc Br Bt hw fun w10 Ba Bb Bc Br Bt hw=>?_;have Fa:=Ba.f;have Fb:=Bb.f;have Fc:=Bc.f;have Fr:=Br.f;have Ft:=Bt.f;go_wp2_with fail;refine bodyPost_ret (v:=.tuple #[.agg #[(),(),(),(),(),()],.bool false]) (by simp [results,results131,go_sem,Fr]) rfl ⟨rfl,by have hl:=hw.size;go_grown⟩
end
section
open Go.RowKit Go.Sort
attribute [local go_sem] rOper rAt rUpon cell_set sg_i64 sg_u64 alloc_cell alloc_frozen
attribute [local go_sem 10000] pt_eql pt_neq
attribute [local irreducible] rWalk
theorem zO6 {p q:Pt}:leq p q=true↔p.x < q.x∨(p.x=q.x∧p.y≤q.y):=by
 unfold leq cmpP cmpN sgn;rw [jA4]
 (repeat' split) <;> omega
theorem zO7 {T:Tri3}:lds T=true↔(T.A.x < T.B.x∨(T.A.x=T.B.x∧T.A.y≤T.B.y))∧(T.A.x < T.C.x∨(T.A.x=T.C.x∧T.A.y≤T.C.y)):=by
 unfold lds;rw [jA3,zO6,zO6]
theorem lead_some (a b c:Pt) (h1:lds ⟨a,b,c⟩=false) (h2:lds ⟨b,c,a⟩=false):lds ⟨c,a,b⟩=true:=by
 rw [←jBl,zO7] at h1 h2;rw [zO7];simp only at h1 h2 ⊢;omega
theorem zO2 {x y z:Pt} (hx:vld x=true) (hy:vld y=true) (hz:vld z=true) (n1:key x≠key y) (n2:key x≠key z) (n3:key y≠key z):mkT y z x=mkT x y z:=by
 rcases zEf hx hy hz n1 n2 n3 with ⟨u1,u2,e⟩ | ⟨u1,u2,e⟩ | ⟨u1,u2,e⟩ <;> rcases zEf hy hz hx n3 n1.symm n2.symm with ⟨v1,v2,f⟩ | ⟨v1,v2,f⟩ | ⟨v1,v2,f⟩ <;> first | (exfalso;omega) | rw [e,f]
theorem zKp {a b c:Pt} (h:ori a b c=0):mk a b c=⟨⟨0,0⟩,⟨0,0⟩,⟨0,0⟩⟩:=by unfold mk;rw [jAc h]
theorem zMc {a b c:Pt} (h0:¬ ori a b c=0):vld a=true∧vld b=true∧vld c=true∧key a≠key b∧key a≠key c∧key b≠key c:=by
 obtain ⟨va,vb,vc⟩:=zBy h0;obtain ⟨d1,d2,d3⟩:=zBm h0;exact ⟨va,vb,vc,fun h=>d1 (zBo va vb h).symm,fun h=>d2 (zBo va vc h).symm,fun h=>d3 (zBo vb vc h).symm⟩
theorem zJq (a b c:Pt):mk b c a=mk a b c:=by
 by_cases h0:ori a b c=0
 ·rw [zKp h0,zKp (by rw [zBn];exact h0)]
 ·obtain ⟨va,vb,vc,n1,n2,n3⟩:=zMc h0;unfold mk;rw [zBn,jA0 h0,jA0 h0,zO2 va vb vc n1 n2 n3,zO2 vb va vc n1.symm n3 n2]
theorem mk_swap (a b c:Pt):mk a c b=mk a b c:=by
 have hb:=zAw a b c;unfold mk;rw [zEe];by_cases h0:ori a b c=0
 ·simp [h0]
 ·rw [jA0 h0,jA0 (by omega)];by_cases h1:ori a b c=1
  ·rw [jAc h1,jA0 (by omega)]
  ·rw [jA0 h1,jAc (by omega)]
theorem val_mk {x y z:Pt} (h:valT ⟨x,y,z⟩=true):mk x y z=⟨x,y,z⟩:=by
 unfold valT at h;simp only [jA3,zE8] at h;exact h.2
theorem val_of {x y z:Pt} (ho:0 < ori x y z) (hl:lds ⟨x,y,z⟩=true):valT ⟨x,y,z⟩=true:=by
 rw [zJe];unfold valS;simp [ho,hl]
theorem val_none {x y z:Pt} (ho:ori x y z=0):valT ⟨x,y,z⟩=false:=by
 rw [zJe];unfold valS;simp [ho]
theorem lds_swap {x y z:Pt} (hl:lds ⟨x,y,z⟩=true):lds ⟨x,z,y⟩=true:=by
 unfold lds at hl ⊢;simp only at hl ⊢;rw [Bool.and_comm];exact hl
theorem ori_swap2' (x y z:Pt):ori x z y = -ori x y z:=zEe x y z
theorem zK3 (a b c:Pt) (w:World):Calls prog 131 #[a,b,c] w (Rt w (.tuple #[.agg #[.int .i64 (mk a b c).A.x,.int .i64 (mk a b c).A.y,.int .i64 (mk a b c).B.x,.int .i64 (mk a b c).B.y,.int .i64 (mk a b c).C.x,.int .i64 (mk a b c).C.y],.bool (!decide (ori a b c=0))])):=by
 have main : ∀ {x y z : Pt}, ori x y z = ori a b c → mk x y z = mk a b c → lds ⟨x, y, z⟩ = true →
     (ori x y z=0∧decide (ori x y z < 0)=false∧valT ⟨x,y,z⟩=false∧mk a b c=⟨⟨0,0⟩,⟨0,0⟩,⟨0,0⟩⟩∧(!decide (ori a b c=0))=false) ∨
     (decide (ori x y z < 0)=false∧valT ⟨x,y,z⟩=true∧mk a b c=⟨x,y,z⟩∧(!decide (ori a b c=0))=true) ∨
     (decide (ori x y z < 0)=true∧valT ⟨x,z,y⟩=true∧mk a b c=⟨x,z,y⟩∧(!decide (ori a b c=0))=true):=by
  intro x y z e1 e2 hl;by_cases h0:ori x y z=0
  ·left
   exact ⟨h0,by simp [h0],val_none h0,by rw [←e2];exact zKp h0,by rw [←e1];simp [h0]⟩
  ·right
   by_cases h1:ori x y z < 0
   ·right
    have hv:valT ⟨x,z,y⟩=true:=val_of (by rw [ori_swap2'];omega) (lds_swap hl);exact ⟨by simp [h1],hv,by rw [←e2,←mk_swap];exact val_mk hv,by rw [←e1];simp [h0]⟩
   ·left
    have hv:valT ⟨x,y,z⟩=true:=val_of (by omega) hl;exact ⟨by simp;omega,hv,by rw [←e2];exact val_mk hv,by rw [←e1];simp [h0]⟩
 cases l0:lds ⟨a,b,c⟩ with
 | true=>
  rcases main (x:=a) (y:=b) (z:=c) rfl rfl l0 with ⟨_,p,q,e,f⟩ | ⟨p,q,e,f⟩ | ⟨p,q,e,f⟩ <;> rw [e,f]
  ·exact tmake_z0 a b c l0 p q w
  ·exact tmake_p0 a b c l0 p q w
  ·exact tmake_n0 a b c l0 p q w
 | false=>cases l1:lds ⟨b,c,a⟩ with
  | true=>
   rcases main (x:=b) (y:=c) (z:=a) (zBn a b c) (zJq a b c) l1 with ⟨_,p,q,e,f⟩ | ⟨p,q,e,f⟩ | ⟨p,q,e,f⟩ <;> rw [e,f]
   ·exact tmake_z1 a b c l0 l1 p q w
   ·exact tmake_p1 a b c l0 l1 p q w
   ·exact tmake_n1 a b c l0 l1 p q w
  | false=>
   have l2:=lead_some a b c l0 l1;rcases main (x:=c) (y:=a) (z:=b) (by rw [zBn,zBn]) (by rw [zJq,zJq]) l2 with ⟨_,p,q,e,f⟩ | ⟨p,q,e,f⟩ | ⟨p,q,e,f⟩ <;> rw [e,f]
   ·exact tmake_z2 a b c l0 l1 l2 p q w
   ·exact tmake_p2 a b c l0 l1 l2 p q w
   ·exact tmake_n2 a b c l0 l1 l2 p q w
end
section
open Go.RowKit
theorem mk_ok {a b c:Pt} (h0:¬ ori a b c=0):valT (mk a b c)=true∧(mk a b c=⟨a,b,c⟩∨mk a b c=⟨b,c,a⟩∨mk a b c=⟨c,a,b⟩∨mk a b c=⟨a,c,b⟩∨mk a b c=⟨c,b,a⟩∨mk a b c=⟨b,a,c⟩):=by
 obtain ⟨va,vb,vc,n1,n2,n3⟩:=zMc h0;have hb:=zAw a b c;rw [zJe];unfold valS lds;by_cases h1:ori a b c=1
 ·have e0:mk a b c=mkT a b c:=by unfold mk;rw [jA0 h0,jAc h1]
  rw [e0];rcases zEf va vb vc n1 n2 n3 with ⟨x1,x2,e⟩ | ⟨x1,x2,e⟩ | ⟨x1,x2,e⟩ <;> rw [e] <;> simp only
  ·rw [zC1 va vb,zC1 va vc];refine ⟨?_,by simp⟩;simp only [jA3,jA4];omega
  ·rw [zBn,zC1 vb vc,zC1 vb va];refine ⟨?_,by simp⟩;simp only [jA3,jA4];omega
  ·rw [zBn,zBn,zC1 vc va,zC1 vc vb];refine ⟨?_,by simp⟩;simp only [jA3,jA4];omega
 ·have e0:mk a b c=mkT a c b:=by unfold mk;rw [jA0 h0,jA0 h1]
  have h2:ori a c b=1:=by rw [zEe];omega
  rw [e0];rcases zEf va vc vb n2 n1 n3.symm with ⟨x1,x2,e⟩ | ⟨x1,x2,e⟩ | ⟨x1,x2,e⟩ <;> rw [e] <;> simp only
  ·rw [zC1 va vb,zC1 va vc];refine ⟨?_,by simp⟩;simp only [jA3,jA4];omega
  ·rw [zBn,zC1 vc vb,zC1 vc va];refine ⟨?_,by simp⟩;simp only [jA3,jA4];omega
  ·rw [zBn,zBn,zC1 vb va,zC1 vb vc];refine ⟨?_,by simp⟩;simp only [jA3,jA4];omega
theorem zFk {T:Tri3} (h:valT T=true):vld T.A=true∧vld T.B=true∧vld T.C=true∧0 < det T.A T.B T.C:=by
 obtain ⟨va,vb,vc⟩:=valT_vld h;rw [zJe] at h;unfold valS at h;simp only [jA3,jA4] at h;have h1:=h.1;rw [ori_v va vb vc] at h1;have:=zA8 (det T.A T.B T.C);exact ⟨va,vb,vc,by omega⟩
theorem zEo (a b c p:Pt):det a b p+det b c p+det c a p=det a b c:=by unfold det;grind
theorem corner0 {a b c:Pt} (p:Pt) (hD:0 < det a b c):p=a↔det a b p=0∧det c a p=0:=by
 constructor
 ·intro h;subst h;constructor <;> (unfold det;grind)
 ·intro ⟨h1,h2⟩;have e1:det a b c * (p.x - a.x)=det c a p * (b.x - a.x)+det a b p * (c.x - a.x):=by unfold det;grind
  have e2:det a b c * (p.y - a.y)=det c a p * (b.y - a.y)+det a b p * (c.y - a.y):=by unfold det;grind
  rw [h1,h2] at e1 e2;simp only [jB1,jD1] at e1 e2;rw [Pt.eq_iff];rcases jA7.1 e1 with h | h
  ·omega
  ·rcases jA7.1 e2 with h' | h'
   ·omega
   ·omega
theorem zJ5 {a b c:Pt} (ha:vld a=true) (hb:vld b=true) (hc:vld c=true) : -562949886312450≤det a b c∧det a b c≤562949886312450:=by
 have:=cr_bd (zE0 ha hb) (zE0 ha hc);exact this
theorem zOu {a b p:Pt} (va:vld a=true) (vb:vld b=true) (vp:vld p=true):(0 < ori a b p↔0 < det a b p)∧(0≤ori a b p↔0≤det a b p)∧(ori a b p=0↔det a b p=0):=by
 rw [ori_v va vb vp];have:=zA8 (det a b p);omega
end
end Go.Proofs.YtogffkimgmlilaaGreat
