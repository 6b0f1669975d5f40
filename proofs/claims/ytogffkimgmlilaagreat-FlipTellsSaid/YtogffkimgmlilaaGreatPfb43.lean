/- Put together: FlowC, FlpA, FlpB, FlpC, FlpD. -/
import Derived.Test.YtogffkimgmlilaaGreatPfb34
set_option maxRecDepth 100000
set_option maxHeartbeats 8000000
set_option linter.all false
namespace Go.Proofs.YtogffkimgmlilaaGreat.FT
open Go.RowKit Go.Sort
variable {P:Program} {Q:Exit→Act→World→Prop}
theorem wp_region_flowC {id:Nat} {a:Act} {w:World} {l:List Oper} (n:Nat) (pl:Plan) (hm:P.follows .mixedOrders=true) (hB:(Region.noSelect l.toArray && decide (n < l.toArray.size) && Region.sinkB .any l.toArray n && Region.chainB .any l.toArray n && planB .any n l.toArray [] pl (Array.replicate l.toArray.size false))=true) (hQ:∀ c x v a w,Q (.panic c) (Act.put a x v) w→Q (.panic c) a w) {C:World→Prop} (hC:∀ w',Below w w w'→C w') (hcl:∀ x y,Ext x y→C x→C y) (h:flow P l.toArray n Q pl C a w):(Code.region id l.toArray true).wp P Q a w:=by
 simp only [jA3,jA4] at hB;obtain ⟨⟨⟨⟨h1,h2⟩,h3⟩,h4⟩,h5⟩:=hB;refine wp_region_any hm ?_;have hx:Ext w { w with drawn:=w.drawn+1 }:=⟨rfl,rfl,rfl,jA9 _,fun _ _=>rfl⟩;exact zIz h1 h2 h3 h4 hQ _ pl C _ a w _ h5 headInv0 (by
  have:=jCk (fun i => !(Array.replicate l.toArray.size false).getD i true) (List.range n);rw [jDv] at this;unfold undone;omega) hcl (hC _ hx) hx h
end Go.Proofs.YtogffkimgmlilaaGreat.FT
namespace Go.Proofs.YtogffkimgmlilaaGreat
open _root_.Go.Proofs.Tryz
section
open Go.RowKit Go.Sort
attribute [local go_sem] rOper rAt rUpon cell_set sg_i64 sg_u64 alloc_cell alloc_frozen
attribute [local go_sem 10000] pt_eql pt_neq tri_eql
attribute [local irreducible] rWalk
def badP (E:Es) (Lw:List Wl) (p q:Pt):Bool:=(lftE E p q).2 && ((lftE E q p).2 && (decide (kindW Lw (lo2 p q) (hi2 p q)=0) && decide (circ p q (apx (lftE E p q).1 p q) (apx (lftE E q p).1 p q)=1)))
def badC (E:Es) (Lw:List Wl) (p q:Pt):Pt×Pt:=if (lftE E p q).2=true∧(lftE E q p).2=true∧kindW Lw (lo2 p q) (hi2 p q)=0 then (apx (lftE E p q).1 p q,apx (lftE E q p).1 p q) else (⟨0,0⟩,⟨0,0⟩)
theorem fbad_a (mb b:Nat) (E:Es) (sb:Nat) (a0:Option Addr) (c n:Nat) (Lw:List Wl) (p q:Pt) (hk:okW (p,q)) (X Y:Tri3) (h1:lftE E p q=(X,false)) (v2:Bool) (h2:lftE E q p=(Y,v2)) (w:World) (Bm:Box w mb [.map (some b)] 81) (Hm:HoldsMap eW eT okW w b E) (S:SetRd w sb a0 c n Lw):Calls prog 84 #[pt0 mb,pt0 sb,p,q] w (Rt w (.tuple #[.agg #[(),()],.agg #[(),()],.bool false])):=by
 have cl:=left_any mb b E p q hk;have cl':=left_any mb b E q p ⟨hk.2,hk.1⟩;have ck:=kind_any sb a0 c n Lw p q;have _:=S;rw [h1] at cl;rw [h2] at cl';clear h1 h2 hk
 go_enter func84,ntmps84
 go_wp2_with fail;refine qE4 fun W1 Ba Bb Bc Bd hw=>?_;refine qC4 (cl _ (Bm.ee hw) (Hm.ee hw)) Ba Bb Bc Bd hw fun w2 Ba Bb Bc Bd hw F_abcd=>?_;go_wp2_with fail;clear F_abcd;refine zA4 fun W3 hW=>?_;obtain ⟨bkx,hbx⟩:∃ b,w2.heap.size=b:=⟨_,rfl⟩;rw [hbx];obtain ⟨lax,lbx,lcx,ldx,fx,Bx,Ba,Bb,Bc,Bd,hw⟩:=qM4 hW hbx Ba Bb Bc Bd hw;clear hW hbx;refine qC5 (cl' _ (Bm.ee hw) (Hm.ee hw)) Ba Bb Bc Bd Bx hw fun w4 Ba Bb Bc Bd Bx hw F_abcdx=>?_;go_wp2_with fail;clear F_abcdx;refine zA1 fun W5 hW=>?_;obtain ⟨bky,hby⟩:∃ b,w4.heap.size=b:=⟨_,rfl⟩;rw [hby];obtain ⟨lay,lby,lcy,ldy,lxy,fy,By,Ba,Bb,Bc,Bd,Bx,hw⟩:=qM5 hW hby Ba Bb Bc Bd Bx hw;clear hW hby;have Fa:=Ba.f;have Fb:=Bb.f;have Fc:=Bc.f;have Fd:=Bd.f;have Fx:=Bx.f;have Fy:=By.f;clear cl cl' ck Bm Hm S
 go_region
 go_wp2;refine bodyPost_ret (v:=.tuple #[.agg #[(),()],.agg #[(),()],.bool false]) (by simp [results,results84,go_sem,Fc,Fd]) rfl ⟨rfl,by have hl:=hw.size;go_grown⟩
theorem fbad_b (mb b:Nat) (E:Es) (sb:Nat) (a0:Option Addr) (c n:Nat) (Lw:List Wl) (p q:Pt) (hk:okW (p,q)) (X Y:Tri3) (h1:lftE E p q=(X,true)) (h2:lftE E q p=(Y,false)) (w:World) (Bm:Box w mb [.map (some b)] 81) (Hm:HoldsMap eW eT okW w b E) (S:SetRd w sb a0 c n Lw):Calls prog 84 #[pt0 mb,pt0 sb,p,q] w (Rt w (.tuple #[.agg #[(),()],.agg #[(),()],.bool false])):=by
 have cl:=left_any mb b E p q hk;have cl':=left_any mb b E q p ⟨hk.2,hk.1⟩;have ck:=kind_any sb a0 c n Lw p q;have _:=S;rw [h1] at cl;rw [h2] at cl';clear h1 h2 hk
 go_enter func84,ntmps84
 go_wp2_with fail;refine qE4 fun W1 Ba Bb Bc Bd hw=>?_;refine qC4 (cl _ (Bm.ee hw) (Hm.ee hw)) Ba Bb Bc Bd hw fun w2 Ba Bb Bc Bd hw F_abcd=>?_;go_wp2_with fail;clear F_abcd;refine zA4 fun W3 hW=>?_;obtain ⟨bkx,hbx⟩:∃ b,w2.heap.size=b:=⟨_,rfl⟩;rw [hbx];obtain ⟨lax,lbx,lcx,ldx,fx,Bx,Ba,Bb,Bc,Bd,hw⟩:=qM4 hW hbx Ba Bb Bc Bd hw;clear hW hbx;refine qC5 (cl' _ (Bm.ee hw) (Hm.ee hw)) Ba Bb Bc Bd Bx hw fun w4 Ba Bb Bc Bd Bx hw F_abcdx=>?_;go_wp2_with fail;clear F_abcdx;refine zA1 fun W5 hW=>?_;obtain ⟨bky,hby⟩:∃ b,w4.heap.size=b:=⟨_,rfl⟩;rw [hby];obtain ⟨lay,lby,lcy,ldy,lxy,fy,By,Ba,Bb,Bc,Bd,Bx,hw⟩:=qM5 hW hby Ba Bb Bc Bd Bx hw;clear hW hby;have Fa:=Ba.f;have Fb:=Bb.f;have Fc:=Bc.f;have Fd:=Bd.f;have Fx:=Bx.f;have Fy:=By.f;clear cl cl' ck Bm Hm S
 go_region
 go_wp2;refine bodyPost_ret (v:=.tuple #[.agg #[(),()],.agg #[(),()],.bool false]) (by simp [results,results84,go_sem,Fc,Fd]) rfl ⟨rfl,by have hl:=hw.size;go_grown⟩
theorem fbad_c (mb b:Nat) (E:Es) (sb:Nat) (a0:Option Addr) (c n:Nat) (Lw:List Wl) (p q:Pt) (hk:okW (p,q)) (X Y:Tri3) (h1:lftE E p q=(X,true)) (h2:lftE E q p=(Y,true)) (h3:¬ kindW Lw (lo2 p q) (hi2 p q)=0) (w:World) (Bm:Box w mb [.map (some b)] 81) (Hm:HoldsMap eW eT okW w b E) (S:SetRd w sb a0 c n Lw):Calls prog 84 #[pt0 mb,pt0 sb,p,q] w (Rt w (.tuple #[.agg #[(),()],.agg #[(),()],.bool false])):=by
 have cl:=left_any mb b E p q hk;have cl':=left_any mb b E q p ⟨hk.2,hk.1⟩;have ck:=kind_any sb a0 c n Lw p q;have _:=S;rw [h1] at cl;rw [h2] at cl';clear h1 h2 hk;generalize kindW Lw (lo2 p q) (hi2 p q)=k at *
 have h3':(k != 0)=true:=by simpa using h3
 go_enter func84,ntmps84
 go_wp2_with fail;refine qE4 fun W1 Ba Bb Bc Bd hw=>?_;refine qC4 (cl _ (Bm.ee hw) (Hm.ee hw)) Ba Bb Bc Bd hw fun w2 Ba Bb Bc Bd hw F_abcd=>?_;go_wp2_with fail;clear F_abcd;refine zA4 fun W3 hW=>?_;obtain ⟨bkx,hbx⟩:∃ b,w2.heap.size=b:=⟨_,rfl⟩;rw [hbx];obtain ⟨lax,lbx,lcx,ldx,fx,Bx,Ba,Bb,Bc,Bd,hw⟩:=qM4 hW hbx Ba Bb Bc Bd hw;clear hW hbx;refine qC5 (cl' _ (Bm.ee hw) (Hm.ee hw)) Ba Bb Bc Bd Bx hw fun w4 Ba Bb Bc Bd Bx hw F_abcdx=>?_;go_wp2_with fail;clear F_abcdx;refine zA4 fun W5 hW=>?_;obtain ⟨bky,hby⟩:∃ b,w4.heap.size=b:=⟨_,rfl⟩;rw [hby];obtain ⟨lay,lby,lcy,ldy,lxy,fy,By,Ba,Bb,Bc,Bd,Bx,hw⟩:=qM5 hW hby Ba Bb Bc Bd Bx hw;clear hW hby;refine qK6 (ck _ (S.ee hw)) Ba Bb Bc Bd Bx By hw fun w6 Ba Bb Bc Bd Bx By hw=>?_;have Fa:=Ba.f;have Fb:=Bb.f;have Fc:=Bc.f;have Fd:=Bd.f;have Fx:=Bx.f;have Fy:=By.f;go_wp2_with fail;clear cl cl' ck Bm Hm S
 go_region
 go_wp2;refine bodyPost_ret (v:=.tuple #[.agg #[(),()],.agg #[(),()],.bool false]) (by simp [results,results84,go_sem,Fc,Fd]) rfl ⟨rfl,by have hl:=hw.size;go_grown⟩
theorem fbad_d (mb b:Nat) (E:Es) (sb:Nat) (a0:Option Addr) (c n:Nat) (Lw:List Wl) (p q:Pt) (hk:okW (p,q)) (X Y:Tri3) (h1:lftE E p q=(X,true)) (h2:lftE E q p=(Y,true)) (h3:kindW Lw (lo2 p q) (hi2 p q)=0) (C D:Pt) (hC:apx X p q=C) (hD:apx Y p q=D) (w:World) (Bm:Box w mb [.map (some b)] 81) (Hm:HoldsMap eW eT okW w b E) (S:SetRd w sb a0 c n Lw):Calls prog 84 #[pt0 mb,pt0 sb,p,q] w (Rt w (.tuple #[C,D,.bool (decide (circ p q C D=1))])):=by
 have cl:=left_any mb b E p q hk;have cl':=left_any mb b E q p ⟨hk.2,hk.1⟩;have ck:=kind_any sb a0 c n Lw p q;have _:=S;rw [h1] at cl;rw [h2] at cl';clear h1 h2 hk;have cx:=zF9 X p q;have cy:=zF9 Y p q;rw [hC] at cx;rw [hD] at cy;rw [h3] at ck;have cc:=fun w0=>circle_any p q C D w0;clear hC hD h3
 go_enter func84,ntmps84
 go_wp2_with fail;refine qE4 fun W1 Ba Bb Bc Bd hw=>?_;refine qC4 (cl _ (Bm.ee hw) (Hm.ee hw)) Ba Bb Bc Bd hw fun w2 Ba Bb Bc Bd hw F_abcd=>?_;go_wp2_with fail;clear F_abcd;refine zA4 fun W3 hW=>?_;obtain ⟨bkx,hbx⟩:∃ b,w2.heap.size=b:=⟨_,rfl⟩;rw [hbx];obtain ⟨lax,lbx,lcx,ldx,fx,Bx,Ba,Bb,Bc,Bd,hw⟩:=qM4 hW hbx Ba Bb Bc Bd hw;clear hW hbx;refine qC5 (cl' _ (Bm.ee hw) (Hm.ee hw)) Ba Bb Bc Bd Bx hw fun w4 Ba Bb Bc Bd Bx hw F_abcdx=>?_;go_wp2_with fail;clear F_abcdx;refine zA4 fun W5 hW=>?_;obtain ⟨bky,hby⟩:∃ b,w4.heap.size=b:=⟨_,rfl⟩;rw [hby];obtain ⟨lay,lby,lcy,ldy,lxy,fy,By,Ba,Bb,Bc,Bd,Bx,hw⟩:=qM5 hW hby Ba Bb Bc Bd Bx hw;clear hW hby;refine qK6 (ck _ (S.ee hw)) Ba Bb Bc Bd Bx By hw fun w6 Ba Bb Bc Bd Bx By hw=>?_;have Fa:=Ba.f;have Fb:=Bb.f;have Fc:=Bc.f;have Fd:=Bd.f;have Fx:=Bx.f;have Fy:=By.f;go_wp2_with fail;clear cl cl' ck Bm Hm S;have g_abcdxy:=J6 Ba.cells Bb.cells Bc.cells Bd.cells Bx.cells By.cells;refine rgn 8 (fun w7 hb=>?_);clear g_abcdxy;clear Fa Fb Fc Fd Fx Fy;obtain ⟨Ba,Bb,Bc,Bd,Bx,By,hw,-⟩:=qX6 Ba Bb Bc Bd Bx By hw hb;have Fa:=Ba.f;have Fb:=Bb.f;have Fc:=Bc.f;have Fd:=Bd.f;have Fx:=Bx.f;have Fy:=By.f;go_wp2_with fail;refine zA1 fun W8 hW=>?_;replace Ba:=sto Ba hW;replace Bb:=sto Bb hW;replace Bc:=sto Bc hW;replace Bd:=sto Bd hW;replace Bx:=sto Bx hW;replace By:=sto By hW;replace hw:=stw hw hW;clear Fa Fb Fc Fd Fx Fy;clear hW;have hCl:∀ x y,Ext x y→(fun w'=>Box w' (w.heap.size) [p.x,p.y] 54∧Box w' (w.heap.size+1) [q.x,q.y] 54∧Box w' (w.heap.size+1+1) [C.x,C.y] 54∧Box w' (w.heap.size+1+1+1) [D.x,D.y] 54) x→(fun w'=>Box w' (w.heap.size) [p.x,p.y] 54∧Box w' (w.heap.size+1) [q.x,q.y] 54∧Box w' (w.heap.size+1+1) [C.x,C.y] 54∧Box w' (w.heap.size+1+1+1) [D.x,D.y] 54) y:=fun x y h1 h2=>⟨Box.ext (h2.1) h1 rfl,Box.ext (h2.2.1) h1 rfl,Box.ext (h2.2.2.1) h1 rfl,Box.ext (h2.2.2.2) h1 rfl⟩;have Ga:=Ba;have Gb:=Bb;have Gc:=Bc;have Gd:=Bd;refine FT.wp_region_flowC 10 (.run 0 (.run 1 (.run 2 (.run 3 (.run 4 (.run 5 (.alt 6 (.run 7 (.alt 8 (.alt 9 .tail .stop) .stop)) .stop))))))) rfl (by kernel_rfl) (fun _ x _ _ _ h=>by cases x <;> exact h) (C:=fun w'=>Box w' (w.heap.size) [p.x,p.y] 54∧Box w' (w.heap.size+1) [q.x,q.y] 54∧Box w' (w.heap.size+1+1) [C.x,C.y] 54∧Box w' (w.heap.size+1+1+1) [D.x,D.y] 54) (fun _ h=>⟨Ga.ee h,Gb.ee h,Gc.ee h,Gd.ee h⟩) hCl ?_;refine FT.flow_run rfl (fun K hK=>?_);go_simp;refine ⟨.agg #[C.x,C.y],fun wq hq0 hq1 hq2 hq3=>?_,hK _ ?_⟩
 ·obtain ⟨y0,y1,y2,y3⟩:=hq2.f;go_simp
 clear hK K;refine FT.flow_run rfl (fun K hK=>?_);go_simp;refine ⟨.agg #[D.x,D.y],fun wq hq0 hq1 hq2 hq3=>?_,hK _ ?_⟩
 ·obtain ⟨y0,y1,y2,y3⟩:=hq3.f;go_simp
 clear hK K;refine FT.flow_run rfl (fun K hK=>?_);go_simp;refine ⟨.agg #[p.x,p.y],fun wq hq0 hq1 hq2 hq3=>?_,hK _ ?_⟩
 ·obtain ⟨y0,y1,y2,y3⟩:=hq0.f;go_simp
 clear hK K;refine FT.flow_run rfl (fun K hK=>?_);go_simp;refine ⟨.agg #[q.x,q.y],fun wq hq0 hq1 hq2 hq3=>?_,hK _ ?_⟩
 ·obtain ⟨y0,y1,y2,y3⟩:=hq1.f;go_simp
 clear hK K;refine FT.flow_run rfl (fun K hK=>?_);go_simp;refine ⟨.agg #[C.x,C.y],fun wq hq0 hq1 hq2 hq3=>?_,hK _ ?_⟩
 ·obtain ⟨y0,y1,y2,y3⟩:=hq2.f;go_simp
 clear hK K;refine FT.flow_run rfl (fun K hK=>?_);go_simp;refine ⟨.agg #[D.x,D.y],fun wq hq0 hq1 hq2 hq3=>?_,hK _ ?_⟩
 ·obtain ⟨y0,y1,y2,y3⟩:=hq3.f;go_simp
 clear hK K;refine FT.flow_at hCl rfl trivial (fun wc hwc K hK=>?_);go_simp;refine (cc _).mono ?_;rintro e w9 ⟨rfl,hb9⟩;have hb8:=Below.trans hwc (hb9.mono (Below.size hwc));replace Ga:=Ga.ee hb8;replace Gb:=Gb.ee hb8;replace Gc:=Gc.ee hb8;replace Gd:=Gd.ee hb8;replace hw:=upB hw hb8;clear hwc hb9 hb8;go_simp;refine hK _ _ ⟨Ga,Gb,Gc,Gd⟩ ?_;clear hK K
 (refine FT.flow_run rfl (fun K hK=>?_);go_simp;first | (refine hK _ ?_;clear hK K) | (refine ⟨_,fun _ _ _ _ _=>rfl,hK _ ?_⟩;clear hK K))
 refine FT.flow_at hCl rfl trivial (fun wc hwc K hK=>?_);go_simp;replace Ga:=Ga.ee hwc;replace Gb:=Gb.ee hwc;replace Gc:=Gc.ee hwc;replace Gd:=Gd.ee hwc;replace hw:=upB hw hwc;clear hwc;obtain ⟨y0,y1,y2,y3⟩:=Gc.f;go_simp;clear y0 y1 y2 y3;have hN:Below w w ((wc.setCell ⟨w+1+1,0,none⟩ (.int .i64 C.x)).setCell ⟨w+1+1,1,none⟩ (.int .i64 C.y)):=by have hl:=hw.size;go_grown
 replace Ga:Box ((wc.setCell ⟨w+1+1,0,none⟩ (.int .i64 C.x)).setCell ⟨w+1+1,1,none⟩ (.int .i64 C.y)) (w.heap.size) [p.x,p.y] 54:=((Ga.set_ne ⟨w+1+1,0,none⟩ (.int .i64 C.x) (by first | assumption | (show (w.heap.size+1+1:Nat)≠_;omega))).set_ne ⟨w+1+1,1,none⟩ (.int .i64 C.y) (by first | assumption | (show (w.heap.size+1+1:Nat)≠_;omega)));replace Gb:Box ((wc.setCell ⟨w+1+1,0,none⟩ (.int .i64 C.x)).setCell ⟨w+1+1,1,none⟩ (.int .i64 C.y)) (w.heap.size+1) [q.x,q.y] 54:=((Gb.set_ne ⟨w+1+1,0,none⟩ (.int .i64 C.x) (by first | assumption | (show (w.heap.size+1+1:Nat)≠_;omega))).set_ne ⟨w+1+1,1,none⟩ (.int .i64 C.y) (by first | assumption | (show (w.heap.size+1+1:Nat)≠_;omega)));replace Gc:Box ((wc.setCell ⟨w+1+1,0,none⟩ (.int .i64 C.x)).setCell ⟨w+1+1,1,none⟩ (.int .i64 C.y)) (w.heap.size+1+1) [C.x,C.y] 54:=((Gc.set 0 (.int .i64 C.x)).set 1 (.int .i64 C.y));replace Gd:Box ((wc.setCell ⟨w+1+1,0,none⟩ (.int .i64 C.x)).setCell ⟨w+1+1,1,none⟩ (.int .i64 C.y)) (w.heap.size+1+1+1) [D.x,D.y] 54:=((Gd.set_ne ⟨w+1+1,0,none⟩ (.int .i64 C.x) (by first | assumption | (show (w.heap.size+1+1:Nat)≠_;omega))).set_ne ⟨w+1+1,1,none⟩ (.int .i64 C.y) (by first | assumption | (show (w.heap.size+1+1:Nat)≠_;omega)));generalize ((wc.setCell ⟨w+1+1,0,none⟩ (.int .i64 C.x)).setCell ⟨w+1+1,1,none⟩ (.int .i64 C.y))=wd at *
 replace hw:=hN;clear hN;refine hK _ _ ⟨Ga,Gb,Gc,Gd⟩ ?_;clear hK K;refine FT.flow_at hCl rfl trivial (fun wc hwc K hK=>?_);go_simp;replace Ga:=Ga.ee hwc;replace Gb:=Gb.ee hwc;replace Gc:=Gc.ee hwc;replace Gd:=Gd.ee hwc;replace hw:=upB hw hwc;clear hwc;obtain ⟨y0,y1,y2,y3⟩:=Gd.f;go_simp;clear y0 y1 y2 y3;have hN:Below w w ((wc.setCell ⟨w+1+1+1,0,none⟩ (.int .i64 D.x)).setCell ⟨w+1+1+1,1,none⟩ (.int .i64 D.y)):=by have hl:=hw.size;go_grown
 replace Ga:Box ((wc.setCell ⟨w+1+1+1,0,none⟩ (.int .i64 D.x)).setCell ⟨w+1+1+1,1,none⟩ (.int .i64 D.y)) (w.heap.size) [p.x,p.y] 54:=((Ga.set_ne ⟨w+1+1+1,0,none⟩ (.int .i64 D.x) (by first | assumption | (show (w.heap.size+1+1+1:Nat)≠_;omega))).set_ne ⟨w+1+1+1,1,none⟩ (.int .i64 D.y) (by first | assumption | (show (w.heap.size+1+1+1:Nat)≠_;omega)));replace Gb:Box ((wc.setCell ⟨w+1+1+1,0,none⟩ (.int .i64 D.x)).setCell ⟨w+1+1+1,1,none⟩ (.int .i64 D.y)) (w.heap.size+1) [q.x,q.y] 54:=((Gb.set_ne ⟨w+1+1+1,0,none⟩ (.int .i64 D.x) (by first | assumption | (show (w.heap.size+1+1+1:Nat)≠_;omega))).set_ne ⟨w+1+1+1,1,none⟩ (.int .i64 D.y) (by first | assumption | (show (w.heap.size+1+1+1:Nat)≠_;omega)));replace Gc:Box ((wc.setCell ⟨w+1+1+1,0,none⟩ (.int .i64 D.x)).setCell ⟨w+1+1+1,1,none⟩ (.int .i64 D.y)) (w.heap.size+1+1) [C.x,C.y] 54:=((Gc.set_ne ⟨w+1+1+1,0,none⟩ (.int .i64 D.x) (by first | assumption | (show (w.heap.size+1+1+1:Nat)≠_;omega))).set_ne ⟨w+1+1+1,1,none⟩ (.int .i64 D.y) (by first | assumption | (show (w.heap.size+1+1+1:Nat)≠_;omega)));replace Gd:Box ((wc.setCell ⟨w+1+1+1,0,none⟩ (.int .i64 D.x)).setCell ⟨w+1+1+1,1,none⟩ (.int .i64 D.y)) (w.heap.size+1+1+1) [D.x,D.y] 54:=((Gd.set 0 (.int .i64 D.x)).set 1 (.int .i64 D.y));generalize ((wc.setCell ⟨w+1+1+1,0,none⟩ (.int .i64 D.x)).setCell ⟨w+1+1+1,1,none⟩ (.int .i64 D.y))=wd at *
 replace hw:=hN;clear hN;refine hK _ _ ⟨Ga,Gb,Gc,Gd⟩ ?_;clear hK K;clear Ba Bb Bc Bd;intro wz hwz;simp only [dP1,dP0];replace Ga:=Ga.ee hwz;replace Gb:=Gb.ee hwz;replace Gc:=Gc.ee hwz;replace Gd:=Gd.ee hwz;replace hw:=upB hw hwz;clear hwz hCl;have Ba:=Ga;have Bb:=Gb;have Bc:=Gc;have Bd:=Gd;clear Ga Gb Gc Gd;have Fc:=Bc.f;have Fd:=Bd.f;go_wp2;refine bodyPost_ret (v:=.tuple #[C,D,.bool (decide (circ p q C D=1))]) (by simp [results,results84,go_sem,Fc,Fd];rfl) rfl ⟨rfl,by have hl:=hw.size;go_grown⟩
theorem zN1 (mb b:Nat) (E:Es) (sb:Nat) (a0:Option Addr) (c n:Nat) (Lw:List Wl) (p q:Pt) (hk:okW (p,q)) (w:World) (Bm:Box w mb [.map (some b)] 81) (Hm:HoldsMap eW eT okW w b E) (S:SetRd w sb a0 c n Lw):Calls prog 84 #[pt0 mb,pt0 sb,p,q] w (Rt w (.tuple #[.agg #[.int .i64 (badC E Lw p q).1.x,.int .i64 (badC E Lw p q).1.y],.agg #[.int .i64 (badC E Lw p q).2.x,.int .i64 (badC E Lw p q).2.y],.bool (badP E Lw p q)])):=by
 unfold badP badC;cases h1:lftE E p q with
 | mk X v1=>
  cases h2:lftE E q p with
  | mk Y v2=>
   cases v1 with
   | false=>simpa using fbad_a mb b E sb a0 c n Lw p q hk X Y h1 v2 h2 w Bm Hm S
   | true=>
    cases v2 with
    | false=>simpa using fbad_b mb b E sb a0 c n Lw p q hk X Y h1 h2 w Bm Hm S
    | true=>
     by_cases h3:kindW Lw (lo2 p q) (hi2 p q)=0
     ·simpa [h3] using fbad_d mb b E sb a0 c n Lw p q hk X Y h1 h2 h3 _ _ rfl rfl w Bm Hm S
     ·simpa [h3] using fbad_c mb b E sb a0 c n Lw p q hk X Y h1 h2 h3 w Bm Hm S
def upF (E:Es) (Lw:List Wl) (T:Tri3) (i:Nat):Bool := !decide (0 < cmpP (crn T i) (crn T (i+1))) && badP E Lw (crn T i) (crn T (i+1))
def upW (T:Tri3) (i:Nat):Wl:=mkW (crn T i) (crn T (i+1)) 1
def upL (E:Es) (Lw:List Wl) (T:Tri3) (k:Nat):List Wl:=((List.range k).filter (upF E Lw T)).map (upW T)
theorem zK2 (E:Es) (Lw:List Wl) (T:Tri3) (k:Nat):(upL E Lw T k).length≤k:=by
 unfold upL;rw [jCl];exact jAp (jCk _ _) (by simp)
theorem upL_yes {E:Es} {Lw:List Wl} {T:Tri3} {k:Nat} (h:upF E Lw T k=true):upL E Lw T (k+1)=upL E Lw T k ++ [upW T k]:=by
 unfold upL;rw [jDk,jC9,jBn];simp [h]
theorem upL_no {E:Es} {Lw:List Wl} {T:Tri3} {k:Nat} (h:upF E Lw T k=false):upL E Lw T (k+1)=upL E Lw T k:=by
 unfold upL;rw [jDk,jC9,jBn];simp [h]
theorem zOc (mb b:Nat) (E:Es) (sb:Nat) (a0:Option Addr) (c n:Nat) (Lw:List Wl) (T:Tri3) (hT:okT T) (w:World) (Bm:Box w mb [.map (some b)] 81) (Hm:HoldsMap eW eT okW w b E) (S:SetRd w sb a0 c n Lw):Calls prog 44 #[pt0 mb,pt0 sb,T] w fun e w'=>∃ v,e=.returned v∧WRow w' w.heap.size v (upL E Lw T 3)∧Below w w w':=by
 have HT:=hdd hT;clear hT
 go_enter func44,ntmps44
 go_wp2_with fail;refine zA1 fun W1 hW=>?_;have BT:Box W1 w [T.A.x,T.A.y,T.B.x,T.B.y,T.C.x,T.C.y] 56:=by rw [hW];exact Box.new rfl
 have hw:Below w w W1:=by rw [hW];go_grown
 clear hW
 go_loopw [7,8,13,15,16] (fun vl _ _ _ vi wr=>∃ k:Nat,k≤3∧vi=.int .i64 k∧WRow wr (w.heap.size+1) vl (upL E Lw T k)∧Below w w wr∧Box wr w [T.A.x,T.A.y,T.B.x,T.B.y,T.C.x,T.C.y] 56) (fun _ _ _ _ vi _=>3 - (intOf vi).toNat)
 case atStart=>exact ⟨0,by omega,rfl,WRow.nil0 _ _,hw,BT⟩
 case round=>
  clear BT hw;obtain ⟨k,hk,rfl,hown,hwr,BT⟩:=hrel;by_cases hlt:k < 3
  ·have hko:=zKm HT.out (k:Int);have hko2:=zKm HT.out ((k:Int)+1);have HKO:=hdd (show okW (crn T k,crn T ((k:Int)+1)) from ⟨hko,hko2⟩);have ce:=fun W=>zN2 T (k:Int) W;have hle:(upL E Lw T k).length≤1000000:=jAp (zK2 _ _ _ _) (by omega);have hlt3:(k:Int) < 3:=by omega
   have HF:=hdd (show upF E Lw T k=(!decide (0 < cmpP (crn T k) (crn T ((k:Int)+1))) && badP E Lw (crn T k) (crn T ((k:Int)+1))) from rfl);have HU:=hdd (show upW T k=mkW (crn T k) (crn T ((k:Int)+1)) 1 from rfl);have HB:=hdd (show w.heap.size+1≤wr.heap.size from BT.lt);have hw:=Below.refl wr.heap.size wr;generalize crn T (k:Int)=P at *
   generalize crn T ((k:Int)+1)=Q at *
   have cc:=fun W=>zAu P Q W;have cb:=fun W B H D=>zN1 mb b E sb a0 c n Lw P Q HKO.out W B H D;have cm:=fun W=>zJs P Q 1 W;clear hko hko2;have FT:=BT.f;go_wp2_with fail;clear FT;refine qC1 (ce _) BT hw fun w21 BT hw FT=>?_;go_wp2_with fail;clear FT;refine zA4 fun W22 hW=>?_;obtain ⟨bkP,hbP⟩:∃ b,w21.heap.size=b:=⟨_,rfl⟩;rw [hbP];have lTP:=BT.lt;rw [hbP] at lTP;have fP:=hw.size;rw [hbP] at fP;have BP:Box W22 (bkP) [P.x,P.y] 54:=by rw [hW,←hbP];exact (Box.new rfl).old _
   have BQ:Box W22 (bkP+1) [Q.x,Q.y] 54:=by rw [hW,←hbP];exact Box.new (by simp)
   replace BT:Box W22 w [T.A.x,T.A.y,T.B.x,T.B.y,T.C.x,T.C.y] 56:=by rw [hW];exact ((BT).old _).old _
   replace hw:Below wr wr W22:=by have hl:=hw.size;rw [hW];go_grown
   clear hW hbP;refine qK3 (cc _) BT BP BQ hw fun w23 BT BP BQ hw=>?_;clear cc ce;cases hc:decide (0 < cmpP P Q)
   case true=>
    have HN:=hdd (upL_no (E:=E) (Lw:=Lw) (T:=T) (k:=k) (by rw [HF.out,hc];rfl));generalize cmpP P Q=z at *
    have hwx:=(upB hwr hw);have FT:=BT.f;have FP:=BP.f;have FQ:=BQ.f;go_wp2;clear FT FP FQ
    go_roundw
    case rel=>exact ⟨k+1,hlt,by go_num,by rw [HN.out];exact hown.ee hw,hwx,BT⟩
    case measure=>simp [intOf];omega
   case false=>
    have HC:=hdd hc;generalize cmpP P Q=z at *
    have F_TPQ:=J3 BT.f BP.f BQ.f;go_wp2_with fail;clear F_TPQ;have hwx:=(upB hwr hw);refine qK3 (cb _ (Bm.ee hwx) (Hm.ee hwx) (S.ee hwx)) BT BP BQ hw fun w24 BT BP BQ hw=>?_;clear cb hwx;have HV:=hdd (show upF E Lw T k=badP E Lw P Q by rw [HF.out,HC.out];rfl);generalize badP E Lw P Q=bb at *
    generalize badC E Lw P Q=bc at *
    cases bb
    case false=>
     have HN:=hdd (upL_no (E:=E) (Lw:=Lw) (T:=T) (k:=k) HV.out);have HT9:=BT;have hwx:=(upB hwr hw);have FT:=BT.f;have FP:=BP.f;have FQ:=BQ.f;go_wp2;clear FT FP FQ
     go_roundw
     case rel=>exact ⟨k+1,hlt,by go_num,by rw [HN.out];exact ((hown.ee hw).alloc _).alloc _,by have hl:=hwx.size;go_grown,(HT9.old _).old _⟩
     case measure=>simp [intOf];omega
    case true=>
     have HN:=hdd (upL_yes (E:=E) (Lw:=Lw) (T:=T) (k:=k) HV.out);have sT:(w.heap.size=w24.heap.size+1)=False:=by have:=BT.lt;simp;omega
     have sP:(bkP=w24.heap.size+1)=False:=by have:=BP.lt;simp;omega
     have sQ:(bkP+1=w24.heap.size+1)=False:=by have:=BQ.lt;simp;omega
     have F_TPQ:=J3 BT.f BP.f BQ.f;go_wp2_with fail;clear F_TPQ;clear sT sP sQ;refine zA4 fun W25 hW=>?_;obtain ⟨bkC,hbC⟩:∃ b,w24.heap.size=b:=⟨_,rfl⟩;rw [hbC];have lTC:=BT.lt;rw [hbC] at lTC;have lPC:=BP.lt;rw [hbC] at lPC;have lQC:=BQ.lt;rw [hbC] at lQC;have fC:=hw.size;rw [hbC] at fC;have BC:Box W25 (bkC) [.int .i64 bc.1.x,.int .i64 bc.1.y] 54:=by rw [hW,←hbC];exact (Box.new rfl).old _
     have BD:Box W25 (bkC+1) [.int .i64 bc.2.x,.int .i64 bc.2.y] 54:=by rw [hW,←hbC];exact Box.new (by simp)
     replace BT:Box W25 w [T.A.x,T.A.y,T.B.x,T.B.y,T.C.x,T.C.y] 56:=by rw [hW];exact ((BT).old _).old _
     replace BP:Box W25 (bkP) [P.x,P.y] 54:=by rw [hW];exact ((BP).old _).old _
     replace BQ:Box W25 (bkP+1) [Q.x,Q.y] 54:=by rw [hW];exact ((BQ).old _).old _
     replace hw:Below wr wr W25:=by have hl:=hw.size;rw [hW];go_grown
     clear hW hbC;refine qK5 (cm _) BT BP BQ BC BD hw fun w26 BT BP BQ BC BD hw=>?_;clear cm;generalize mkW P Q 1=X at *
     generalize mkOk P Q 1=ok at *
     have own:=hdd (hown.ee hw);have hlt0:=fun q hq=>(hown.lt q hq).1;have HNE:=hdd (show WRow w26 (w.heap.size+1) u7 (upL E Lw T k) from hown.ee hw);have hwx:=(upB hwr hw);have HBT:=hdd BT;have hs2:=hw.size;have hbw:=HB.out;have HWX:=hdd hwx;clear hown hwr;have FT:=BT.f;have FP:=BP.f;have FQ:=BQ.f;have FC:=BC.f;have FD:=BD.f;go_wp2_with (at_builtin;refine zFx rfl _ _ rfl (w.heap.size+1) _ (upL E Lw T k) rfl ((HNE.out.alloc _).alloc _) (w26.heap.size+1) X rfl (Box.new (by simp)) hle (by simp;omega) ?_;intro w4 v4 hown4 hg4 hn4)
     clear FT FP FQ FC FD;have BP4:=((HBT.out.old _).old _).grownBy hg4 (fun e=>by have:=hlt0 _ e.symm;omega);have hw4:=((HWX.out.alloc HWX.out.size (.cells #[X.A.x,X.A.y,X.B.x,X.B.y,X.K] 60)).alloc (by simp;have:=HWX.out.size;omega) (.cells #[X.A.x,X.A.y,X.B.x,X.B.y,X.K] 60)).grown hg4 (by simp;have:=HWX.out.size;omega) (fun q hq=>by have:=hlt0 q hq;omega);clear hg4 hlt0;go_wp2
     go_roundw
     case rel=>exact ⟨k+1,hlt,by go_num,by rw [HN.out,HU.out];exact hown4,hw4,BP4⟩
     case measure=>simp [intOf];omega
  ·obtain rfl:k=3:=by omega
   go_wp2
   go_ret
   exact ⟨_,rfl,hown.base (Nat.le_succ _),hwr⟩
end
section
open Go.RowKit Go.Sort Go.Lib Go.Shelf
attribute [local go_sem] rOper rAt rUpon cell_set sg_i64 sg_u64 alloc_cell alloc_frozen
attribute [local go_sem 10000] pt_eql pt_neq tri_eql
attribute [local irreducible] rWalk
theorem those_ok (mb b:Nat) (E:Es) (g:FuncId) (cb:Array Value) (p:Tri3→Bool) (hE:E.length≤1000000) (hok:∀ e∈E,okT e.2) (w:World) (Bm:Box w mb [.map (some b)] 81) (Hm:HoldsMap eW eT okW w b E) (eg:∀ args w,(callFunc g args).run prog w=.ok (.enter g args) w) (hp:∀ (T:Tri3),okT T→∀ (W:World),Below w w W→Calls prog g (#[.agg #[T.A.x,T.A.y,T.B.x,T.B.y,T.C.x,T.C.y]] ++ cb) W fun e w'=>e=.returned (.bool (p T))∧Below W W w'):Calls prog 42 #[pt0 mb,.func (.func g) #[] cb] w fun e w'=>∃ a cap,e=.returned (.slice a (srt cmpT (heads p E)).length cap)∧RowAt cT 6 w' a (srt cmpT (heads p E))∧Below w w w':=by
 obtain ⟨xm,ym,zm,vm⟩:=Bm.f
 go_enter func42,ntmps42
 go_wp2_with (at_range;refine zB1 _ rfl _ rfl kvM rfl Hm ?_)
 intro w0 HR0 hw0 _;clear xm ym zm vm;go_wp2
 go_loopw [5] (fun v wr=>∃ D R:Es,Hid ((D ++ R).Perm E)∧wr.ownsRow w.heap.size 56 6 v (heads p D).length ((heads p D).flatMap cT)∧Ranging eW eT okW wr b w.heap.size E R∧Below w w wr) (fun _ wr=>wr.rangeLeft b w.heap.size)
 case atStart=>exact ⟨[],E,hdd (by simp),World.ownsRow_nil _ _ _ _,HR0,hw0⟩
 case round=>
  clear HR0 hw0;obtain ⟨D,R,hD,hown,HR,hw⟩:=hrel;go_wp2_with (at_next;refine zB8 _ rfl _ rfl rfl HR ?_ ?_)
  ·intro hR;subst hR;have hp0:(heads p D).Perm (heads p E):=zCl (by simpa using hD.out);have hle:(heads p D).length≤3000000:=by have:=hp0.length_eq;have:=heads_len p E;omega
   have HS:=hdd (wholeT.srt_of_perm hp0);go_wp2_with fail;refine (zK9 _ _ _ hle _ hown).mono ?_;rintro e w2 ⟨rfl,hg2,a,cap,rfl,hr⟩;go_wp2
   go_ret
   have hlen:(heads p D).length=(srt cmpT (heads p E)).length:=by rw [←HS.out];exact (srt_perm _).length_eq.symm
   rw [HS.out] at hr;refine ⟨a,cap,by rw [hlen];rfl,hr,hw.grown hg2 hw.size (fun k hk=>?_)⟩;exact (hown.lt k hk).1
  ·intro u x T R' w1 hperm HR1 hg1 hs1 hen;have hD2:=hdd (show ((D ++ [((u,x),T)]) ++ R').Perm E by have:=(hperm.append_left D).symm.trans hD.out;simpa using this);have own1:=hown.kept hg1 (.inr (fun e=>zAr hown HR e.symm));have hw1:=hw.grown hg1 hw.size (fun k hk=>by cases hk;exact jA9 _);have HL:=hdd (show w1.rangeLeft b w.heap.size < wr.rangeLeft b w.heap.size by rw [zAc HR1,zAc HR,hperm.length_eq];simp);have hen2:(Instr.entry (.pointer (some ⟨w,0,none⟩))).run prog w1=.ok (.tuple #[.agg #[u.x,u.y,x.x,x.y],T]) w1:=hen;have hle:(heads p D).length≤1000000:=by have:=hD2.out.length_eq;have:=heads_len p D;simp at *;omega
   clear hown HR hg1 hs1 hen hperm hw;have hnx:Hid (∀ W:World,Below w1 w1 W→(W.rangeLeft b w.heap.size < wr.rangeLeft b w.heap.size)):=hdd (fun W hW=>by
    rw [zAc (HR1.ee hW),←zAc HR1];exact HL.out)
   have HTK:=hdd (show okT T from hok _ (hD2.out.mem_iff.1 (by simp):((u,x),T)∈E));by_cases hA:u=T.A
   ·have hd:peqI u.x u.y T.A.x T.A.y=true:=zBe.2 hA;cases hT:p T with
    | false=>
     have HH:=hdd (show heads p (D ++ [((u,x),T)])=heads p D by rw [zAs,zE4 (by simp [hT])];simp);have cp:=fun W hW=>hp T HTK.out W hW;rw [hT] at cp;clear hA hT;go_wp2_with fail;refine zA4 fun W2 hW=>?_;have hb2:Below w1 w1 W2:=by rw [hW];go_grown
     clear hW;refine (cp _ ((upB hw1 hb2))).mono ?_;rintro e w3 ⟨rfl,hb⟩;have hb3:=(upB hb2 hb);clear hb hb2;go_wp2
     go_roundw
     case rel=>exact ⟨D ++ [((u,x),T)],R',hD2,by rw [HH.out];exact own1.kept (zA6 hb3 none) (by cases u5.ownBlock <;> simp),HR1.ee hb3,(upB hw1 hb3)⟩
     case measure=>exact hnx.out _ hb3
    | true=>
     have HH:=hdd (show heads p (D ++ [((u,x),T)])=heads p D ++ [T] by rw [zAs,zFq hA hT]);have cp:=fun W hW=>hp T HTK.out W hW;rw [hT] at cp;clear hA hT;go_wp2_with fail;refine zA4 fun W2 hW=>?_;have hb2:Below w1 w1 W2:=by rw [hW];go_grown
     have Bt:Box W2 (w1+1) (cT T) 56:=by rw [hW];exact Box.new (by simp)
     clear hW;refine (cp _ ((upB hw1 hb2))).mono ?_;rintro e w3 ⟨rfl,hb⟩;have hb3:=(upB hb2 hb);replace Bt:=Bt.ee hb;have own3:=own1.kept (zA6 hb3 none) (by cases u5.ownBlock <;> simp);have HB:=hdd (jAp hw1.size hb3.size);clear hb hb2;obtain ⟨xt,yt,zt,vt⟩:=Bt.f;unfold cT at xt;go_wp2_with (at_builtin;refine zBb rfl _ _ rfl w.heap.size _ (heads p D) rfl (own3.alloc _) w3.heap.size T rfl (Box.new rfl) hle (by have:=HB.out;simp;omega) ?_;intro w4 v4 hown4 hg4)
     have hR3:=(HR1.ee hb3).kept (World.grownBy_alloc w3 (.cells (cT T).toArray 56) none) (by simp) (by simp);have hR4:=hR3.kept hg4 (zB5 (own3.alloc _) hR3.holds) (zAr (own3.alloc _) hR3);have hw4:=((((upB hw1 hb3)).alloc (by have:=HB.out;omega) (.cells (cT T).toArray 56))).grown hg4 (by have:=HB.out;simp;omega) (fun k hk=>((own3.alloc (.cells (cT T).toArray 56)).lt k hk).1)
     go_roundw
     case rel=>exact ⟨D ++ [((u,x),T)],R',hD2,by rw [HH.out];exact hown4,hR4,hw4⟩
     case measure=>rw [zAc hR4,←zAc HR1];exact HL.out
   ·have hd:peqI u.x u.y T.A.x T.A.y=false:=by rw [←jBl,zBe];exact hA
    have HH:=hdd (show heads p (D ++ [((u,x),T)])=heads p D by rw [zAs,zE4 (by simp [hA])];simp);clear hA;go_wp2
    go_roundw
    case rel=>exact ⟨D ++ [((u,x),T)],R',hD2,by rw [HH.out];exact (own1.alloc _).alloc _,HR1.ext (by go_grown) rfl,by have:=hw1.size;go_grown⟩
    case measure=>exact hnx.out _ (by go_grown)
theorem fbadcl_any (mb b:Nat) (E:Es) (sb:Nat) (a0:Option Addr) (c n:Nat) (Lw:List Wl) (b2 b3:Nat) (T:Tri3) (hT:okT T) (w:World) (B2:Box w b2 [pt0 mb] 26) (B3:Box w b3 [pt0 sb] 27) (Bm:Box w mb [.map (some b)] 81) (Hm:HoldsMap eW eT okW w b E) (S:SetRd w sb a0 c n Lw):Calls prog 43 (#[.agg #[T.A.x,T.A.y,T.B.x,T.B.y,T.C.x,T.C.y]] ++ #[.pointer (some ⟨b2,0,none⟩),.pointer (some ⟨b3,0,none⟩)]) w (Rt w (.bool (decide (0 < (upL E Lw T 3).length)))):=by
 have cu:=fun W B H D=>zOc mb b E sb a0 c n Lw T hT W B H D;have hle:=zK2 E Lw T 3;clear hT;generalize upL E Lw T 3=U at *
 show Calls prog 43 #[T,pt0 b2,pt0 b3] w _
 go_enter func43,ntmps43
 have F_23:=J2 B2.f B3.f;go_wp2_with fail;clear F_23;refine zA4 fun W1 hW=>?_;have hw:Below w w W1:=by rw [hW];go_grown
 clear hW;refine (cu _ (Bm.ee hw) (Hm.ee hw) (S.ee hw)).mono ?_;rintro e w2 ⟨v,rfl,hr,hb⟩;replace hw:=upB hw hb;obtain ⟨a,cap,rfl,_,_⟩:=hr.row;clear hb hr cu;obtain ⟨m,hm⟩:∃ m,U.length=m:=⟨_,rfl⟩;rw [hm] at hle;cases hz:decide (0 < m) with
 | true=>
  have hz2:decide ((0:Int) < (m:Int))=true:=by simpa using hz
  go_wp2;refine bodyPost_ret (v:=.bool true) (by simp [results,results43,go_sem]) rfl ⟨by rw [hm,hz],hw⟩
 | false=>
  have hz2:decide ((0:Int) < (m:Int))=false:=by simpa using hz
  go_wp2;refine bodyPost_ret (v:=.bool false) (by simp [results,results43,go_sem]) rfl ⟨by rw [hm,hz],hw⟩
def bigT (E:Es) (Lw:List Wl):List Tri3:=srt cmpT (heads (fun T=>decide (0 < (upL E Lw T 3).length)) E)
def FB (E:Es) (Lw:List Wl):List Wl:=srt cmpW ((bigT E Lw).flatMap fun T=>upL E Lw T 3)
theorem heads_in {p:Tri3→Bool} {E:Es} {T:Tri3} (h:T∈heads p E):p T=true∧∃ x,((T.A,x),T)∈E:=by
 unfold heads at h;obtain ⟨⟨⟨u,x⟩,S⟩,he,rfl⟩:=jAk.1 h;obtain ⟨he,hc⟩:=jAq.1 he;simp only [jA3,jA4] at hc;exact ⟨hc.2,x,by rw [←hc.1];exact he⟩
theorem append_wrow {w:World} {ops:Array Oper} {rest:List Oper} {o:Oper} {a:Act} {Q:Exit→Act→World→Prop} (hgd:o.guard=none) (s x:Operand) (ho:o.op=.call { callee:=.builtin .append,args:=#[s,x],argTypes:=#[37,37] }) (B:Nat) (v:Value) (L:List Wl) (hs:a.eval s=v) (hown:WRow w B v L) (bx cap:Nat) (U:List Wl) (hx:a.eval x=.slice (some ⟨bx,0,none⟩) U.length cap) (hU:RowAt cW 5 w (some ⟨bx,0,none⟩) U) (hu0:U.length≤1000) (hn:L.length≤1000000) (hbase:B≤w.heap.size) (h:∀ w' v',WRow w' B v' (L ++ U)→w.grownBy w' v.ownBlock→wpList prog ops Q rest (a.put o.dst v') w'):wpList prog ops Q (o :: rest) a w:=by
 obtain ⟨i0,hi,hz0,hz1,hz2⟩:=info_parts zEk;refine wpList_append_own w hgd s x 37 ho B 60 i0 _ 5 40 underlying37 hi hz0 hz1 hz2 rfl (by decide) v L.length _ hs hown ⟨bx,0,none⟩ U.length cap (U.flatMap cW) hx (zAf zCs U) ?_ ?_ ?_ ?_ hbase ?_
 ·intro j u hj;rw [Addr.add_lit,jCa];have:=(hU.flat j u hj).2
  rwa [jCa] at this
 ·intro u hu;obtain ⟨X,_,hX⟩:=jAh.1 hu;exact zLp X u hX
 ·unfold maxLen;omega
 ·omega
 ·intro v' w' hown' hg _;refine h w' v' ?_ hg;unfold WRow;rw [jAa,jBe];exact hown'
theorem enterBad:∀ args w,(callFunc 43 args).run prog w=.ok (.enter 43 args) w:=enters_of func43 (by kernel_rfl) rfl
theorem flat_take {L:List Tri3} {f:Tri3→List Wl} {k:Nat} (hk:k < L.length):(L.take (k+1)).flatMap f=(L.take k).flatMap f ++ f L[k]:=by
 rw [jAb hk,jBe];simp
theorem zL4 (E:Es) (Lw:List Wl):∀ L:List Tri3,(L.flatMap fun T=>upL E Lw T 3).length≤3 * L.length
 | []=>by simp
 | T :: L=>by
  have h1:=zK2 E Lw T 3;have h2:=zL4 E Lw L;rw [jA5,jAa,jAm];omega
theorem fBad_any (mb b:Nat) (E:Es) (sb:Nat) (a0:Option Addr) (c n:Nat) (Lw:List Wl) (hE:E.length≤90000) (hok:∀ e∈E,okT e.2) (w:World) (Bm:Box w mb [.map (some b)] 81) (Hm:HoldsMap eW eT okW w b E) (S:SetRd w sb a0 c n Lw):Calls prog 13 #[pt0 mb,pt0 sb] w fun e w'=>∃ v,e=.returned v∧WRow w' w.heap.size v (FB E Lw)∧Below w w w':=by
 have HOK:=hdd (show ∀ T∈bigT E Lw,okT T∧0 < (upL E Lw T 3).length from fun T hT=>by
  obtain ⟨k1,x,k2⟩:=heads_in ((srt_perm _).mem_iff.1 hT);exact ⟨hok _ k2,by simpa using k1⟩)
 have hlen:(bigT E Lw).length≤90000:=by
  unfold bigT;rw [(srt_perm _).length_eq];exact jAp (heads_len _ _) hE
 have HFB:=hdd (show FB E Lw=srt cmpW ((bigT E Lw).flatMap fun T=>upL E Lw T 3) from rfl);have ct:=fun W1 (hW1:Below w w W1) (b2 b3:Nat) (B2:Box W1 b2 [pt0 mb] 26) (B3:Box W1 b3 [pt0 sb] 27)=>those_ok mb b E 43 #[pt0 b2,pt0 b3] (fun T=>decide (0 < (upL E Lw T 3).length)) (by omega) hok W1 (Bm.ee hW1) (Hm.ee hW1) enterBad (fun T hT W hW=>fbadcl_any mb b E sb a0 c n Lw b2 b3 T hT W (B2.ee hW) (B3.ee hW) ((Bm.ee hW1).ee hW) ((Hm.ee hW1).ee hW) ((S.ee hW1).ee hW))
 change ∀ W1 (hW1:Below w w W1) (b2 b3:Nat) (B2:Box W1 b2 [pt0 mb] 26) (B3:Box W1 b3 [pt0 sb] 27),Calls _ _ _ _ (fun e w'=>∃ a cap,e=.returned (.slice a (bigT E Lw).length cap)∧RowAt cT 6 w' a (bigT E Lw)∧Below W1 W1 w') at ct
 generalize bigT E Lw=L at *
 generalize FB E Lw=F at *
 obtain ⟨m,hm⟩:∃ m,L.length=m:=⟨_,rfl⟩;rw [hm] at ct hlen;have HM:=hdd hm;clear hok hE hm
 go_enter func13,ntmps13
 go_wp2_with fail;refine zA4 fun W1 hW=>?_;have B2:Box W1 w [pt0 mb] 26:=by rw [hW];exact (Box.new rfl).old _
 have B3:Box W1 (w+1) [pt0 sb] 27:=by rw [hW];exact Box.new (by simp)
 have hw:Below w w W1:=by rw [hW];go_grown
 clear hW;refine (ct _ hw _ _ B2 B3).mono ?_;rintro e w2 ⟨a,cap,rfl,hr,hb⟩;obtain ⟨B2,B3,hw,-⟩:=qX2 B2 B3 hw hb;clear hb ct;go_wp2_with fail
 go_loopw [6,14] (fun vl vi wr=>∃ k:Nat,k≤m∧vi=.int .i64 k∧WRow wr w2.heap.size vl ((L.take k).flatMap fun T=>upL E Lw T 3)∧Below w2 w2 wr) (fun _ vi _=>m - (intOf vi).toNat)
 case atStart=>exact ⟨0,jAt _,rfl,by simpa using WRow.nil0 _ _,Below.refl _ _⟩
 case round=>
  obtain ⟨k,hk,rfl,hown,hwr⟩:=hrel;by_cases hlt:k < m
  ·have hkL:k < L.length:=by rw [HM.out];exact hlt
   obtain ⟨ad,A,ea,eA,hA⟩:=(hr.ee hwr).six (j:=k) hkL;have HF:=hdd (flat_take (f:=fun T=>upL E Lw T 3) hkL);have hle:((L.take k).flatMap fun T=>upL E Lw T 3).length≤1000000:=jAp (zL4 E Lw _) (by rw [jB3];omega);obtain ⟨hokT,hpos⟩:=HOK.out _ (jAx hkL);have hpos:=hdd hpos;generalize L[k]=T at *
   have cu:=fun W B H D=>zOc mb b E sb a0 c n Lw T hokT W B H D;have hu3:=zK2 E Lw T 3;generalize upL E Lw T 3=U at *
   have hwx:=(upB hw hwr);obtain ⟨t6,t0,t1,t2,t3,t4,t5⟩:=hA.f;obtain ⟨x2,y2,z2,v2⟩:=(B2.ee hwr).f;obtain ⟨x3,y3,z3,v3⟩:=(B3.ee hwr).f;subst ea;go_wp2_with fail;clear t6 t0 t1 t2 t3 t4 t5 x2 y2 z2 v2 x3 y3 z3 v3 hA;refine zA4 fun W4 hW=>?_;have h4:Below wr wr W4:=by rw [hW];go_grown
   clear hW;refine (cu _ ((Bm.ee hwx).ee h4) ((Hm.ee hwx).ee h4) ((S.ee hwx).ee h4)).mono ?_;rintro e w5 ⟨v5,rfl,hr5,hb5⟩;have h5:=(upB h4 hb5);obtain ⟨a5,cap5,rfl,ra5,fl5⟩:=hr5.row;obtain ⟨bb,hbb⟩:∃ bb,a5=some ⟨bb,0,none⟩:=by
    rcases hr5.2 with ⟨h0,h1⟩ | ⟨g,cap',cur,h0,_⟩
    ·have:=hpos.out;omega
    ·simp only [Value.slice.injEq] at h0;exact ⟨g,h0.1⟩
   subst hbb;have hown5:=hown.ee h5;have hlt0:=fun q hq=>(hown.lt q hq).1;have hs5:=h5.size;have hsr:=hwr.size;have hwr5:=(upB hwr h5);clear cu h4 hb5 hr5 fl5 hown h5;go_wp2_with (at_builtin;refine append_wrow rfl _ _ rfl w2.heap.size _ _ rfl hown5 bb cap5 U rfl ra5 (by omega) hle (by omega) ?_;intro w6 v6 hown6 hg6)
   have hw6:=hwr5.grown hg6 hwr5.size (fun q hq=>by have:=hlt0 q hq;omega);clear hg6 hlt0 hwr5 hown5;go_wp2
   go_roundw
   case rel=>exact ⟨k+1,hlt,by go_num,by rw [HF.out];exact hown6,hw6⟩
   case measure=>simp [intOf];omega
  ·obtain rfl:k=m:=by omega
   rw [jAe (by rw [HM.out];omega)] at hown;have hle:(L.flatMap fun T=>upL E Lw T 3).length≤3000000:=jAp (zL4 E Lw _) (by rw [HM.out];omega);have hwx:=(upB hw hwr);go_wp2_with fail;refine (zK8 _ _ _ hle _ hown).mono ?_;rintro e w7 ⟨rfl,hg7,hr7⟩;have hlt0:=fun q hq=>(hown.lt q hq).1;have hs2:=hw.size;have hw7:=hwx.grown hg7 hwx.size (fun q hq=>by have:=hlt0 q hq;omega);go_wp2
   go_ret
   exact ⟨_,rfl,by rw [HFB.out];exact hr7.base hs2,hw7⟩
theorem fGood_any (mb b:Nat) (E:Es) (sb:Nat) (a0:Option Addr) (c n:Nat) (Lw:List Wl) (hE:E.length≤90000) (hok:∀ e∈E,okT e.2) (w:World) (Bm:Box w mb [.map (some b)] 81) (Hm:HoldsMap eW eT okW w b E) (S:SetRd w sb a0 c n Lw):Calls prog 21 #[pt0 mb,pt0 sb] w (Rt w (.bool (decide ((FB E Lw).length=0)))):=by
 have cb:=fBad_any mb b E sb a0 c n Lw hE hok w Bm Hm S;generalize FB E Lw=F at *
 go_enter func21,ntmps21
 go_wp2_with fail;refine cb.mono ?_;rintro e w1 ⟨v,rfl,hr,hb⟩;obtain ⟨a,cap,rfl,_,_⟩:=hr.row;clear hr cb;obtain ⟨m,hm⟩:∃ m,F.length=m:=⟨_,rfl⟩;rw [hm];cases hz:decide (m=0) with
 | true=>
  have hz2:((m:Int) == 0)=true:=by simpa using hz
  go_wp2;refine bodyPost_ret (v:=.bool true) (by simp [results,results21,go_sem]) rfl ⟨by rw [hm,hz],hb⟩
 | false=>
  have hz2:((m:Int) == 0)=false:=by simpa using hz
  go_wp2;refine bodyPost_ret (v:=.bool false) (by simp [results,results21,go_sem]) rfl ⟨by rw [hm,hz],hb⟩
end
end Go.Proofs.YtogffkimgmlilaaGreat
