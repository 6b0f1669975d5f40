/- Put together: CdtC, MesH, MesI. -/
import Derived.Test.YtogffkimgmlilaaGreatPfb17
import Derived.Carry
set_option maxRecDepth 100000
set_option maxHeartbeats 8000000
set_option linter.all false
namespace Go.Proofs.YtogffkimgmlilaaGreat
open Go.RowKit Go.Sort _root_.Go.Proofs.Tryz
section
attribute [local go_sem] rOper rAt rUpon cell_set sg_i64 sg_u64 alloc_cell alloc_frozen
attribute [local go_sem 10000] pt_eql pt_neq tri_eql
attribute [local irreducible] rWalk
def badD (E:Es) (D:List Wl) (p q:Pt):Bool:=(lftE E p q).2 && ((lftE E q p).2 && (decide (kindD D p q=0) && decide (circ (lftE E p q).1.A (lftE E p q).1.B (lftE E p q).1.C (apx (lftE E q p).1 p q)=1)))
theorem rbad_a (mb b db:Nat) (a0:Option Addr) (c n:Nat) (E:Es) (D:List Wl) (p q:Pt) (hk:okW (p,q)) (X Y:Tri3) (h1:lftE E p q=(X,false)) (v2:Bool) (h2:lftE E q p=(Y,v2)) (w:World) (Bm:Box w mb [.map (some b)] 90) (Hm:HoldsMap eW eT okW w b E) (Dw:DocRd w db a0 c n D):Calls prog 48 #[pt0 mb,pt0 db,p,q] w (Rt w (.bool false)):=by
 have cl:=zAj mb b E p q hk;have cl':=zAj mb b E q p ⟨hk.2,hk.1⟩;have ck:=zCu db a0 c n D p q;have cf:=zC2 Y p q;have cc:=fun z=>zCk X.A X.B X.C z;rw [h1] at cl;rw [h2] at cl';clear h1 h2 hk;generalize kindD D p q=k at *
 generalize apx Y p q=z at *
 replace cc:=cc z;generalize circ X.A X.B X.C z=ci at *
 go_enter func48,ntmps48
 go_wp2_with fail;refine qE2 fun W1 Ba Bb hw=>?_;refine qC2 (cl _ (Bm.ee hw) (Hm.ee hw)) Ba Bb hw fun w2 Ba Bb hw F_ab=>?_;go_wp2_with fail;clear F_ab;refine zA4 fun W3 hW=>?_;obtain ⟨bkx,hbx⟩:∃ b,w2.heap.size=b:=⟨_,rfl⟩;rw [hbx];obtain ⟨lax,lbx,fx,Bx,Ba,Bb,hw⟩:=qM2 hW hbx Ba Bb hw;clear hW hbx;refine qC3 (cl' _ (Bm.ee hw) (Hm.ee hw)) Ba Bb Bx hw fun w4 Ba Bb Bx hw F_abx=>?_;go_wp2_with fail;clear F_abx;refine zA1 fun W5 hW=>?_;obtain ⟨bky,hby⟩:∃ b,w4.heap.size=b:=⟨_,rfl⟩;rw [hby];obtain ⟨lay,lby,lxy,fy,By,Ba,Bb,Bx,hw⟩:=qM3 hW hby Ba Bb Bx hw;clear hW hby;have d1:∀ d os,Calls prog 40 #[pt0 db,p,q] (grow (redrawn W5 d) os) fun e w'=>e=.returned (.int .i64 k)∧Below (grow (redrawn W5 d) os).heap.size (grow (redrawn W5 d) os) w':=fun d os=>ck _ ((Dw.ee hw).ext (below_regrown W5 d os) rfl);clear cl cl' ck Bm Hm Dw;have g_abxy:=J4 Ba.cells Bb.cells Bx.cells By.cells;refine wrt 25 (by kernel_rfl) (by kernel_rfl) ?_;simp only [tK1,tK0,dP1,dP0];refine wkx ?_;intro w6 hb;clear g_abxy;obtain ⟨Ba,Bb,Bx,By,hw,F_abxy⟩:=qX4 Ba Bb Bx By hw hb;go_wp2
 go_ret
 exact ⟨rfl,hw⟩
theorem rbad_b (mb b db:Nat) (a0:Option Addr) (c n:Nat) (E:Es) (D:List Wl) (p q:Pt) (hk:okW (p,q)) (X Y:Tri3) (h1:lftE E p q=(X,true)) (h2:lftE E q p=(Y,false)) (w:World) (Bm:Box w mb [.map (some b)] 90) (Hm:HoldsMap eW eT okW w b E) (Dw:DocRd w db a0 c n D):Calls prog 48 #[pt0 mb,pt0 db,p,q] w (Rt w (.bool false)):=by
 have cl:=zAj mb b E p q hk;have cl':=zAj mb b E q p ⟨hk.2,hk.1⟩;have ck:=zCu db a0 c n D p q;have cf:=zC2 Y p q;have cc:=fun z=>zCk X.A X.B X.C z;rw [h1] at cl;rw [h2] at cl';clear h1 h2 hk;generalize kindD D p q=k at *
 generalize apx Y p q=z at *
 replace cc:=cc z;generalize circ X.A X.B X.C z=ci at *
 go_enter func48,ntmps48
 go_wp2_with fail;refine qE2 fun W1 Ba Bb hw=>?_;refine qC2 (cl _ (Bm.ee hw) (Hm.ee hw)) Ba Bb hw fun w2 Ba Bb hw F_ab=>?_;go_wp2_with fail;clear F_ab;refine zA4 fun W3 hW=>?_;obtain ⟨bkx,hbx⟩:∃ b,w2.heap.size=b:=⟨_,rfl⟩;rw [hbx];obtain ⟨lax,lbx,fx,Bx,Ba,Bb,hw⟩:=qM2 hW hbx Ba Bb hw;clear hW hbx;refine qC3 (cl' _ (Bm.ee hw) (Hm.ee hw)) Ba Bb Bx hw fun w4 Ba Bb Bx hw F_abx=>?_;go_wp2_with fail;clear F_abx;refine zA1 fun W5 hW=>?_;obtain ⟨bky,hby⟩:∃ b,w4.heap.size=b:=⟨_,rfl⟩;rw [hby];obtain ⟨lay,lby,lxy,fy,By,Ba,Bb,Bx,hw⟩:=qM3 hW hby Ba Bb Bx hw;clear hW hby;have d1:∀ d os,Calls prog 40 #[pt0 db,p,q] (grow (redrawn W5 d) os) fun e w'=>e=.returned (.int .i64 k)∧Below (grow (redrawn W5 d) os).heap.size (grow (redrawn W5 d) os) w':=fun d os=>ck _ ((Dw.ee hw).ext (below_regrown W5 d os) rfl);clear cl cl' ck Bm Hm Dw;have g_abxy:=J4 Ba.cells Bb.cells Bx.cells By.cells;refine wrt 25 (by kernel_rfl) (by kernel_rfl) ?_;simp only [tK1,tK0,dP1,dP0];refine wkx ?_;intro w6 hb;clear g_abxy;obtain ⟨Ba,Bb,Bx,By,hw,F_abxy⟩:=qX4 Ba Bb Bx By hw hb;go_wp2
 go_ret
 exact ⟨rfl,hw⟩
theorem rbad_c (mb b db:Nat) (a0:Option Addr) (c n:Nat) (E:Es) (D:List Wl) (p q:Pt) (hk:okW (p,q)) (X Y:Tri3) (h1:lftE E p q=(X,true)) (h2:lftE E q p=(Y,true)) (h3:decide (kindD D p q=0)=false) (w:World) (Bm:Box w mb [.map (some b)] 90) (Hm:HoldsMap eW eT okW w b E) (Dw:DocRd w db a0 c n D):Calls prog 48 #[pt0 mb,pt0 db,p,q] w (Rt w (.bool false)):=by
 have cl:=zAj mb b E p q hk;have cl':=zAj mb b E q p ⟨hk.2,hk.1⟩;have ck:=zCu db a0 c n D p q;have cf:=zC2 Y p q;have cc:=fun z=>zCk X.A X.B X.C z;rw [h1] at cl;rw [h2] at cl';clear h1 h2 hk;generalize kindD D p q=k at *
 generalize apx Y p q=z at *
 replace cc:=cc z;generalize circ X.A X.B X.C z=ci at *
 have h3:(k == 0)=false:=by simpa using h3
 go_enter func48,ntmps48
 go_wp2_with fail;refine qE2 fun W1 Ba Bb hw=>?_;refine qC2 (cl _ (Bm.ee hw) (Hm.ee hw)) Ba Bb hw fun w2 Ba Bb hw F_ab=>?_;go_wp2_with fail;clear F_ab;refine zA4 fun W3 hW=>?_;obtain ⟨bkx,hbx⟩:∃ b,w2.heap.size=b:=⟨_,rfl⟩;rw [hbx];obtain ⟨lax,lbx,fx,Bx,Ba,Bb,hw⟩:=qM2 hW hbx Ba Bb hw;clear hW hbx;refine qC3 (cl' _ (Bm.ee hw) (Hm.ee hw)) Ba Bb Bx hw fun w4 Ba Bb Bx hw F_abx=>?_;go_wp2_with fail;clear F_abx;refine zA1 fun W5 hW=>?_;obtain ⟨bky,hby⟩:∃ b,w4.heap.size=b:=⟨_,rfl⟩;rw [hby];obtain ⟨lay,lby,lxy,fy,By,Ba,Bb,Bx,hw⟩:=qM3 hW hby Ba Bb Bx hw;clear hW hby;have d1:∀ d os,Calls prog 40 #[pt0 db,p,q] (grow (redrawn W5 d) os) fun e w'=>e=.returned (.int .i64 k)∧Below (grow (redrawn W5 d) os).heap.size (grow (redrawn W5 d) os) w':=fun d os=>ck _ ((Dw.ee hw).ext (below_regrown W5 d os) rfl);clear cl cl' ck Bm Hm Dw;have g_abxy:=J4 Ba.cells Bb.cells Bx.cells By.cells;refine wrt 25 (by kernel_rfl) (by kernel_rfl) ?_;simp only [tK1,tK0,dP1,dP0];refine wkx ?_;intro w6 hb;clear g_abxy;obtain ⟨Ba,Bb,Bx,By,hw,F_abxy⟩:=qX4 Ba Bb Bx By hw hb;go_wp2
 go_ret
 exact ⟨rfl,hw⟩
theorem rbad_d (mb b db:Nat) (a0:Option Addr) (c n:Nat) (E:Es) (D:List Wl) (p q:Pt) (hk:okW (p,q)) (X Y:Tri3) (h1:lftE E p q=(X,true)) (h2:lftE E q p=(Y,true)) (h3:kindD D p q=0) (w:World) (Bm:Box w mb [.map (some b)] 90) (Hm:HoldsMap eW eT okW w b E) (Dw:DocRd w db a0 c n D):Calls prog 48 #[pt0 mb,pt0 db,p,q] w (Rt w (.bool (circ X.A X.B X.C (apx Y p q) == 1))):=by
 have cl:=zAj mb b E p q hk;have cl':=zAj mb b E q p ⟨hk.2,hk.1⟩;have ck:=zCu db a0 c n D p q;have cf:=zC2 Y p q;have cc:=fun z=>zCk X.A X.B X.C z;rw [h1] at cl;rw [h2] at cl';clear h1 h2 hk;generalize kindD D p q=k at *
 generalize apx Y p q=z at *
 replace cc:=cc z;generalize circ X.A X.B X.C z=ci at *
 subst h3
 go_enter func48,ntmps48
 go_wp2_with fail;refine qE2 fun W1 Ba Bb hw=>?_;refine qC2 (cl _ (Bm.ee hw) (Hm.ee hw)) Ba Bb hw fun w2 Ba Bb hw F_ab=>?_;go_wp2_with fail;clear F_ab;refine zA4 fun W3 hW=>?_;obtain ⟨bkx,hbx⟩:∃ b,w2.heap.size=b:=⟨_,rfl⟩;rw [hbx];obtain ⟨lax,lbx,fx,Bx,Ba,Bb,hw⟩:=qM2 hW hbx Ba Bb hw;clear hW hbx;refine qC3 (cl' _ (Bm.ee hw) (Hm.ee hw)) Ba Bb Bx hw fun w4 Ba Bb Bx hw F_abx=>?_;go_wp2_with fail;clear F_abx;refine zA1 fun W5 hW=>?_;obtain ⟨bky,hby⟩:∃ b,w4.heap.size=b:=⟨_,rfl⟩;rw [hby];obtain ⟨lay,lby,lxy,fy,By,Ba,Bb,Bx,hw⟩:=qM3 hW hby Ba Bb Bx hw;clear hW hby;have d1:∀ d os,Calls prog 40 #[pt0 db,p,q] (grow (redrawn W5 d) os) fun e w'=>e=.returned (.int .i64 0)∧Below (grow (redrawn W5 d) os).heap.size (grow (redrawn W5 d) os) w':=fun d os=>ck _ ((Dw.ee hw).ext (below_regrown W5 d os) rfl);clear cl cl' ck Bm Hm Dw;have g_abxy:=J4 Ba.cells Bb.cells Bx.cells By.cells;refine wrt 25 (by kernel_rfl) (by kernel_rfl) ?_;simp only [tK1,tK0,dP1,dP0];refine wkx ?_;intro w6 hb;clear g_abxy;obtain ⟨Ba,Bb,Bx,By,hw,F_abxy⟩:=qX4 Ba Bb Bx By hw hb;go_wp2
 go_ret
 exact ⟨rfl,hw⟩
theorem zM2 (mb b db:Nat) (a0:Option Addr) (c n:Nat) (E:Es) (D:List Wl) (p q:Pt) (hk:okW (p,q)) (w:World) (Bm:Box w mb [.map (some b)] 90) (Hm:HoldsMap eW eT okW w b E) (Dw:DocRd w db a0 c n D):Calls prog 48 #[pt0 mb,pt0 db,p,q] w (Rt w (.bool (badD E D p q))):=by
 unfold badD;cases h1:lftE E p q with
 | mk X v1=>
  cases h2:lftE E q p with
  | mk Y v2=>
   cases v1 with
   | false=>exact rbad_a mb b db a0 c n E D p q hk X Y h1 v2 h2 w Bm Hm Dw
   | true=>
    cases v2 with
    | false=>exact rbad_b mb b db a0 c n E D p q hk X Y h1 h2 w Bm Hm Dw
    | true=>
     by_cases h3:kindD D p q=0
     ·have k:=rbad_d mb b db a0 c n E D p q hk X Y h1 h2 h3 w Bm Hm Dw;have e:(circ X.A X.B X.C (apx Y p q) == 1)=decide (circ X.A X.B X.C (apx Y p q)=1):=rfl;rw [e] at k
      simpa [h3] using k
     ·simpa [h3] using rbad_c mb b db a0 c n E D p q hk X Y h1 h2 (by simpa using h3) w Bm Hm Dw
attribute [local go_sem] rmap_nil
theorem rput_0 (mb b:Nat) (E:Es) (T:Tri3) (S:Tri3) (hg0:getE E (T.A,T.B)=some S) (hk:okT T) (w:World) (Bm:Box w mb [.map (some b)] 90) (Hm:HoldsMap eW eT okW w b E):Calls prog 80 #[pt0 mb,T] w (Rt w (.bool false)):=by
 have ce:=zDa T
 go_enter func80,ntmps80
 go_wp2_with fail;refine qE1 fun W1 Bt hw=>?_;refine qC1 (ce _) Bt hw fun w2 Bt hw Ft=>?_;go_wp2_with fail;refine zA1 fun W3 hW=>?_;obtain ⟨bke,hbe⟩:∃ b,w2.heap.size=b:=⟨_,rfl⟩;rw [hbe];obtain ⟨lte,fe,Be,Bt,hw⟩:=qM1 hW hbe Bt hw;clear hW hbe;have BM:Box W3 (mb) [.map (some b)] 90:=Bm.ee hw;refine wp_loop_rounds 5 ?_;try rw [rounds_succ]
 have Ft:=Bt.f;have Fe:=Be.f;have FM:=BM.f;go_wp2_with fail;refine zA1 fun W4 hW=>?_;subst hW;clear Ft Fe FM;have hl:∀ d os,(Instr.lookup 88 (.map (some b)) (.agg #[T.A.x,T.A.y,T.B.x,T.B.y]) true).run prog (grow (redrawn W4 d) os)=.ok (.tuple #[S,.bool true]) (grow (redrawn W4 d) os):=fun d os=>((Hm.ee hw).ext (below_regrown W4 d os) rfl).look_some kvR zAy (okT_w hk).1 hg0;clear hg0;have g_teM:=J3 Bt.cells Be.cells BM.cells;refine rgl 11 7 25 (fun w5 bks0 hb h1b h2b Bs0=>?_);have lts0:=Bt.lt;have les0:=Be.lt;have lMs0:=BM.lt;have hw0z:=hw.size;clear g_teM;obtain ⟨Bt,Be,BM,hw,-⟩:=qX3 Bt Be BM hw hb;have fs0:=h1b;have hwz:w.heap.size≤W4.heap.size:=hw0z;clear hb h1b h2b hw0z;simp only [Act.put];clear hl;have Ft:=Bt.f;have Fe:=Be.f;have FM:=BM.f;have Fs0:=Bs0.f;go_wp2
 go_ret
 exact ⟨rfl,hw⟩
theorem rput_1 (mb b:Nat) (E:Es) (T:Tri3) (S:Tri3) (hg0:getE E (T.A,T.B)=none) (hg1:getE E (T.B,T.C)=some S) (hk:okT T) (w:World) (Bm:Box w mb [.map (some b)] 90) (Hm:HoldsMap eW eT okW w b E):Calls prog 80 #[pt0 mb,T] w (Rt w (.bool false)):=by
 have ce:=zDa T
 go_enter func80,ntmps80
 go_wp2_with fail;refine qE1 fun W1 Bt hw=>?_;refine qC1 (ce _) Bt hw fun w2 Bt hw Ft=>?_;go_wp2_with fail;refine zA1 fun W3 hW=>?_;obtain ⟨bke,hbe⟩:∃ b,w2.heap.size=b:=⟨_,rfl⟩;rw [hbe];obtain ⟨lte,fe,Be,Bt,hw⟩:=qM1 hW hbe Bt hw;clear hW hbe;have BM:Box W3 (mb) [.map (some b)] 90:=Bm.ee hw;refine wp_loop_rounds 5 ?_;try rw [rounds_succ]
 have Ft:=Bt.f;have Fe:=Be.f;have FM:=BM.f;go_wp2_with fail;refine zA1 fun W4 hW=>?_;subst hW;clear Ft Fe FM;have hl:∀ d os,(Instr.lookup 88 (.map (some b)) (.agg #[T.A.x,T.A.y,T.B.x,T.B.y]) true).run prog (grow (redrawn W4 d) os)=.ok (.tuple #[.agg #[(),(),(),(),(),()],.bool false]) (grow (redrawn W4 d) os):=fun d os=>((Hm.ee hw).ext (below_regrown W4 d os) rfl).look_none kvR zAy (okT_w hk).1 hg0;clear hg0;have g_teM:=J3 Bt.cells Be.cells BM.cells;refine rgl 11 7 25 (fun w5 bks0 hb h1b h2b Bs0=>?_);have lts0:=Bt.lt;have les0:=Be.lt;have lMs0:=BM.lt;have hw0z:=hw.size;clear g_teM;obtain ⟨Bt,Be,BM,hw,-⟩:=qX3 Bt Be BM hw hb;have fs0:=h1b;have hwz:w.heap.size≤W4.heap.size:=hw0z;clear hb h1b h2b hw0z;simp only [Act.put];clear hl;have F_teMs0:=J4 Bt.f Be.f BM.f Bs0.f;go_wp2_with fail;clear F_teMs0;clear Bs0;try rw [rounds_succ]
 have Ft:=Bt.f;have Fe:=Be.f;have FM:=BM.f;go_wp2_with fail;refine zA1 fun W6 hW=>?_;subst hW;clear Ft Fe FM;have hl:∀ d os,(Instr.lookup 88 (.map (some b)) (.agg #[T.B.x,T.B.y,T.C.x,T.C.y]) true).run prog (grow (redrawn W6 d) os)=.ok (.tuple #[S,.bool true]) (grow (redrawn W6 d) os):=fun d os=>((Hm.ee hw).ext (below_regrown W6 d os) rfl).look_some kvR zAy (okT_w hk).2.1 hg1;clear hg1;have g_teM:=J3 Bt.cells Be.cells BM.cells;refine rgl 11 7 25 (fun w7 bks1 hb h1b h2b Bs1=>?_);have lts1:=Bt.lt;have les1:=Be.lt;have lMs1:=BM.lt;have hw0z:=hw.size;clear g_teM;obtain ⟨Bt,Be,BM,hw,-⟩:=qX3 Bt Be BM hw hb;have fs1:=h1b;have hwz:w.heap.size≤W6.heap.size:=hw0z;clear hb h1b h2b hw0z;simp only [Act.put];clear hl;have Ft:=Bt.f;have Fe:=Be.f;have FM:=BM.f;have Fs1:=Bs1.f;go_wp2
 go_ret
 exact ⟨rfl,hw⟩
theorem rput_2 (mb b:Nat) (E:Es) (T:Tri3) (S:Tri3) (hg0:getE E (T.A,T.B)=none) (hg1:getE E (T.B,T.C)=none) (hg2:getE E (T.C,T.A)=some S) (hk:okT T) (w:World) (Bm:Box w mb [.map (some b)] 90) (Hm:HoldsMap eW eT okW w b E):Calls prog 80 #[pt0 mb,T] w (Rt w (.bool false)):=by
 have ce:=zDa T
 go_enter func80,ntmps80
 go_wp2_with fail;refine qE1 fun W1 Bt hw=>?_;refine qC1 (ce _) Bt hw fun w2 Bt hw Ft=>?_;go_wp2_with fail;refine zA1 fun W3 hW=>?_;obtain ⟨bke,hbe⟩:∃ b,w2.heap.size=b:=⟨_,rfl⟩;rw [hbe];obtain ⟨lte,fe,Be,Bt,hw⟩:=qM1 hW hbe Bt hw;clear hW hbe;have BM:Box W3 (mb) [.map (some b)] 90:=Bm.ee hw;refine wp_loop_rounds 5 ?_;try rw [rounds_succ]
 have Ft:=Bt.f;have Fe:=Be.f;have FM:=BM.f;go_wp2_with fail;refine zA1 fun W4 hW=>?_;subst hW;clear Ft Fe FM;have hl:∀ d os,(Instr.lookup 88 (.map (some b)) (.agg #[T.A.x,T.A.y,T.B.x,T.B.y]) true).run prog (grow (redrawn W4 d) os)=.ok (.tuple #[.agg #[(),(),(),(),(),()],.bool false]) (grow (redrawn W4 d) os):=fun d os=>((Hm.ee hw).ext (below_regrown W4 d os) rfl).look_none kvR zAy (okT_w hk).1 hg0;clear hg0;have g_teM:=J3 Bt.cells Be.cells BM.cells;refine rgl 11 7 25 (fun w5 bks0 hb h1b h2b Bs0=>?_);have lts0:=Bt.lt;have les0:=Be.lt;have lMs0:=BM.lt;have hw0z:=hw.size;clear g_teM;obtain ⟨Bt,Be,BM,hw,-⟩:=qX3 Bt Be BM hw hb;have fs0:=h1b;have hwz:w.heap.size≤W4.heap.size:=hw0z;clear hb h1b h2b hw0z;simp only [Act.put];clear hl;have F_teMs0:=J4 Bt.f Be.f BM.f Bs0.f;go_wp2_with fail;clear F_teMs0;clear Bs0;try rw [rounds_succ]
 have Ft:=Bt.f;have Fe:=Be.f;have FM:=BM.f;go_wp2_with fail;refine zA1 fun W6 hW=>?_;subst hW;clear Ft Fe FM;have hl:∀ d os,(Instr.lookup 88 (.map (some b)) (.agg #[T.B.x,T.B.y,T.C.x,T.C.y]) true).run prog (grow (redrawn W6 d) os)=.ok (.tuple #[.agg #[(),(),(),(),(),()],.bool false]) (grow (redrawn W6 d) os):=fun d os=>((Hm.ee hw).ext (below_regrown W6 d os) rfl).look_none kvR zAy (okT_w hk).2.1 hg1;clear hg1;have g_teM:=J3 Bt.cells Be.cells BM.cells;refine rgl 11 7 25 (fun w7 bks1 hb h1b h2b Bs1=>?_);have lts1:=Bt.lt;have les1:=Be.lt;have lMs1:=BM.lt;have hw0z:=hw.size;clear g_teM;obtain ⟨Bt,Be,BM,hw,-⟩:=qX3 Bt Be BM hw hb;have fs1:=h1b;have hwz:w.heap.size≤W6.heap.size:=hw0z;clear hb h1b h2b hw0z;simp only [Act.put];clear hl;have F_teMs1:=J4 Bt.f Be.f BM.f Bs1.f;go_wp2_with fail;clear F_teMs1;clear Bs1;try rw [rounds_succ]
 have Ft:=Bt.f;have Fe:=Be.f;have FM:=BM.f;go_wp2_with fail;refine zA1 fun W8 hW=>?_;subst hW;clear Ft Fe FM;have hl:∀ d os,(Instr.lookup 88 (.map (some b)) (.agg #[T.C.x,T.C.y,T.A.x,T.A.y]) true).run prog (grow (redrawn W8 d) os)=.ok (.tuple #[S,.bool true]) (grow (redrawn W8 d) os):=fun d os=>((Hm.ee hw).ext (below_regrown W8 d os) rfl).look_some kvR zAy (okT_w hk).2.2 hg2;clear hg2;have g_teM:=J3 Bt.cells Be.cells BM.cells;refine rgl 11 7 25 (fun w9 bks2 hb h1b h2b Bs2=>?_);have lts2:=Bt.lt;have les2:=Be.lt;have lMs2:=BM.lt;have hw0z:=hw.size;clear g_teM;obtain ⟨Bt,Be,BM,hw,-⟩:=qX3 Bt Be BM hw hb;have fs2:=h1b;have hwz:w.heap.size≤W8.heap.size:=hw0z;clear hb h1b h2b hw0z;simp only [Act.put];clear hl;have Ft:=Bt.f;have Fe:=Be.f;have FM:=BM.f;have Fs2:=Bs2.f;go_wp2
 go_ret
 exact ⟨rfl,hw⟩
theorem rput_3 (mb b:Nat) (E:Es) (T:Tri3) (hg0:getE E (T.A,T.B)=none) (hg1:getE E (T.B,T.C)=none) (hg2:getE E (T.C,T.A)=none) (hk:okT T) (w:World) (Bm:Box w mb [.map (some b)] 90) (Hm:HoldsMap eW eT okW w b E):Calls prog 80 #[pt0 mb,T] w fun e w'=>e=.returned (.bool true)∧w.grownBy w' (some b)∧HoldsMap eW eT okW w' b (putT E T):=by
 have ce:=zDa T
 go_enter func80,ntmps80
 go_wp2_with fail;refine qE1 fun W1 Bt hw=>?_;refine qC1 (ce _) Bt hw fun w2 Bt hw Ft=>?_;go_wp2_with fail;refine zA1 fun W3 hW=>?_;obtain ⟨bke,hbe⟩:∃ b,w2.heap.size=b:=⟨_,rfl⟩;rw [hbe];obtain ⟨lte,fe,Be,Bt,hw⟩:=qM1 hW hbe Bt hw;clear hW hbe;have BM:Box W3 (mb) [.map (some b)] 90:=Bm.ee hw;refine wp_loop_rounds 5 ?_;try rw [rounds_succ]
 have Ft:=Bt.f;have Fe:=Be.f;have FM:=BM.f;go_wp2_with fail;refine zA1 fun W4 hW=>?_;subst hW;clear Ft Fe FM;have hl:∀ d os,(Instr.lookup 88 (.map (some b)) (.agg #[T.A.x,T.A.y,T.B.x,T.B.y]) true).run prog (grow (redrawn W4 d) os)=.ok (.tuple #[.agg #[(),(),(),(),(),()],.bool false]) (grow (redrawn W4 d) os):=fun d os=>((Hm.ee hw).ext (below_regrown W4 d os) rfl).look_none kvR zAy (okT_w hk).1 hg0;clear hg0;have g_teM:=J3 Bt.cells Be.cells BM.cells;refine rgl 11 7 25 (fun w5 bks0 hb h1b h2b Bs0=>?_);have lts0:=Bt.lt;have les0:=Be.lt;have lMs0:=BM.lt;have hw0z:=hw.size;clear g_teM;obtain ⟨Bt,Be,BM,hw,-⟩:=qX3 Bt Be BM hw hb;have fs0:=h1b;have hwz:w.heap.size≤W4.heap.size:=hw0z;clear hb h1b h2b hw0z;simp only [Act.put];clear hl;have F_teMs0:=J4 Bt.f Be.f BM.f Bs0.f;go_wp2_with fail;clear F_teMs0;clear Bs0;try rw [rounds_succ]
 have Ft:=Bt.f;have Fe:=Be.f;have FM:=BM.f;go_wp2_with fail;refine zA1 fun W6 hW=>?_;subst hW;clear Ft Fe FM;have hl:∀ d os,(Instr.lookup 88 (.map (some b)) (.agg #[T.B.x,T.B.y,T.C.x,T.C.y]) true).run prog (grow (redrawn W6 d) os)=.ok (.tuple #[.agg #[(),(),(),(),(),()],.bool false]) (grow (redrawn W6 d) os):=fun d os=>((Hm.ee hw).ext (below_regrown W6 d os) rfl).look_none kvR zAy (okT_w hk).2.1 hg1;clear hg1;have g_teM:=J3 Bt.cells Be.cells BM.cells;refine rgl 11 7 25 (fun w7 bks1 hb h1b h2b Bs1=>?_);have lts1:=Bt.lt;have les1:=Be.lt;have lMs1:=BM.lt;have hw0z:=hw.size;clear g_teM;obtain ⟨Bt,Be,BM,hw,-⟩:=qX3 Bt Be BM hw hb;have fs1:=h1b;have hwz:w.heap.size≤W6.heap.size:=hw0z;clear hb h1b h2b hw0z;simp only [Act.put];clear hl;have F_teMs1:=J4 Bt.f Be.f BM.f Bs1.f;go_wp2_with fail;clear F_teMs1;clear Bs1;try rw [rounds_succ]
 have Ft:=Bt.f;have Fe:=Be.f;have FM:=BM.f;go_wp2_with fail;refine zA1 fun W8 hW=>?_;subst hW;clear Ft Fe FM;have hl:∀ d os,(Instr.lookup 88 (.map (some b)) (.agg #[T.C.x,T.C.y,T.A.x,T.A.y]) true).run prog (grow (redrawn W8 d) os)=.ok (.tuple #[.agg #[(),(),(),(),(),()],.bool false]) (grow (redrawn W8 d) os):=fun d os=>((Hm.ee hw).ext (below_regrown W8 d os) rfl).look_none kvR zAy (okT_w hk).2.2 hg2;clear hg2;have g_teM:=J3 Bt.cells Be.cells BM.cells;refine rgl 11 7 25 (fun w9 bks2 hb h1b h2b Bs2=>?_);have lts2:=Bt.lt;have les2:=Be.lt;have lMs2:=BM.lt;have hw0z:=hw.size;clear g_teM;obtain ⟨Bt,Be,BM,hw,-⟩:=qX3 Bt Be BM hw hb;have fs2:=h1b;have hwz:w.heap.size≤W8.heap.size:=hw0z;clear hb h1b h2b hw0z;simp only [Act.put];clear hl;have F_teMs2:=J4 Bt.f Be.f BM.f Bs2.f;go_wp2_with fail;clear F_teMs2;clear Bs2;try rw [rounds_succ]
 have Ft:=Bt.f;have Fe:=Be.f;have FM:=BM.f;go_wp2_with fail;refine zA1 fun W10 hW=>?_;subst hW;clear Ft Fe FM;refine wp_loop_rounds 5 ?_;have HF:=Hm.ee hw;have hg:w.grownBy W10 (some b):=zA6 hw _;clear hw;try rw [rounds_succ]
 have Ft:=Bt.f;have Fe:=Be.f;have FM:=BM.f;go_wp2_with fail;have hw:Below W10 W10 W10:=Below.refl _ _;have g_teM:=J3 Bt.cells Be.cells BM.cells;refine rgn 8 (fun w11 hb=>?_);clear g_teM;clear Ft Fe FM;obtain ⟨Bt,Be,BM,hw,-⟩:=qX3 Bt Be BM hw hb;replace HF:=HF.ee hw;replace hg:=zA9 hg hw;clear hw;refine zBs _ rfl _ _ _ rfl kvR rfl HF (T.A,T.B) T rfl rfl (okT_w hk).1 ?_;intro c0 HG hh hs;replace Bt:=Bt.turn HF hh;replace Be:=Be.turn HF hh;replace BM:=BM.turn HF hh;replace hg:=zAa hg hh;clear HF hh hs;have HF:=HG;clear HG;have F_teM:=J3 Bt.f Be.f BM.f;go_wp2_with fail;clear F_teM;try rw [rounds_succ]
 have Ft:=Bt.f;have Fe:=Be.f;have FM:=BM.f;go_wp2_with fail;have hw:Below c0 c0 c0:=Below.refl _ _;have g_teM:=J3 Bt.cells Be.cells BM.cells;refine rgn 8 (fun w12 hb=>?_);clear g_teM;clear Ft Fe FM;obtain ⟨Bt,Be,BM,hw,-⟩:=qX3 Bt Be BM hw hb;replace HF:=HF.ee hw;replace hg:=zA9 hg hw;clear hw;refine zBs _ rfl _ _ _ rfl kvR rfl HF (T.B,T.C) T rfl rfl (okT_w hk).2.1 ?_;intro c1 HG hh hs;replace Bt:=Bt.turn HF hh;replace Be:=Be.turn HF hh;replace BM:=BM.turn HF hh;replace hg:=zAa hg hh;clear HF hh hs;have HF:=HG;clear HG;have F_teM:=J3 Bt.f Be.f BM.f;go_wp2_with fail;clear F_teM;try rw [rounds_succ]
 have Ft:=Bt.f;have Fe:=Be.f;have FM:=BM.f;go_wp2_with fail;have hw:Below c1 c1 c1:=Below.refl _ _;have g_teM:=J3 Bt.cells Be.cells BM.cells;refine rgn 8 (fun w13 hb=>?_);clear g_teM;clear Ft Fe FM;obtain ⟨Bt,Be,BM,hw,-⟩:=qX3 Bt Be BM hw hb;replace HF:=HF.ee hw;replace hg:=zA9 hg hw;clear hw;refine zBs _ rfl _ _ _ rfl kvR rfl HF (T.C,T.A) T rfl rfl (okT_w hk).2.2 ?_;intro c2 HG hh hs;replace Bt:=Bt.turn HF hh;replace Be:=Be.turn HF hh;replace BM:=BM.turn HF hh;replace hg:=zAa hg hh;clear HF hh hs;have HF:=HG;clear HG;have F_teM:=J3 Bt.f Be.f BM.f;go_wp2_with fail;clear F_teM;try rw [rounds_succ]
 have Ft:=Bt.f;have Fe:=Be.f;have FM:=BM.f;go_wp2
 go_ret
 exact ⟨rfl,hg,HF⟩
def freeE (E:Es) (T:Tri3):Bool:=(getE E (T.A,T.B)).isNone && ((getE E (T.B,T.C)).isNone && (getE E (T.C,T.A)).isNone)
theorem zI3 (E:Es) (T:Tri3):fitsE E T=(freeE E T && valT T):=by unfold fitsE freeE;simp only [Bool.and_assoc]
theorem zNx (mb b:Nat) (E:Es) (T:Tri3) (hf:freeE E T=false) (hk:okT T) (w:World) (Bm:Box w mb [.map (some b)] 90) (Hm:HoldsMap eW eT okW w b E):Calls prog 80 #[pt0 mb,T] w (Rt w (.bool false)):=by
 unfold freeE at hf;cases h0:getE E (T.A,T.B) with
 | some S=>exact rput_0 mb b E T S h0 hk w Bm Hm
 | none=>
  cases h1:getE E (T.B,T.C) with
  | some S=>exact rput_1 mb b E T S h0 h1 hk w Bm Hm
  | none=>
   cases h2:getE E (T.C,T.A) with
   | some S=>exact rput_2 mb b E T S h0 h1 h2 hk w Bm Hm
   | none=>rw [h0,h1,h2] at hf;simp at hf
theorem zHl (mb b:Nat) (E:Es) (T:Tri3) (hf:freeE E T=true) (hk:okT T) (w:World) (Bm:Box w mb [.map (some b)] 90) (Hm:HoldsMap eW eT okW w b E):Calls prog 80 #[pt0 mb,T] w fun e w'=>e=.returned (.bool true)∧w.grownBy w' (some b)∧HoldsMap eW eT okW w' b (putT E T):=by
 unfold freeE at hf;simp only [jA3,jEd] at hf;exact rput_3 mb b E T hf.1 hf.2.1 hf.2.2 hk w Bm Hm
end
section
attribute [local go_sem] rOper rAt rUpon cell_set sg_i64 sg_u64 alloc_cell alloc_frozen
attribute [local go_sem 10000] pt_eql pt_neq tri_eql
attribute [local irreducible] rWalk
attribute [local go_sem] rmap_nil run_makeMap
def Six (w : World) (A : Addr) (T : Tri3) : Prop := A.block < w.heap.size ∧ (w.cell? A = some (.int .i64 T.A.x) ∧ w.cell? ⟨A.block, A.off + 1, none⟩ = some (.int .i64 T.A.y) ∧ w.cell? ⟨A.block, A.off + 2, none⟩ = some (.int .i64 T.B.x) ∧
      w.cell? ⟨A.block,A.off+3,none⟩=some (.int .i64 T.B.y)∧w.cell? ⟨A.block,A.off+4,none⟩=some (.int .i64 T.C.x)∧w.cell? ⟨A.block,A.off+5,none⟩=some (.int .i64 T.C.y))
theorem RowAt.six {w:World} {a:Option Addr} {L:List Tri3} (h:RowAt cT 6 w a L) {j:Nat} (hj:j < L.length):∃ ad A,a=some ad∧ad.add (j * 6)=A∧Six w A L[j]:=by
 obtain ⟨ad,A,h1,h2,_,h4,h5⟩:=h.tri hj;exact ⟨ad,A,h1,h2,h4,h5⟩
theorem Six.ext {w w':World} {A:Addr} {T:Tri3} {n:Nat} (h:Six w A T) (hb:Below n w w') (hn:n=w.heap.size):Six w' A T:=by
 obtain ⟨h0,h1,h2,h3,h4,h5,h6⟩:=h;have e:∀ p:Addr,p.block=A.block→w'.cell? p=w.cell? p:=fun p hp=>hb.cell (by rw [hp,hn];exact h0);exact ⟨jBj h0 hb.size,(e A rfl).trans h1,(e ⟨A.block,A.off+1,none⟩ rfl).trans h2,(e ⟨A.block,A.off+2,none⟩ rfl).trans h3,(e ⟨A.block,A.off+3,none⟩ rfl).trans h4,(e ⟨A.block,A.off+4,none⟩ rfl).trans h5,(e ⟨A.block,A.off+5,none⟩ rfl).trans h6⟩
theorem Six.ee {w w':World} {A:Addr} {T:Tri3} (h:Six w A T) (hb:Below w w w'):Six w' A T:=h.ext hb rfl
theorem Six.f {w : World} {A : Addr} {T : Tri3} (h : Six w A T) : (A.block = w.heap.size) = False ∧ w.cell? A = some (.int .i64 T.A.x) ∧ w.cell? ⟨A.block, A.off + 1, none⟩ = some (.int .i64 T.A.y) ∧ w.cell? ⟨A.block, A.off + 2, none⟩ = some (.int .i64 T.B.x) ∧
      w.cell? ⟨A.block,A.off+3,none⟩=some (.int .i64 T.B.y)∧w.cell? ⟨A.block,A.off+4,none⟩=some (.int .i64 T.C.x)∧w.cell? ⟨A.block,A.off+5,none⟩=some (.int .i64 T.C.y):=⟨by simp;have:=h.1;omega,h.2⟩
def RNewPost (w:World) (n:Nat) (L:List Tri3) (e:Ending) (w':World):Prop:=
 (∃ mb b,e=.returned (.pointer (some ⟨mb,0,none⟩))∧Box w' mb [.map (some b)] 90∧HoldsMap eW eT okW w' b (putRun [] L).2∧w.heap.size≤b∧w.heap.size≤mb∧Below w w w'∧(putRun [] L).1=n) ∨
 (e=.returned (.pointer none)∧Below w w w'∧(putRun [] L).1 < n)
theorem rnew_any (a:Option Addr) (cap n:Nat) (L:List Tri3) (hn:Hid (L.length=n)) (hn1:n≤1000000) (hok:∀ T∈L,okT T) (w:World) (Hr:RowAt cT 6 w a L):Calls prog 71 #[.slice a n cap] w (RNewPost w n L):=by
 go_enter func71,ntmps71
 go_wp2_with fail;refine zA1 fun W1 hW=>?_;have BM:Box W1 (w+1) [.map (some w.heap.size)] 90:=by rw [hW];exact Box.new (by simp)
 have HM:HoldsMap eW eT okW W1 w.heap.size ([]:Es):=by rw [hW];exact (HoldsMap.made w).alloc _
 have hw:Below w w W1:=by rw [hW];go_grown
 clear hW
 go_loopw [4] (fun i wr=>∃ (k:Nat) (F:Es),k≤n∧i=.int .i64 k∧Hid (putRun [] L=(k+(putRun F (L.drop k)).1,(putRun F (L.drop k)).2))∧Box wr (w+1) [.map (some w.heap.size)] 90∧HoldsMap eW eT okW wr w.heap.size F∧Below w w wr) (fun i _=>n - (intOf i).toNat)
 case atStart=>exact ⟨0,[],jAt _,rfl,hdd (by simp),BM,HM,hw⟩
 case round=>
  clear BM HM hw;obtain ⟨k,F,hk,rfl,hR,BM,HF,hw⟩:=hrel;by_cases hlt:k < n
  ·have hlk:k < L.length:=hn.out▸hlt;have hokk:=hok L[k] (jAx hlk);have hst:=fun hf=>zH3 hlk hR.out hf;have hsp:=fun hf=>zH2 hlk hR.out hf;obtain ⟨ad,A,ea,eA,hA⟩:=(Hr.ee hw).six hlk;generalize L[k]=T at *
   have cv:=zDq T;cases hv:valT T with
   | false=>
    have HP:=hdd (hsp (by rw [zI3,hv,Bool.and_false]));rw [hv] at cv;clear hst hsp hv;obtain ⟨zA,q0,q1,q2,q3,q4,q5⟩:=hA.f;go_wp2_with fail;refine (cv _).mono ?_;rintro e w2 ⟨rfl,hb⟩;clear zA q0 q1 q2 q3 q4 q5;go_wp2
    go_ret
    exact .inr ⟨rfl,(upB hw hb),by rw [HP.out];exact hlt⟩
   | true=>
    rw [hv] at cv;cases hf:freeE F T with
    | false=>
     have HP:=hdd (hsp (by rw [zI3,hf,Bool.false_and]));have cp:=zNx (w.heap.size+1) w.heap.size F T hf hokk;clear hst hsp hv hf;obtain ⟨zA,q0,q1,q2,q3,q4,q5⟩:=hA.f;go_wp2_with fail;refine (cv _).mono ?_;rintro e w2 ⟨rfl,hb⟩;clear zA q0 q1 q2 q3 q4 q5;obtain ⟨zA,q0,q1,q2,q3,q4,q5⟩:=(hA.ee hb).f;replace hw:=upB hw hb;go_wp2_with fail;refine (cp _ (BM.ee hb) (HF.ee hb)).mono ?_;rintro e w3 ⟨rfl,hb2⟩;clear zA q0 q1 q2 q3 q4 q5;go_wp2
     go_ret
     exact .inr ⟨rfl,(upB hw hb2),by rw [HP.out];exact hlt⟩
    | true=>
     have HP:=hdd (hst (by rw [zI3,hf,hv];rfl));have cp:=zHl (w.heap.size+1) w.heap.size F T hf hokk;clear hst hsp hv hf;obtain ⟨zA,q0,q1,q2,q3,q4,q5⟩:=hA.f;go_wp2_with fail;refine (cv _).mono ?_;rintro e w2 ⟨rfl,hb⟩;clear zA q0 q1 q2 q3 q4 q5;obtain ⟨zA,q0,q1,q2,q3,q4,q5⟩:=(hA.ee hb).f;replace hw:=upB hw hb;replace BM:=BM.ee hb;replace HF:=HF.ee hb;go_wp2_with fail;refine (cp _ BM HF).mono ?_;rintro e w3 ⟨rfl,hg,HG⟩;clear zA q0 q1 q2 q3 q4 q5;replace BM:=BM.turn HF hg;replace hw:=zHg hw hg hw.size (jA9 _);clear HF hg hb hA;go_wp2;rw [←ea]
     go_roundw
     case rel=>exact ⟨k+1,putT F T,by omega,by go_num,HP,BM,HG,hw⟩
     case measure=>simp [intOf];omega
  ·have HP:=hdd (zIp (by rw [hn.out];omega) hR.out);go_wp2
   go_ret
   exact .inl ⟨_,_,rfl,BM,by rw [HP.out];exact HF,jA9 _,by omega,hw,by rw [HP.out];omega⟩
end
end Go.Proofs.YtogffkimgmlilaaGreat
