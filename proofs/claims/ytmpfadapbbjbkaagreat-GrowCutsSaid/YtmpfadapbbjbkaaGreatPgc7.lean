import Derived.Test.YtmpfadapbbjbkaaGreatPgc6
set_option maxRecDepth 100000
set_option maxHeartbeats 8000000
set_option linter.all false
namespace Go.Proofs.YtmpfadapbbjbkaaGreat
open _root_.Go.Proofs.Tryz
section
open Go.RowKit Go.Sort
def eff5 (c0 c1 c2 c3 c4:Value) (b:Nat) (w:World):World:=((((w.setCell ⟨b,0,none⟩ c0).setCell ⟨b,1,none⟩ c1).setCell ⟨b,2,none⟩ c2).setCell ⟨b,3,none⟩ c3).setCell ⟨b,4,none⟩ c4
theorem eff5_spec {c0 c1 c2 c3 c4 z:Value} {T:TypeId} (w:World) (b:Nat) (h:w.heap[b]? = some (.cells [z,z,z,z,z].toArray T)):(eff5 c0 c1 c2 c3 c4 b w).heap[b]? = some (.cells [c0,c1,c2,c3,c4].toArray T)/\(∀ B,B<=b->Below B w (eff5 c0 c1 c2 c3 c4 b w)):=by
 have B0:Box w b [z,z,z,z,z] T:=h;exact ⟨((((B0.set 0 c0).set 1 c1).set 2 c2).set 3 c3).set 4 c4,λB hB=>(((((Below.refl B w).setCell hB _).setCell hB _).setCell hB _).setCell hB _).setCell hB _⟩
theorem rgl5 {P : Program} {id : Nat} {Q : Exit -> Act -> World -> Prop} {a A : Act} {w : World} {l r : List Oper} {c0 c1 c2 c3 c4 : Value} {T : TypeId} {oj os : Oper} (m : Nat) (d t : Tmp)
    (k:∀ w' b,Below w w w'->w.heap.size<=b->b < w'.heap.size->Box w' b [c0,c1,c2,c3,c4] T->wpList P l.toArray Q r (A.put (some d) (.pointer (some ⟨b,0,none⟩))) w')
    (hoj:l.toArray[m]? = some oj:=by rfl) (hos:l.toArray[m+1]? = some os:=by rfl) (hjd:oj.dst=some d:=by rfl) (hafter:oj.after=#[]:=by rfl) (hguard:oj.guard=none:=by rfl) (hsd:os.dst=none:=by rfl) (hsg:os.guard=none:=by rfl)
    (hdsz:d < a.tmps.size:=by simp)
    (hrun:∀ (ρ:Operand->Value) (w:World),(execOp ρ oj).run P w=.ok (.value (.pointer (some ⟨w,0,none⟩))) (w.alloc (.cells #[(),(),(),(),()] T)):=by (intro ρ W;simp [execOp,go_sem];rfl))
    (hm:P.follows .mixedOrders=true:=by kernel_rfl) (hB:lateB .any l.toArray (m+2) m (m+1) d t=true:=by as_aux_lemma=>kernel_rfl)
    (hr:l.drop (m+2)=r:=by (simp only [dP1,dP0];try rfl))
    (h:rWalk P l.toArray (λw'=>∃ p:Regrown,w'=grow (redrawn w p.d) p.os) (λa'=>a'=A) (l.take m) a:=by
     simp only [Xu,JI];repeat (first | (refine zI (Eq.refl false) ?_;simp only [Act.put,sT2,sT1,sT0]) | (refine rWalk_step (λK hK=>?_);go_simp;first | (refine hK _ ?_;clear hK K) | (apply Exists.intro;refine ⟨λ_=>?_,hK _ ?_⟩;(with_reducible exact toExt (by assumption) _);clear hK K)))
     exact rWalk_nil rfl)
    (he:A.eval (.tmp t)=.agg #[c0,c1,c2,c3,c4]:=by rfl)
    (hst:∀ (ρ:Operand->Value) (w:World) (b:Nat),ρ (.tmp d)=.pointer (some ⟨b,0,none⟩)->ρ (.tmp t)=.agg #[c0,c1,c2,c3,c4]->Box w b [(),(),(),(),()] T->(execOp ρ os).run P w=.ok .skip (eff5 c0 c1 c2 c3 c4 b w):=by
     (intro ρ W b e1 e2 hB;obtain ⟨x,y,_,_⟩:=hB.f;simp [execOp,go_sem,e1,e2,x,y,eff5])):(Code.region id l.toArray true).wp P Q a w:=
 xM m d t [c0,c1,c2,c3,c4] (zs:=[(),(),(),(),()]) (eff:=eff5 c0 c1 c2 c3 c4) eff5_spec hoj hos hjd hafter hguard hsd hsg hdsz hrun hm hB rgB
  (Zu (A:=A) ⟨he,λw' b h1 h2 h3 h4=>by rw [hr];exact k w' b h1 h2 h3 h4⟩ _ _ _ h) hst
attribute [local go_sem] rOper rAt rUpon cell_set sg_i64 sg_u64 alloc_cell alloc_frozen
attribute [local go_sem 10000] pt_eql pt_neq tri_eql
attribute [local irreducible] rWalk
theorem qn (T:Tri3) (a b:Pt) (w:World):Calls prog 170 #[T,a,b] w (Rt w (.agg #[.int .i64 (apx T a b).x,.int .i64 (apx T a b).y])):=by
 unfold apx;cases a0:peqI T.A.x T.A.y a.x a.y with
 | false=>
  cases b0:peqI T.A.x T.A.y b.x b.y with
  | false=>rw [Yn ⟨rfl,rfl⟩];exact apex_0 T a b a0 b0 w
  | true=>
   rw [Ye (by simp)];cases a1:peqI T.B.x T.B.y a.x a.y with
   | false=>
    cases b1:peqI T.B.x T.B.y b.x b.y with
    | false=>rw [Yn ⟨rfl,rfl⟩];exact apex_20 T a b a0 b0 a1 b1 w
    | true=>rw [Ye (by simp)];exact apex_22 T a b a0 b0 a1 b1 w
   | true=>rw [Ye (by simp)];exact apex_21 T a b a0 b0 a1 w
 | true=>
  rw [Ye (by simp)];cases a1:peqI T.B.x T.B.y a.x a.y with
  | false=>
   cases b1:peqI T.B.x T.B.y b.x b.y with
   | false=>rw [Yn ⟨rfl,rfl⟩];exact apex_10 T a b a0 a1 b1 w
   | true=>rw [Ye (by simp)];exact apex_12 T a b a0 a1 b1 w
  | true=>rw [Ye (by simp)];exact apex_11 T a b a0 a1 w
theorem jw (mb b:Nat) (E:Es) (a1 a2:Option Addr) (cap1 cap2 n1 n2:Nat) (L1 L2:List Tri3) (hn1:Hi (L1.length=n1)) (hm1:n1<=1000000) (hok1:∀ T∈L1,okT T) (hn2:Hi (L2.length=n2)) (hm2:n2<=1000000) (hok2:∀ T∈L2,okT T) (h1:(takeRun E L1).1=n1) (h2:(putRun (takeRun E L1).2 L2).1=n2) (w:World) (Bm:Box w mb [.map (some b)] 102) (Hm:Hs w b E) (Hr1:RowAt cT 6 w a1 L1) (Hr2:RowAt cT 6 w a2 L2):Calls prog 42 #[pt0 mb,.slice a1 n1 cap1,.slice a2 n2 cap2] w λe w'=>e=.returned (.int .i64 0)/\w.grownBy w' (some b)/\Hs w' b (putRun (takeRun E L1).2 L2).2:=by
 have c1:=k8 mb b E a1 cap1 n1 L1 hn1 hm1 hok1;rw [h1] at c1;generalize (takeRun E L1).2=F at *
 have c2:=kL mb b F a2 cap2 n2 L2 hn2 hm2 hok2;rw [h2] at c2;generalize (putRun F L2).2=G at *
 clear h1 h2 hok1 hok2 hn1 hn2;have d1:decide ((n1:Int) < (n1:Int))=false:=by simp
 have d2:decide ((n2:Int) < (n2:Int))=false:=by simp
 go_enter func42,ntmps42
 go_wp2_with fail;refine (c1 _ Bm Hm Hr1).mono ?_;rintro e w1 ⟨rfl,hg,H1⟩;replace Bm:=Bm.turn Hm hg;replace Hr2:=Hr2.turn cT_ne Hm hg;clear Hm Hr1;go_wp2_with fail;refine (c2 _ Bm H1 Hr2).mono ?_;rintro e w2 ⟨rfl,hh,H2⟩;replace hg:=zO hg hh;clear hh;go_wp2
 go_ret
 exact ⟨rfl,hg,H2⟩
end
end Go.Proofs.YtmpfadapbbjbkaaGreat
namespace Go.Proofs.YtmpfadapbbjbkaaGreat.FT
open Go.RowKit Go.Sort
variable {P:Program} {Q:Exit->Act->World->Prop}
theorem wp_region_flowC {id:Nat} {a:Act} {w:World} {l:List Oper} (n:Nat) (pl:Plan) (hm:P.follows .mixedOrders=true) (hB:(Region.noSelect l.toArray && decide (n < l.toArray.size) && Region.sinkB .any l.toArray n && Region.chainB .any l.toArray n && planB .any n l.toArray [] pl (Array.replicate l.toArray.size false))=true) (hQ:∀ c x v a w,Q (.panic c) (Act.put a x v) w->Q (.panic c) a w) {C:World->Prop} (hC:∀ w',Below w w w'->C w') (hcl:∀ x y,Ext x y->C x->C y) (h:flow P l.toArray n Q pl C a w):(Code.region id l.toArray true).wp P Q a w:=by
 simp only [Yf,Yh] at hB;obtain ⟨⟨⟨⟨h1,h2⟩,h3⟩,h4⟩,h5⟩:=hB;refine wp_region_any hm ?_;have hx:Ext w { w with drawn:=w.drawn+1 }:=⟨rfl,rfl,rfl,Yq _,λ_ _=>rfl⟩;exact vO h1 h2 h3 h4 hQ _ pl C _ a w _ h5 headInv0 (by
  have:=KP (λi => !(Array.replicate l.toArray.size false).getD i true) (List.range n);rw [JD] at this;unfold undone;omega) hcl (hC _ hx) hx h
end Go.Proofs.YtmpfadapbbjbkaaGreat.FT
namespace Go.Proofs.YtmpfadapbbjbkaaGreat
open _root_.Go.Proofs.Tryz
section
open Go.RowKit Go.Sort
attribute [local go_sem] rOper rAt rUpon cell_set sg_i64 sg_u64 alloc_cell alloc_frozen
attribute [local go_sem 10000] pt_eql pt_neq tri_eql
attribute [local irreducible] rWalk
def badP (E:Es) (Lw:List Wl) (p q:Pt):Bool:=(lftE E p q).2 && ((lftE E q p).2 && (decide (kindW Lw (lo2 p q) (hi2 p q)=0) && decide (circ p q (apx (lftE E p q).1 p q) (apx (lftE E q p).1 p q)=1)))
def badC (E:Es) (Lw:List Wl) (p q:Pt):Pt×Pt:=if (lftE E p q).2=true/\(lftE E q p).2=true/\kindW Lw (lo2 p q) (hi2 p q)=0 then (apx (lftE E p q).1 p q,apx (lftE E q p).1 p q) else (⟨0,0⟩,⟨0,0⟩)
theorem fbad_a (mb b:Nat) (E:Es) (sb:Nat) (a0:Option Addr) (c n:Nat) (Lw:List Wl) (p q:Pt) (hk:okW (p,q)) (X Y:Tri3) (h1:lftE E p q=(X,false)) (v2:Bool) (h2:lftE E q p=(Y,v2)) (w:World) (Bm:Box w mb [.map (some b)] 102) (Hm:Hs w b E) (S:SetRd w sb a0 c n Lw):Calls prog 134 #[pt0 mb,pt0 sb,p,q] w (Rt w (.tuple #[.agg #[(),()],.agg #[(),()],.bool false])):=by
 have cl:=xV mb b E p q hk;have cl':=xV mb b E q p ⟨hk.2,hk.1⟩;have ck:=xW sb a0 c n Lw p q;have _:=S;rw [h1] at cl;rw [h2] at cl';clear h1 h2 hk
 go_enter func134,ntmps134
 go_wp2_with fail;refine qE4 λW1 Ba Bb Bc Bd hw=>?_;refine qC4 (cl _ (Bm.ee hw) (Hm.ee hw)) Ba Bb Bc Bd hw λw2 Ba Bb Bc Bd hw Fj=>?_;go_wp2_with fail;clear Fj;refine zG λW3 hW=>?_;obtain ⟨bkx,hbx⟩:∃ b,w2.heap.size=b:=⟨_,rfl⟩;rw [hbx];obtain ⟨lax,lbx,lcx,ldx,fx,Bx,Ba,Bb,Bc,Bd,hw⟩:=qM4 hW hbx Ba Bb Bc Bd hw;clear hW hbx;refine qC5 (cl' _ (Bm.ee hw) (Hm.ee hw)) Ba Bb Bc Bd Bx hw λw4 Ba Bb Bc Bd Bx hw GX=>?_;go_wp2_with fail;clear GX;refine z7 λW5 hW=>?_;obtain ⟨bky,hby⟩:∃ b,w4.heap.size=b:=⟨_,rfl⟩;rw [hby];obtain ⟨lay,lby,lcy,ldy,lxy,fy,By,Ba,Bb,Bc,Bd,Bx,hw⟩:=qM5 hW hby Ba Bb Bc Bd Bx hw;clear hW hby;have Fa:=Ba.f;have Fb:=Bb.f;have Fc:=Bc.f;have Fd:=Bd.f;have Fx:=Bx.f;have Fy:=By.f;clear cl cl' ck Bm Hm S
 go_region
 go_wp2;refine bodyPost_ret (v:=.tuple #[.agg #[(),()],.agg #[(),()],.bool false]) (by simp [results,results134,go_sem,Fc,Fd]) rfl ⟨rfl,by have hl:=hw.size;go_grown⟩
theorem fbad_b (mb b:Nat) (E:Es) (sb:Nat) (a0:Option Addr) (c n:Nat) (Lw:List Wl) (p q:Pt) (hk:okW (p,q)) (X Y:Tri3) (h1:lftE E p q=(X,true)) (h2:lftE E q p=(Y,false)) (w:World) (Bm:Box w mb [.map (some b)] 102) (Hm:Hs w b E) (S:SetRd w sb a0 c n Lw):Calls prog 134 #[pt0 mb,pt0 sb,p,q] w (Rt w (.tuple #[.agg #[(),()],.agg #[(),()],.bool false])):=by
 have cl:=xV mb b E p q hk;have cl':=xV mb b E q p ⟨hk.2,hk.1⟩;have ck:=xW sb a0 c n Lw p q;have _:=S;rw [h1] at cl;rw [h2] at cl';clear h1 h2 hk
 go_enter func134,ntmps134
 go_wp2_with fail;refine qE4 λW1 Ba Bb Bc Bd hw=>?_;refine qC4 (cl _ (Bm.ee hw) (Hm.ee hw)) Ba Bb Bc Bd hw λw2 Ba Bb Bc Bd hw Fj=>?_;go_wp2_with fail;clear Fj;refine zG λW3 hW=>?_;obtain ⟨bkx,hbx⟩:∃ b,w2.heap.size=b:=⟨_,rfl⟩;rw [hbx];obtain ⟨lax,lbx,lcx,ldx,fx,Bx,Ba,Bb,Bc,Bd,hw⟩:=qM4 hW hbx Ba Bb Bc Bd hw;clear hW hbx;refine qC5 (cl' _ (Bm.ee hw) (Hm.ee hw)) Ba Bb Bc Bd Bx hw λw4 Ba Bb Bc Bd Bx hw GX=>?_;go_wp2_with fail;clear GX;refine z7 λW5 hW=>?_;obtain ⟨bky,hby⟩:∃ b,w4.heap.size=b:=⟨_,rfl⟩;rw [hby];obtain ⟨lay,lby,lcy,ldy,lxy,fy,By,Ba,Bb,Bc,Bd,Bx,hw⟩:=qM5 hW hby Ba Bb Bc Bd Bx hw;clear hW hby;have Fa:=Ba.f;have Fb:=Bb.f;have Fc:=Bc.f;have Fd:=Bd.f;have Fx:=Bx.f;have Fy:=By.f;clear cl cl' ck Bm Hm S
 go_region
 go_wp2;refine bodyPost_ret (v:=.tuple #[.agg #[(),()],.agg #[(),()],.bool false]) (by simp [results,results134,go_sem,Fc,Fd]) rfl ⟨rfl,by have hl:=hw.size;go_grown⟩
theorem fbad_c (mb b:Nat) (E:Es) (sb:Nat) (a0:Option Addr) (c n:Nat) (Lw:List Wl) (p q:Pt) (hk:okW (p,q)) (X Y:Tri3) (h1:lftE E p q=(X,true)) (h2:lftE E q p=(Y,true)) (h3:¬ kindW Lw (lo2 p q) (hi2 p q)=0) (w:World) (Bm:Box w mb [.map (some b)] 102) (Hm:Hs w b E) (S:SetRd w sb a0 c n Lw):Calls prog 134 #[pt0 mb,pt0 sb,p,q] w (Rt w (.tuple #[.agg #[(),()],.agg #[(),()],.bool false])):=by
 have cl:=xV mb b E p q hk;have cl':=xV mb b E q p ⟨hk.2,hk.1⟩;have ck:=xW sb a0 c n Lw p q;have _:=S;rw [h1] at cl;rw [h2] at cl';clear h1 h2 hk;generalize kindW Lw (lo2 p q) (hi2 p q)=k at *
 have h3':(k != 0)=true:=by simpa using h3
 go_enter func134,ntmps134
 go_wp2_with fail;refine qE4 λW1 Ba Bb Bc Bd hw=>?_;refine qC4 (cl _ (Bm.ee hw) (Hm.ee hw)) Ba Bb Bc Bd hw λw2 Ba Bb Bc Bd hw Fj=>?_;go_wp2_with fail;clear Fj;refine zG λW3 hW=>?_;obtain ⟨bkx,hbx⟩:∃ b,w2.heap.size=b:=⟨_,rfl⟩;rw [hbx];obtain ⟨lax,lbx,lcx,ldx,fx,Bx,Ba,Bb,Bc,Bd,hw⟩:=qM4 hW hbx Ba Bb Bc Bd hw;clear hW hbx;refine qC5 (cl' _ (Bm.ee hw) (Hm.ee hw)) Ba Bb Bc Bd Bx hw λw4 Ba Bb Bc Bd Bx hw GX=>?_;go_wp2_with fail;clear GX;refine zG λW5 hW=>?_;obtain ⟨bky,hby⟩:∃ b,w4.heap.size=b:=⟨_,rfl⟩;rw [hby];obtain ⟨lay,lby,lcy,ldy,lxy,fy,By,Ba,Bb,Bc,Bd,Bx,hw⟩:=qM5 hW hby Ba Bb Bc Bd Bx hw;clear hW hby;refine qK6 (ck _ (S.ee hw)) Ba Bb Bc Bd Bx By hw λw6 Ba Bb Bc Bd Bx By hw=>?_;have Fa:=Ba.f;have Fb:=Bb.f;have Fc:=Bc.f;have Fd:=Bd.f;have Fx:=Bx.f;have Fy:=By.f;go_wp2_with fail;clear cl cl' ck Bm Hm S
 go_region
 go_wp2;refine bodyPost_ret (v:=.tuple #[.agg #[(),()],.agg #[(),()],.bool false]) (by simp [results,results134,go_sem,Fc,Fd]) rfl ⟨rfl,by have hl:=hw.size;go_grown⟩
theorem fbad_d (mb b:Nat) (E:Es) (sb:Nat) (a0:Option Addr) (c n:Nat) (Lw:List Wl) (p q:Pt) (hk:okW (p,q)) (X Y:Tri3) (h1:lftE E p q=(X,true)) (h2:lftE E q p=(Y,true)) (h3:kindW Lw (lo2 p q) (hi2 p q)=0) (C D:Pt) (hC:apx X p q=C) (hD:apx Y p q=D) (w:World) (Bm:Box w mb [.map (some b)] 102) (Hm:Hs w b E) (S:SetRd w sb a0 c n Lw):Calls prog 134 #[pt0 mb,pt0 sb,p,q] w (Rt w (.tuple #[C,D,.bool (decide (circ p q C D=1))])):=by
 have cl:=xV mb b E p q hk;have cl':=xV mb b E q p ⟨hk.2,hk.1⟩;have ck:=xW sb a0 c n Lw p q;have _:=S;rw [h1] at cl;rw [h2] at cl';clear h1 h2 hk;have cx:=qn X p q;have cy:=qn Y p q;rw [hC] at cx;rw [hD] at cy;rw [h3] at ck;have cc:=λw0=>circle_any p q C D w0;clear hC hD h3
 go_enter func134,ntmps134
 go_wp2_with fail;refine qE4 λW1 Ba Bb Bc Bd hw=>?_;refine qC4 (cl _ (Bm.ee hw) (Hm.ee hw)) Ba Bb Bc Bd hw λw2 Ba Bb Bc Bd hw Fj=>?_;go_wp2_with fail;clear Fj;refine zG λW3 hW=>?_;obtain ⟨bkx,hbx⟩:∃ b,w2.heap.size=b:=⟨_,rfl⟩;rw [hbx];obtain ⟨lax,lbx,lcx,ldx,fx,Bx,Ba,Bb,Bc,Bd,hw⟩:=qM4 hW hbx Ba Bb Bc Bd hw;clear hW hbx;refine qC5 (cl' _ (Bm.ee hw) (Hm.ee hw)) Ba Bb Bc Bd Bx hw λw4 Ba Bb Bc Bd Bx hw GX=>?_;go_wp2_with fail;clear GX;refine zG λW5 hW=>?_;obtain ⟨bky,hby⟩:∃ b,w4.heap.size=b:=⟨_,rfl⟩;rw [hby];obtain ⟨lay,lby,lcy,ldy,lxy,fy,By,Ba,Bb,Bc,Bd,Bx,hw⟩:=qM5 hW hby Ba Bb Bc Bd Bx hw;clear hW hby;refine qK6 (ck _ (S.ee hw)) Ba Bb Bc Bd Bx By hw λw6 Ba Bb Bc Bd Bx By hw=>?_;have Fa:=Ba.f;have Fb:=Bb.f;have Fc:=Bc.f;have Fd:=Bd.f;have Fx:=Bx.f;have Fy:=By.f;go_wp2_with fail;clear cl cl' ck Bm Hm S;have KJ:=J6 Ba.cells Bb.cells Bc.cells Bd.cells Bx.cells By.cells;refine rgn 8 (λw7 hb=>?_);clear KJ;clear Fa Fb Fc Fd Fx Fy;obtain ⟨Ba,Bb,Bc,Bd,Bx,By,hw,-⟩:=qX6 Ba Bb Bc Bd Bx By hw hb;have Fa:=Ba.f;have Fb:=Bb.f;have Fc:=Bc.f;have Fd:=Bd.f;have Fx:=Bx.f;have Fy:=By.f;go_wp2_with fail;refine z7 λW8 hW=>?_;replace Ba:=sto Ba hW;replace Bb:=sto Bb hW;replace Bc:=sto Bc hW;replace Bd:=sto Bd hW;replace Bx:=sto Bx hW;replace By:=sto By hW;replace hw:=stw hw hW;clear Fa Fb Fc Fd Fx Fy;clear hW;have hCl:∀ x y,Ext x y->(λw'=>Box w' (w.heap.size) [p.x,p.y] 26/\Box w' (w.heap.size+1) [q.x,q.y] 26/\Box w' (w.heap.size+1+1) [C.x,C.y] 26/\Box w' (w.heap.size+1+1+1) [D.x,D.y] 26) x->(λw'=>Box w' (w.heap.size) [p.x,p.y] 26/\Box w' (w.heap.size+1) [q.x,q.y] 26/\Box w' (w.heap.size+1+1) [C.x,C.y] 26/\Box w' (w.heap.size+1+1+1) [D.x,D.y] 26) y:=λx y h1 h2=>⟨Box.ext (h2.1) h1 rfl,Box.ext (h2.2.1) h1 rfl,Box.ext (h2.2.2.1) h1 rfl,Box.ext (h2.2.2.2) h1 rfl⟩;have Ga:=Ba;have Gb:=Bb;have Gc:=Bc;have Gd:=Bd;refine FT.wp_region_flowC 10 (.run 0 (.run 1 (.run 2 (.run 3 (.run 4 (.run 5 (.alt 6 (.run 7 (.alt 8 (.alt 9 .tail .stop) .stop)) .stop))))))) rfl (by kernel_rfl) (λ_ x _ _ _ h=>by cases x <;> exact h) (C:=λw'=>Box w' (w.heap.size) [p.x,p.y] 26/\Box w' (w.heap.size+1) [q.x,q.y] 26/\Box w' (w.heap.size+1+1) [C.x,C.y] 26/\Box w' (w.heap.size+1+1+1) [D.x,D.y] 26) (λ_ h=>⟨Ga.ee h,Gb.ee h,Gc.ee h,Gd.ee h⟩) hCl ?_;refine FT.flow_run rfl (λK hK=>?_);go_simp;refine ⟨.agg #[C.x,C.y],λwq hq0 hq1 hq2 hq3=>?_,hK _ ?_⟩
 ·obtain ⟨y0,y1,y2,y3⟩:=hq2.f;go_simp
 clear hK K;refine FT.flow_run rfl (λK hK=>?_);go_simp;refine ⟨.agg #[D.x,D.y],λwq hq0 hq1 hq2 hq3=>?_,hK _ ?_⟩
 ·obtain ⟨y0,y1,y2,y3⟩:=hq3.f;go_simp
 clear hK K;refine FT.flow_run rfl (λK hK=>?_);go_simp;refine ⟨.agg #[p.x,p.y],λwq hq0 hq1 hq2 hq3=>?_,hK _ ?_⟩
 ·obtain ⟨y0,y1,y2,y3⟩:=hq0.f;go_simp
 clear hK K;refine FT.flow_run rfl (λK hK=>?_);go_simp;refine ⟨.agg #[q.x,q.y],λwq hq0 hq1 hq2 hq3=>?_,hK _ ?_⟩
 ·obtain ⟨y0,y1,y2,y3⟩:=hq1.f;go_simp
 clear hK K;refine FT.flow_run rfl (λK hK=>?_);go_simp;refine ⟨.agg #[C.x,C.y],λwq hq0 hq1 hq2 hq3=>?_,hK _ ?_⟩
 ·obtain ⟨y0,y1,y2,y3⟩:=hq2.f;go_simp
 clear hK K;refine FT.flow_run rfl (λK hK=>?_);go_simp;refine ⟨.agg #[D.x,D.y],λwq hq0 hq1 hq2 hq3=>?_,hK _ ?_⟩
 ·obtain ⟨y0,y1,y2,y3⟩:=hq3.f;go_simp
 clear hK K;refine FT.flow_at hCl rfl trivial (λwc hwc K hK=>?_);go_simp;refine (cc _).mono ?_;rintro e w9 ⟨rfl,hb9⟩;have hb8:=Below.trans hwc (hb9.mono (Below.size hwc));replace Ga:=Ga.ee hb8;replace Gb:=Gb.ee hb8;replace Gc:=Gc.ee hb8;replace Gd:=Gd.ee hb8;replace hw:=upB hw hb8;clear hwc hb9 hb8;go_simp;refine hK _ _ ⟨Ga,Gb,Gc,Gd⟩ ?_;clear hK K
 (refine FT.flow_run rfl (λK hK=>?_);go_simp;first | (refine hK _ ?_;clear hK K) | (refine ⟨_,λ_ _ _ _ _=>rfl,hK _ ?_⟩;clear hK K))
 refine FT.flow_at hCl rfl trivial (λwc hwc K hK=>?_);go_simp;replace Ga:=Ga.ee hwc;replace Gb:=Gb.ee hwc;replace Gc:=Gc.ee hwc;replace Gd:=Gd.ee hwc;replace hw:=upB hw hwc;clear hwc;obtain ⟨y0,y1,y2,y3⟩:=Gc.f;go_simp;clear y0 y1 y2 y3;have hN:Below w w ((wc.setCell ⟨w+1+1,0,none⟩ (.int .i64 C.x)).setCell ⟨w+1+1,1,none⟩ (.int .i64 C.y)):=by have hl:=hw.size;go_grown
 replace Ga:Box ((wc.setCell ⟨w+1+1,0,none⟩ (.int .i64 C.x)).setCell ⟨w+1+1,1,none⟩ (.int .i64 C.y)) (w.heap.size) [p.x,p.y] 26:=((Ga.set_ne ⟨w+1+1,0,none⟩ (.int .i64 C.x) (by first | assumption | (show (w.heap.size+1+1:Nat)≠_;omega))).set_ne ⟨w+1+1,1,none⟩ (.int .i64 C.y) (by first | assumption | (show (w.heap.size+1+1:Nat)≠_;omega)));replace Gb:Box ((wc.setCell ⟨w+1+1,0,none⟩ (.int .i64 C.x)).setCell ⟨w+1+1,1,none⟩ (.int .i64 C.y)) (w.heap.size+1) [q.x,q.y] 26:=((Gb.set_ne ⟨w+1+1,0,none⟩ (.int .i64 C.x) (by first | assumption | (show (w.heap.size+1+1:Nat)≠_;omega))).set_ne ⟨w+1+1,1,none⟩ (.int .i64 C.y) (by first | assumption | (show (w.heap.size+1+1:Nat)≠_;omega)));replace Gc:Box ((wc.setCell ⟨w+1+1,0,none⟩ (.int .i64 C.x)).setCell ⟨w+1+1,1,none⟩ (.int .i64 C.y)) (w.heap.size+1+1) [C.x,C.y] 26:=((Gc.set 0 (.int .i64 C.x)).set 1 (.int .i64 C.y));replace Gd:Box ((wc.setCell ⟨w+1+1,0,none⟩ (.int .i64 C.x)).setCell ⟨w+1+1,1,none⟩ (.int .i64 C.y)) (w.heap.size+1+1+1) [D.x,D.y] 26:=((Gd.set_ne ⟨w+1+1,0,none⟩ (.int .i64 C.x) (by first | assumption | (show (w.heap.size+1+1:Nat)≠_;omega))).set_ne ⟨w+1+1,1,none⟩ (.int .i64 C.y) (by first | assumption | (show (w.heap.size+1+1:Nat)≠_;omega)));generalize ((wc.setCell ⟨w+1+1,0,none⟩ (.int .i64 C.x)).setCell ⟨w+1+1,1,none⟩ (.int .i64 C.y))=wd at *
 replace hw:=hN;clear hN;refine hK _ _ ⟨Ga,Gb,Gc,Gd⟩ ?_;clear hK K;refine FT.flow_at hCl rfl trivial (λwc hwc K hK=>?_);go_simp;replace Ga:=Ga.ee hwc;replace Gb:=Gb.ee hwc;replace Gc:=Gc.ee hwc;replace Gd:=Gd.ee hwc;replace hw:=upB hw hwc;clear hwc;obtain ⟨y0,y1,y2,y3⟩:=Gd.f;go_simp;clear y0 y1 y2 y3;have hN:Below w w ((wc.setCell ⟨w+1+1+1,0,none⟩ (.int .i64 D.x)).setCell ⟨w+1+1+1,1,none⟩ (.int .i64 D.y)):=by have hl:=hw.size;go_grown
 replace Ga:Box ((wc.setCell ⟨w+1+1+1,0,none⟩ (.int .i64 D.x)).setCell ⟨w+1+1+1,1,none⟩ (.int .i64 D.y)) (w.heap.size) [p.x,p.y] 26:=((Ga.set_ne ⟨w+1+1+1,0,none⟩ (.int .i64 D.x) (by first | assumption | (show (w.heap.size+1+1+1:Nat)≠_;omega))).set_ne ⟨w+1+1+1,1,none⟩ (.int .i64 D.y) (by first | assumption | (show (w.heap.size+1+1+1:Nat)≠_;omega)));replace Gb:Box ((wc.setCell ⟨w+1+1+1,0,none⟩ (.int .i64 D.x)).setCell ⟨w+1+1+1,1,none⟩ (.int .i64 D.y)) (w.heap.size+1) [q.x,q.y] 26:=((Gb.set_ne ⟨w+1+1+1,0,none⟩ (.int .i64 D.x) (by first | assumption | (show (w.heap.size+1+1+1:Nat)≠_;omega))).set_ne ⟨w+1+1+1,1,none⟩ (.int .i64 D.y) (by first | assumption | (show (w.heap.size+1+1+1:Nat)≠_;omega)));replace Gc:Box ((wc.setCell ⟨w+1+1+1,0,none⟩ (.int .i64 D.x)).setCell ⟨w+1+1+1,1,none⟩ (.int .i64 D.y)) (w.heap.size+1+1) [C.x,C.y] 26:=((Gc.set_ne ⟨w+1+1+1,0,none⟩ (.int .i64 D.x) (by first | assumption | (show (w.heap.size+1+1+1:Nat)≠_;omega))).set_ne ⟨w+1+1+1,1,none⟩ (.int .i64 D.y) (by first | assumption | (show (w.heap.size+1+1+1:Nat)≠_;omega)));replace Gd:Box ((wc.setCell ⟨w+1+1+1,0,none⟩ (.int .i64 D.x)).setCell ⟨w+1+1+1,1,none⟩ (.int .i64 D.y)) (w.heap.size+1+1+1) [D.x,D.y] 26:=((Gd.set 0 (.int .i64 D.x)).set 1 (.int .i64 D.y));generalize ((wc.setCell ⟨w+1+1+1,0,none⟩ (.int .i64 D.x)).setCell ⟨w+1+1+1,1,none⟩ (.int .i64 D.y))=wd at *
 replace hw:=hN;clear hN;refine hK _ _ ⟨Ga,Gb,Gc,Gd⟩ ?_;clear hK K;clear Ba Bb Bc Bd;intro wz hwz;simp only [dP1,dP0];replace Ga:=Ga.ee hwz;replace Gb:=Gb.ee hwz;replace Gc:=Gc.ee hwz;replace Gd:=Gd.ee hwz;replace hw:=upB hw hwz;clear hwz hCl;have Ba:=Ga;have Bb:=Gb;have Bc:=Gc;have Bd:=Gd;clear Ga Gb Gc Gd;have Fc:=Bc.f;have Fd:=Bd.f;go_wp2;refine bodyPost_ret (v:=.tuple #[C,D,.bool (decide (circ p q C D=1))]) (by simp [results,results134,go_sem,Fc,Fd];rfl) rfl ⟨rfl,by have hl:=hw.size;go_grown⟩
theorem ZP (mb b:Nat) (E:Es) (sb:Nat) (a0:Option Addr) (c n:Nat) (Lw:List Wl) (p q:Pt) (hk:okW (p,q)) (w:World) (Bm:Box w mb [.map (some b)] 102) (Hm:Hs w b E) (S:SetRd w sb a0 c n Lw):Calls prog 134 #[pt0 mb,pt0 sb,p,q] w (Rt w (.tuple #[.agg #[.int .i64 (badC E Lw p q).1.x,.int .i64 (badC E Lw p q).1.y],.agg #[.int .i64 (badC E Lw p q).2.x,.int .i64 (badC E Lw p q).2.y],.bool (badP E Lw p q)])):=by
 unfold badP badC;cases h1:lftE E p q with
 | mk X v1=>
  cases h2:lftE E q p with
  | mk Y v2=>
   cases v1 with
   | false=>simpa using fbad_a mb b E sb a0 c n Lw p q hk X Y h1 v2 h2 w Bm Hm S
   | true=>
    cases v2 with
    | false=>simpa using fbad_b mb b E sb a0 c n Lw p q hk X Y h1 h2 w Bm Hm S
    | true=>
     by_cases h3:kindW Lw (lo2 p q) (hi2 p q)=0
     ·simpa [h3] using fbad_d mb b E sb a0 c n Lw p q hk X Y h1 h2 h3 _ _ rfl rfl w Bm Hm S
     ·simpa [h3] using fbad_c mb b E sb a0 c n Lw p q hk X Y h1 h2 h3 w Bm Hm S
def upF (E:Es) (Lw:List Wl) (T:Tri3) (i:Nat):Bool := !decide (0 < cmpP (crn T i) (crn T (i+1))) && badP E Lw (crn T i) (crn T (i+1))
def upW (T:Tri3) (i:Nat):Wl:=mkW (crn T i) (crn T (i+1)) 1
def upL (E:Es) (Lw:List Wl) (T:Tri3) (k:Nat):List Wl:=((List.range k).filter (upF E Lw T)).map (upW T)
theorem uO (E:Es) (Lw:List Wl) (T:Tri3) (k:Nat):(upL E Lw T k).length<=k:=by
 unfold upL;rw [JC];exact XD (KP _ _) (by simp)
theorem upL_yes {E:Es} {Lw:List Wl} {T:Tri3} {k:Nat} (h:upF E Lw T k=true):upL E Lw T (k+1)=upL E Lw T k ++ [upW T k]:=by
 unfold upL;rw [Kl,KA,Xp];simp [h]
theorem upL_no {E:Es} {Lw:List Wl} {T:Tri3} {k:Nat} (h:upF E Lw T k=false):upL E Lw T (k+1)=upL E Lw T k:=by
 unfold upL;rw [Kl,KA,Xp];simp [h]
theorem YJ (mb b:Nat) (E:Es) (sb:Nat) (a0:Option Addr) (c n:Nat) (Lw:List Wl) (T:Tri3) (hT:okT T) (w:World) (Bm:Box w mb [.map (some b)] 102) (Hm:Hs w b E) (S:SetRd w sb a0 c n Lw):Calls prog 133 #[pt0 mb,pt0 sb,T] w λe w'=>∃ v,e=.returned v/\WRow w' w.heap.size v (upL E Lw T 3)/\Below w w w':=by
 have HT:=hdd hT;clear hT
 go_enter func133,ntmps133
 go_wp2_with fail;refine z7 λW1 hW=>?_;have BT:Box W1 w [T.A.x,T.A.y,T.B.x,T.B.y,T.C.x,T.C.y] 28:=by rw [hW];exact Box.new rfl
 have hw:Below w w W1:=by rw [hW];go_grown
 clear hW
 go_loopw [7,8,13,15,16] (λvl _ _ _ vi wr=>∃ k:Nat,k<=3/\vi=.int .i64 k/\WRow wr (w.heap.size+1) vl (upL E Lw T k)/\Below w w wr/\Box wr w [T.A.x,T.A.y,T.B.x,T.B.y,T.C.x,T.C.y] 28) (λ_ _ _ _ vi _=>3 - (intOf vi).toNat)
 case atStart=>exact ⟨0,by omega,rfl,WRow.nil0 _ _,hw,BT⟩
 case round=>
  clear BT hw;obtain ⟨k,hk,rfl,hown,hwr,BT⟩:=hrel;by_cases hlt:k < 3
  ·have hko:=Y5 HT.o (k:Int);have hko2:=Y5 HT.o ((k:Int)+1);have HKO:=hdd (show okW (crn T k,crn T ((k:Int)+1)) from ⟨hko,hko2⟩);have ce:=λW=>uH T (k:Int) W;have hle:(upL E Lw T k).length<=1000000:=XD (uO _ _ _ _) (by omega);have hlt3:(k:Int) < 3:=by omega
   have HF:=hdd (show upF E Lw T k=(!decide (0 < cmpP (crn T k) (crn T ((k:Int)+1))) && badP E Lw (crn T k) (crn T ((k:Int)+1))) from rfl);have HU:=hdd (show upW T k=mkW (crn T k) (crn T ((k:Int)+1)) 1 from rfl);have HB:=hdd (show w.heap.size+1<=wr.heap.size from BT.lt);have hw:=Below.refl wr.heap.size wr;generalize crn T (k:Int)=P at *
   generalize crn T ((k:Int)+1)=Q at *
   have cc:=λW=>zY P Q W;have cb:=λW B H D=>ZP mb b E sb a0 c n Lw P Q HKO.o W B H D;have cm:=λW=>q8 P Q 1 W;clear hko hko2;have FT:=BT.f;go_wp2_with fail;clear FT;refine qC1 (ce _) BT hw λw21 BT hw FT=>?_;go_wp2_with fail;clear FT;refine zG λW22 hW=>?_;obtain ⟨bkP,hbP⟩:∃ b,w21.heap.size=b:=⟨_,rfl⟩;rw [hbP];have lTP:=BT.lt;rw [hbP] at lTP;have fP:=hw.size;rw [hbP] at fP;have BP:Box W22 (bkP) [P.x,P.y] 26:=by rw [hW,<-hbP];exact (Box.new rfl).old _
   have BQ:Box W22 (bkP+1) [Q.x,Q.y] 26:=by rw [hW,<-hbP];exact Box.new (by simp)
   replace BT:Box W22 w [T.A.x,T.A.y,T.B.x,T.B.y,T.C.x,T.C.y] 28:=by rw [hW];exact ((BT).old _).old _
   replace hw:Below wr wr W22:=by have hl:=hw.size;rw [hW];go_grown
   clear hW hbP;refine qK3 (cc _) BT BP BQ hw λw23 BT BP BQ hw=>?_;clear cc ce;cases hc:decide (0 < cmpP P Q)
   case true=>
    have HN:=hdd (upL_no (E:=E) (Lw:=Lw) (T:=T) (k:=k) (by rw [HF.o,hc];rfl));generalize cmpP P Q=z at *
    have hwx:=(upB hwr hw);have FT:=BT.f;have FP:=BP.f;have FQ:=BQ.f;go_wp2;clear FT FP FQ
    go_roundw
    case rel=>exact ⟨k+1,hlt,by go_num,by rw [HN.o];exact hown.ee hw,hwx,BT⟩
    case measure=>simp [intOf];omega
   case false=>
    have HC:=hdd hc;generalize cmpP P Q=z at *
    have Kw:=J3 BT.f BP.f BQ.f;go_wp2_with fail;clear Kw;have hwx:=(upB hwr hw);refine qK3 (cb _ (Bm.ee hwx) (Hm.ee hwx) (S.ee hwx)) BT BP BQ hw λw24 BT BP BQ hw=>?_;clear cb hwx;have HV:=hdd (show upF E Lw T k=badP E Lw P Q by rw [HF.o,HC.o];rfl);generalize badP E Lw P Q=bb at *
    generalize badC E Lw P Q=bc at *
    cases bb
    case false=>
     have HN:=hdd (upL_no (E:=E) (Lw:=Lw) (T:=T) (k:=k) HV.o);have HT9:=BT;have hwx:=(upB hwr hw);have FT:=BT.f;have FP:=BP.f;have FQ:=BQ.f;go_wp2;clear FT FP FQ
     go_roundw
     case rel=>exact ⟨k+1,hlt,by go_num,by rw [HN.o];exact ((hown.ee hw).alloc _).alloc _,by have hl:=hwx.size;go_grown,(HT9.old _).old _⟩
     case measure=>simp [intOf];omega
    case true=>
     have HN:=hdd (upL_yes (E:=E) (Lw:=Lw) (T:=T) (k:=k) HV.o);have sT:(w.heap.size=w24.heap.size+1)=False:=by have:=BT.lt;simp;omega
     have sP:(bkP=w24.heap.size+1)=False:=by have:=BP.lt;simp;omega
     have sQ:(bkP+1=w24.heap.size+1)=False:=by have:=BQ.lt;simp;omega
     have Kw:=J3 BT.f BP.f BQ.f;go_wp2_with fail;clear Kw;clear sT sP sQ;refine zG λW25 hW=>?_;obtain ⟨bkC,hbC⟩:∃ b,w24.heap.size=b:=⟨_,rfl⟩;rw [hbC];have lTC:=BT.lt;rw [hbC] at lTC;have lPC:=BP.lt;rw [hbC] at lPC;have lQC:=BQ.lt;rw [hbC] at lQC;have fC:=hw.size;rw [hbC] at fC;have BC:Box W25 (bkC) [.int .i64 bc.1.x,.int .i64 bc.1.y] 26:=by rw [hW,<-hbC];exact (Box.new rfl).old _
     have BD:Box W25 (bkC+1) [.int .i64 bc.2.x,.int .i64 bc.2.y] 26:=by rw [hW,<-hbC];exact Box.new (by simp)
     replace BT:Box W25 w [T.A.x,T.A.y,T.B.x,T.B.y,T.C.x,T.C.y] 28:=by rw [hW];exact ((BT).old _).old _
     replace BP:Box W25 (bkP) [P.x,P.y] 26:=by rw [hW];exact ((BP).old _).old _
     replace BQ:Box W25 (bkP+1) [Q.x,Q.y] 26:=by rw [hW];exact ((BQ).old _).old _
     replace hw:Below wr wr W25:=by have hl:=hw.size;rw [hW];go_grown
     clear hW hbC;refine qK5 (cm _) BT BP BQ BC BD hw λw26 BT BP BQ BC BD hw=>?_;clear cm;generalize mkW P Q 1=X at *
     generalize mkOk P Q 1=ok at *
     have own:=hdd (hown.ee hw);have hlt0:=λq hq=>(hown.lt q hq).1;have HNE:=hdd (show WRow w26 (w.heap.size+1) u7 (upL E Lw T k) from hown.ee hw);have hwx:=(upB hwr hw);have HBT:=hdd BT;have hs2:=hw.size;have hbw:=HB.o;have HWX:=hdd hwx;clear hown hwr;have FT:=BT.f;have FP:=BP.f;have FQ:=BQ.f;have FC:=BC.f;have FD:=BD.f;go_wp2_with (at_builtin;refine tT rfl _ _ rfl (w.heap.size+1) _ (upL E Lw T k) rfl ((HNE.o.alloc _).alloc _) (w26.heap.size+1) X rfl (Box.new (by simp)) hle (by simp;omega) ?_;intro w4 v4 hown4 hg4 hn4)
     clear FT FP FQ FC FD;have BP4:=((HBT.o.old _).old _).grownBy hg4 (λe=>by have:=hlt0 _ e.symm;omega);have hw4:=((HWX.o.alloc HWX.o.size (.cells #[X.A.x,X.A.y,X.B.x,X.B.y,X.K] 57)).alloc (by simp;have:=HWX.o.size;omega) (.cells #[X.A.x,X.A.y,X.B.x,X.B.y,X.K] 57)).grown hg4 (by simp;have:=HWX.o.size;omega) (λq hq=>by have:=hlt0 q hq;omega);clear hg4 hlt0;go_wp2
     go_roundw
     case rel=>exact ⟨k+1,hlt,by go_num,by rw [HN.o,HU.o];exact hown4,hw4,BP4⟩
     case measure=>simp [intOf];omega
  ·obtain rfl:k=3:=by omega
   go_wp2
   go_ret
   exact ⟨_,rfl,hown.base (Nat.le_succ _),hwr⟩
section
open Go.Lib Go.Shelf
theorem those_ok (mb b:Nat) (E:Es) (g:FuncId) (cb:Array Value) (p:Tri3->Bool) (hE:E.length<=1000000) (hok:∀ e∈E,okT e.2) (w:World) (Bm:Box w mb [.map (some b)] 102) (Hm:Hs w b E) (eg:∀ args w,(callFunc g args).run prog w=.ok (.enter g args) w) (hp:∀ (T:Tri3),okT T->∀ (W:World),Below w w W->Calls prog g (#[.agg #[T.A.x,T.A.y,T.B.x,T.B.y,T.C.x,T.C.y]] ++ cb) W λe w'=>e=.returned (.bool (p T))/\Below W W w'):Calls prog 54 #[pt0 mb,.func (.func g) #[] cb] w λe w'=>∃ a cap,e=.returned (.slice a (srt cmpT (heads p E)).length cap)/\RowAt cT 6 w' a (srt cmpT (heads p E))/\Below w w w':=by
 obtain ⟨xm,ym,zm,vm⟩:=Bm.f
 go_enter func54,ntmps54
 go_wp2_with (at_range;refine yg _ rfl _ rfl kvM rfl Hm ?_)
 intro w0 HR0 hw0 _;clear xm ym zm vm;go_wp2
 go_loopw [5] (λv wr=>∃ D R:Es,Hi ((D ++ R).Perm E)/\wr.ownsRow w.heap.size 28 6 v (heads p D).length ((heads p D).flatMap cT)/\Ranging eW eT okW wr b w.heap.size E R/\Below w w wr) (λ_ wr=>wr.rangeLeft b w.heap.size)
 case atStart=>exact ⟨[],E,hdd (by simp),World.ownsRow_nil _ _ _ _,HR0,hw0⟩
 case round=>
  clear HR0 hw0;obtain ⟨D,R,hD,hown,HR,hw⟩:=hrel;go_wp2_with (at_next;refine x9 _ rfl _ rfl rfl HR ?_ ?_)
  ·intro hR;subst hR;have hp0:(heads p D).Perm (heads p E):=xY (by simpa using hD.o);have hle:(heads p D).length<=3000000:=by have:=hp0.length_eq;have:=yo p E;omega
   have HS:=hdd (wholeT.srt_of_perm hp0);go_wp2_with fail;refine (jE _ _ _ hle _ hown).mono ?_;rintro e w2 ⟨rfl,hg2,a,cap,rfl,hr⟩;go_wp2
   go_ret
   have hlen:(heads p D).length=(srt cmpT (heads p E)).length:=by rw [<-HS.o];exact (zd _).length_eq.symm
   rw [HS.o] at hr;refine ⟨a,cap,by rw [hlen];rfl,hr,hw.grown hg2 hw.size (λk hk=>?_)⟩;exact (hown.lt k hk).1
  ·intro u x T R' w1 hperm HR1 hg1 hs1 hen;have hD2:=hdd (show ((D ++ [((u,x),T)]) ++ R').Perm E by have:=(hperm.append_left D).symm.trans hD.o;simpa using this);have own1:=hown.kept hg1 (.inr (λe=>yM hown HR e.symm));have hw1:=hw.grown hg1 hw.size (λk hk=>by cases hk;exact Yq _);have HL:=hdd (show w1.rangeLeft b w.heap.size < wr.rangeLeft b w.heap.size by rw [zp HR1,zp HR,hperm.length_eq];simp);have hen2:(Instr.entry (.pointer (some ⟨w,0,none⟩))).run prog w1=.ok (.tuple #[.agg #[u.x,u.y,x.x,x.y],T]) w1:=hen;have hle:(heads p D).length<=1000000:=by have:=hD2.o.length_eq;have:=yo p D;simp at *;omega
   clear hown HR hg1 hs1 hen hperm hw;have hnx:Hi (∀ W:World,Below w1 w1 W->(W.rangeLeft b w.heap.size < wr.rangeLeft b w.heap.size)):=hdd (λW hW=>by
    rw [zp (HR1.ee hW),<-zp HR1];exact HL.o)
   have HTK:=hdd (show okT T from hok _ (hD2.o.mem_iff.1 (by simp):((u,x),T)∈E));by_cases hA:u=T.A
   ·have hd:peqI u.x u.y T.A.x T.A.y=true:=qs.2 hA;cases hT:p T with
    | false=>
     have HH:=hdd (show heads p (D ++ [((u,x),T)])=heads p D by rw [zo,kQ (by simp [hT])];simp);have cp:=λW hW=>hp T HTK.o W hW;rw [hT] at cp;clear hA hT;go_wp2_with fail;refine zG λW2 hW=>?_;have hb2:Below w1 w1 W2:=by rw [hW];go_grown
     clear hW;refine (cp _ ((upB hw1 hb2))).mono ?_;rintro e w3 ⟨rfl,hb⟩;have hb3:=(upB hb2 hb);clear hb hb2;go_wp2
     go_roundw
     case rel=>exact ⟨D ++ [((u,x),T)],R',hD2,by rw [HH.o];exact own1.kept (zK hb3 none) (by cases u5.ownBlock <;> simp),HR1.ee hb3,(upB hw1 hb3)⟩
     case measure=>exact hnx.o _ hb3
    | true=>
     have HH:=hdd (show heads p (D ++ [((u,x),T)])=heads p D ++ [T] by rw [zo,jQ hA hT]);have cp:=λW hW=>hp T HTK.o W hW;rw [hT] at cp;clear hA hT;go_wp2_with fail;refine zG λW2 hW=>?_;have hb2:Below w1 w1 W2:=by rw [hW];go_grown
     have Bt:Box W2 (w1+1) (cT T) 28:=by rw [hW];exact Box.new (by simp)
     clear hW;refine (cp _ ((upB hw1 hb2))).mono ?_;rintro e w3 ⟨rfl,hb⟩;have hb3:=(upB hb2 hb);replace Bt:=Bt.ee hb;have own3:=own1.kept (zK hb3 none) (by cases u5.ownBlock <;> simp);have HB:=hdd (XD hw1.size hb3.size);clear hb hb2;obtain ⟨xt,yt,zt,vt⟩:=Bt.f;unfold cT at xt;go_wp2_with (at_builtin;refine yR rfl _ _ rfl w.heap.size _ (heads p D) rfl (own3.alloc _) w3.heap.size T rfl (Box.new rfl) hle (by have:=HB.o;simp;omega) ?_;intro w4 v4 hown4 hg4)
     have hR3:=(HR1.ee hb3).kept (World.grownBy_alloc w3 (.cells (cT T).toArray 28) none) (by simp) (by simp);have hR4:=hR3.kept hg4 (yP (own3.alloc _) hR3.holds) (yM (own3.alloc _) hR3);have hw4:=((((upB hw1 hb3)).alloc (by have:=HB.o;omega) (.cells (cT T).toArray 28))).grown hg4 (by have:=HB.o;simp;omega) (λk hk=>((own3.alloc (.cells (cT T).toArray 28)).lt k hk).1)
     go_roundw
     case rel=>exact ⟨D ++ [((u,x),T)],R',hD2,by rw [HH.o];exact hown4,hR4,hw4⟩
     case measure=>rw [zp hR4,<-zp HR1];exact HL.o
   ·have hd:peqI u.x u.y T.A.x T.A.y=false:=by rw [<-KD,qs];exact hA
    have HH:=hdd (show heads p (D ++ [((u,x),T)])=heads p D by rw [zo,kQ (by simp [hA])];simp);clear hA;go_wp2
    go_roundw
    case rel=>exact ⟨D ++ [((u,x),T)],R',hD2,by rw [HH.o];exact (own1.alloc _).alloc _,HR1.ext (by go_grown) rfl,by have:=hw1.size;go_grown⟩
    case measure=>exact hnx.o _ (by go_grown)
theorem fbadcl_any (mb b:Nat) (E:Es) (sb:Nat) (a0:Option Addr) (c n:Nat) (Lw:List Wl) (b2 b3:Nat) (T:Tri3) (hT:okT T) (w:World) (B2:Box w b2 [pt0 mb] 31) (B3:Box w b3 [pt0 sb] 32) (Bm:Box w mb [.map (some b)] 102) (Hm:Hs w b E) (S:SetRd w sb a0 c n Lw):Calls prog 132 (#[.agg #[T.A.x,T.A.y,T.B.x,T.B.y,T.C.x,T.C.y]] ++ #[.pointer (some ⟨b2,0,none⟩),.pointer (some ⟨b3,0,none⟩)]) w (Rt w (.bool (decide (0 < (upL E Lw T 3).length)))):=by
 have cu:=λW B H D=>YJ mb b E sb a0 c n Lw T hT W B H D;have hle:=uO E Lw T 3;clear hT;generalize upL E Lw T 3=U at *
 show Calls prog 132 #[T,pt0 b2,pt0 b3] w _
 go_enter func132,ntmps132
 have KQ:=J2 B2.f B3.f;go_wp2_with fail;clear KQ;refine zG λW1 hW=>?_;have hw:Below w w W1:=by rw [hW];go_grown
 clear hW;refine (cu _ (Bm.ee hw) (Hm.ee hw) (S.ee hw)).mono ?_;rintro e w2 ⟨v,rfl,hr,hb⟩;replace hw:=upB hw hb;obtain ⟨a,cap,rfl,_,_⟩:=hr.row;clear hb hr cu;obtain ⟨m,hm⟩:∃ m,U.length=m:=⟨_,rfl⟩;rw [hm] at hle;cases hz:decide (0 < m) with
 | true=>
  have hz2:decide ((0:Int) < (m:Int))=true:=by simpa using hz
  go_wp2;refine bodyPost_ret (v:=.bool true) (by simp [results,results132,go_sem]) rfl ⟨by rw [hm,hz],hw⟩
 | false=>
  have hz2:decide ((0:Int) < (m:Int))=false:=by simpa using hz
  go_wp2;refine bodyPost_ret (v:=.bool false) (by simp [results,results132,go_sem]) rfl ⟨by rw [hm,hz],hw⟩
end
section
open Go.Lib Go.Shelf
def bigT (E:Es) (Lw:List Wl):List Tri3:=srt cmpT (heads (λT=>decide (0 < (upL E Lw T 3).length)) E)
def FB (E:Es) (Lw:List Wl):List Wl:=srt cmpW ((bigT E Lw).flatMap λT=>upL E Lw T 3)
theorem heads_in {p:Tri3->Bool} {E:Es} {T:Tri3} (h:T∈heads p E):p T=true/\∃ x,((T.A,x),T)∈E:=by
 unfold heads at h;obtain ⟨⟨⟨u,x⟩,S⟩,he,rfl⟩:=Yz.1 h;obtain ⟨he,hc⟩:=XR.1 he;simp only [Yf,Yh] at hc;exact ⟨hc.2,x,by rw [<-hc.1];exact he⟩
theorem append_wrow {w:World} {ops:Array Oper} {rest:List Oper} {o:Oper} {a:Act} {Q:Exit->Act->World->Prop} (hgd:o.guard=none) (s x:Operand) (ho:o.op=.call { callee:=.builtin .append,args:=#[s,x],argTypes:=#[48,48] }) (B:Nat) (v:Value) (L:List Wl) (hs:a.eval s=v) (hown:WRow w B v L) (bx cap:Nat) (U:List Wl) (hx:a.eval x=.slice (some ⟨bx,0,none⟩) U.length cap) (hU:RowAt cW 5 w (some ⟨bx,0,none⟩) U) (hu0:U.length<=1000) (hn:L.length<=1000000) (hbase:B<=w.heap.size) (h:∀ w' v',WRow w' B v' (L ++ U)->w.grownBy w' v.ownBlock->wpList prog ops Q rest (a.put o.dst v') w'):wpList prog ops Q (o :: rest) a w:=by
 obtain ⟨i0,hi,hz0,hz1,hz2⟩:=info_parts xG;refine wpList_append_own w hgd s x 48 ho B 57 i0 _ 5 40 underlying48 hi hz0 hz1 hz2 rfl (by decide) v L.length _ hs hown ⟨bx,0,none⟩ U.length cap (U.flatMap cW) hx (zP y6 U) ?_ ?_ ?_ ?_ hbase ?_
 ·intro j u hj;rw [Addr.add_lit,Xa];have:=(hU.flat j u hj).2
  rwa [Xa] at this
 ·intro u hu;obtain ⟨X,_,hX⟩:=Yw.1 hu;exact ka X u hX
 ·unfold maxLen;omega
 ·omega
 ·intro v' w' hown' hg _;refine h w' v' ?_ hg;unfold WRow;rw [Yi,X0];exact hown'
theorem enterBad:∀ args w,(callFunc 132 args).run prog w=.ok (.enter 132 args) w:=enters_of func132 (by kernel_rfl) rfl
theorem flat_take {L:List Tri3} {f:Tri3->List Wl} {k:Nat} (hk:k < L.length):(L.take (k+1)).flatMap f=(L.take k).flatMap f ++ f L[k]:=by
 rw [Yv hk,X0];simp
theorem uz (E:Es) (Lw:List Wl):∀ L:List Tri3,(L.flatMap λT=>upL E Lw T 3).length<=3 * L.length
 | []=>by simp
 | T :: L=>by
  have h1:=uO E Lw T 3;have h2:=uz E Lw L;rw [Yj,Yi,XO];omega
theorem fBad_any (mb b:Nat) (E:Es) (sb:Nat) (a0:Option Addr) (c n:Nat) (Lw:List Wl) (hE:E.length<=90000) (hok:∀ e∈E,okT e.2) (w:World) (Bm:Box w mb [.map (some b)] 102) (Hm:Hs w b E) (S:SetRd w sb a0 c n Lw):Calls prog 86 #[pt0 mb,pt0 sb] w λe w'=>∃ v,e=.returned v/\WRow w' w.heap.size v (FB E Lw)/\Below w w w':=by
 have HOK:=hdd (show ∀ T∈bigT E Lw,okT T/\0 < (upL E Lw T 3).length from λT hT=>by
  obtain ⟨k1,x,k2⟩:=heads_in ((zd _).mem_iff.1 hT);exact ⟨hok _ k2,by simpa using k1⟩)
 have hlen:(bigT E Lw).length<=90000:=by
  unfold bigT;rw [(zd _).length_eq];exact XD (yo _ _) hE
 have HFB:=hdd (show FB E Lw=srt cmpW ((bigT E Lw).flatMap λT=>upL E Lw T 3) from rfl);have ct:=λW1 (hW1:Below w w W1) (b2 b3:Nat) (B2:Box W1 b2 [pt0 mb] 31) (B3:Box W1 b3 [pt0 sb] 32)=>those_ok mb b E 132 #[pt0 b2,pt0 b3] (λT=>decide (0 < (upL E Lw T 3).length)) (by omega) hok W1 (Bm.ee hW1) (Hm.ee hW1) enterBad (λT hT W hW=>fbadcl_any mb b E sb a0 c n Lw b2 b3 T hT W (B2.ee hW) (B3.ee hW) ((Bm.ee hW1).ee hW) ((Hm.ee hW1).ee hW) ((S.ee hW1).ee hW))
 change ∀ W1 (hW1:Below w w W1) (b2 b3:Nat) (B2:Box W1 b2 [pt0 mb] 31) (B3:Box W1 b3 [pt0 sb] 32),Calls _ _ _ _ (λe w'=>∃ a cap,e=.returned (.slice a (bigT E Lw).length cap)/\RowAt cT 6 w' a (bigT E Lw)/\Below W1 W1 w') at ct
 generalize bigT E Lw=L at *
 generalize FB E Lw=F at *
 obtain ⟨m,hm⟩:∃ m,L.length=m:=⟨_,rfl⟩;rw [hm] at ct hlen;have HM:=hdd hm;clear hok hE hm
 go_enter func86,ntmps86
 go_wp2_with fail;refine zG λW1 hW=>?_;have B2:Box W1 w [pt0 mb] 31:=by rw [hW];exact (Box.new rfl).old _
 have B3:Box W1 (w+1) [pt0 sb] 32:=by rw [hW];exact Box.new (by simp)
 have hw:Below w w W1:=by rw [hW];go_grown
 clear hW;refine (ct _ hw _ _ B2 B3).mono ?_;rintro e w2 ⟨a,cap,rfl,hr,hb⟩;obtain ⟨B2,B3,hw,-⟩:=qX2 B2 B3 hw hb;clear hb ct;go_wp2_with fail
 go_loopw [6,14] (λvl vi wr=>∃ k:Nat,k<=m/\vi=.int .i64 k/\WRow wr w2.heap.size vl ((L.take k).flatMap λT=>upL E Lw T 3)/\Below w2 w2 wr) (λ_ vi _=>m - (intOf vi).toNat)
 case atStart=>exact ⟨0,XZ _,rfl,by simpa using WRow.nil0 _ _,Below.refl _ _⟩
 case round=>
  obtain ⟨k,hk,rfl,hown,hwr⟩:=hrel;by_cases hlt:k < m
  ·have hkL:k < L.length:=by rw [HM.o];exact hlt
   obtain ⟨ad,A,ea,eA,hA⟩:=(hr.ee hwr).six (j:=k) hkL;have HF:=hdd (flat_take (f:=λT=>upL E Lw T 3) hkL);have hle:((L.take k).flatMap λT=>upL E Lw T 3).length<=1000000:=XD (uz E Lw _) (by rw [X4];omega);obtain ⟨hokT,hpos⟩:=HOK.o _ (Yx hkL);have hpos:=hdd hpos;generalize L[k]=T at *
   have cu:=λW B H D=>YJ mb b E sb a0 c n Lw T hokT W B H D;have hu3:=uO E Lw T 3;generalize upL E Lw T 3=U at *
   have hwx:=(upB hw hwr);obtain ⟨t6,t0,t1,t2,t3,t4,t5⟩:=hA.f;obtain ⟨x2,y2,z2,v2⟩:=(B2.ee hwr).f;obtain ⟨x3,y3,z3,v3⟩:=(B3.ee hwr).f;subst ea;go_wp2_with fail;clear t6 t0 t1 t2 t3 t4 t5 x2 y2 z2 v2 x3 y3 z3 v3 hA;refine zG λW4 hW=>?_;have h4:Below wr wr W4:=by rw [hW];go_grown
   clear hW;refine (cu _ ((Bm.ee hwx).ee h4) ((Hm.ee hwx).ee h4) ((S.ee hwx).ee h4)).mono ?_;rintro e w5 ⟨v5,rfl,hr5,hb5⟩;have h5:=(upB h4 hb5);obtain ⟨a5,cap5,rfl,ra5,fl5⟩:=hr5.row;obtain ⟨bb,hbb⟩:∃ bb,a5=some ⟨bb,0,none⟩:=by
    rcases hr5.2 with ⟨h0,h1⟩ | ⟨g,cap',cur,h0,_⟩
    ·have:=hpos.o;omega
    ·simp only [Value.slice.injEq] at h0;exact ⟨g,h0.1⟩
   subst hbb;have hown5:=hown.ee h5;have hlt0:=λq hq=>(hown.lt q hq).1;have hs5:=h5.size;have hsr:=hwr.size;have hwr5:=(upB hwr h5);clear cu h4 hb5 hr5 fl5 hown h5;go_wp2_with (at_builtin;refine append_wrow rfl _ _ rfl w2.heap.size _ _ rfl hown5 bb cap5 U rfl ra5 (by omega) hle (by omega) ?_;intro w6 v6 hown6 hg6)
   have hw6:=hwr5.grown hg6 hwr5.size (λq hq=>by have:=hlt0 q hq;omega);clear hg6 hlt0 hwr5 hown5;go_wp2
   go_roundw
   case rel=>exact ⟨k+1,hlt,by go_num,by rw [HF.o];exact hown6,hw6⟩
   case measure=>simp [intOf];omega
  ·obtain rfl:k=m:=by omega
   rw [X5 (by rw [HM.o];omega)] at hown;have hle:(L.flatMap λT=>upL E Lw T 3).length<=3000000:=XD (uz E Lw _) (by rw [HM.o];omega);have hwx:=(upB hw hwr);go_wp2_with fail;refine (uU _ _ _ hle _ hown).mono ?_;rintro e w7 ⟨rfl,hg7,hr7⟩;have hlt0:=λq hq=>(hown.lt q hq).1;have hs2:=hw.size;have hw7:=hwx.grown hg7 hwx.size (λq hq=>by have:=hlt0 q hq;omega);go_wp2
   go_ret
   exact ⟨_,rfl,by rw [HFB.o];exact hr7.base hs2,hw7⟩
end
def P4 (a b c d:Pt) (x y z v:Int):Int:=det d b c * x+det a d c * y+det a b d * z - det a b c * v
theorem P4_cyc (a b c d:Pt) (x y z v:Int):P4 b c a d y z x v=P4 a b c d x y z v:=by
 unfold P4;have e1:det d c a=det a d c:=by unfold det;grind
 have e2:det b d a=det a b d:=by unfold det;grind
 have e3:det b c d=det d b c:=by unfold det;grind
 have e4:det b c a=det a b c:=zX a b c;rw [e1,e2,e3,e4];omega
def mid (a b:Pt) (s t:Int):Pt:=⟨s * a.x+t * b.x,s * a.y+t * b.y⟩
theorem Z5 (a b:Pt) (s t:Int):mid b a t s=mid a b s t:=by unfold mid;rw [Jz,Jz (t * b.y)]
def low (h:Pt->Int) (M s t:Int) (a b:Pt) (T:Tri3):Prop:=P4 (sc M T.A) (sc M T.B) (sc M T.C) (mid a b s t) (M * h T.A) (M * h T.B) (M * h T.C) (s * h a+t * h b) < 0
theorem qt {h:Pt->Int} {M s t:Int} {a b x y z:Pt} {T:Tri3} (hc:Cyc T x y z):low h M s t a b T↔P4 (sc M x) (sc M y) (sc M z) (mid a b s t) (M * h x) (M * h y) (M * h z) (s * h a+t * h b) < 0:=by
 unfold low;rcases hc with ⟨rfl,rfl,rfl⟩ | ⟨rfl,rfl,rfl⟩ | ⟨rfl,rfl,rfl⟩
 ·exact Iff.rfl
 ·rw [P4_cyc (sc M T.A) (sc M T.B) (sc M T.C)]
 ·rw [P4_cyc (sc M T.C) (sc M T.A) (sc M T.B)]
def dead (h:Pt->Int) (L:List Tri3) (a b:Pt):Prop:=∃ s t:Int,0 < s/\0 < t/\∃ T∈L,hasM (s+t) T (mid a b s t)/\low h (s+t) s t a b T
theorem near3_add {M N:Int} {a b c p v u:Pt} (hN:0<=N) (h:near3 M a b c p v) (h1:det (sc M a) (sc M b) p=0->0<=crd a b u) (h2:det (sc M b) (sc M c) p=0->0<=crd b c u) (h3:det (sc M c) (sc M a) p=0->0<=crd c a u):near3 M a b c p ⟨v.x+N * u.x,v.y+N * u.y⟩:=by
 have key:∀ x y:Pt,crd x y ⟨v.x+N * u.x,v.y+N * u.y⟩=crd x y v+N * crd x y u:=λx y=>by unfold crd;grind
 have one:∀ x y:Pt,(0 < det (sc M x) (sc M y) p\/(det (sc M x) (sc M y) p=0/\0 < crd x y v))->(det (sc M x) (sc M y) p=0->0<=crd x y u)->(0 < det (sc M x) (sc M y) p\/(det (sc M x) (sc M y) p=0/\0 < crd x y ⟨v.x+N * u.x,v.y+N * u.y⟩)):=by
  intro x y k1 k2;rcases k1 with k | ⟨k,k3⟩
  ·exact .inl k
  ·refine .inr ⟨k,?_⟩;have:=Yk hN (k2 k);rw [key];omega
 exact ⟨one _ _ h.1 h1,one _ _ h.2.1 h2,one _ _ h.2.2 h3⟩
theorem sc_crd (M:Int) (x y p q:Pt):det (sc M x) (sc M y) (sc M q)=det (sc M x) (sc M y) p+M * crd x y ⟨M * q.x - p.x,M * q.y - p.y⟩:=by unfold det sc crd;grind
section
variable {W H:Int} {L:List Tri3} (t:Tiles W H L) {h:Pt->Int}
include t
theorem Tiles.alive_left {a b q:Pt} {s r:Int} (hs:0 < s) (hr:0 < r) (hm:(a,b)∈L.flatMap ways) {T:Tri3} (hT:T∈L) (hq:isCnr T q) (h1:0 < det a b q) (h2:hasM (s+r) T (mid a b s r)) (h3:low h (s+r) s r a b T):False:=by
 obtain ⟨X,hX,c,cX,pX⟩:=t.way_of hm;obtain ⟨M,eM⟩:∃ M,s+r=M:=⟨_,rfl⟩;have hM:0 < M:=by omega
 obtain ⟨m,em⟩:∃ m,mid a b s r=m:=⟨_,rfl⟩;have e1:det (sc M a) (sc M b) m=0:=by rw [<-em,<-eM];unfold det sc mid;grind
 have e2:det (sc M b) (sc M c) m=M * (s * det a b c):=by rw [<-em,<-eM];unfold det sc mid;grind
 have e3:det (sc M c) (sc M a) m=M * (r * det a b c):=by rw [<-em,<-eM];unfold det sc mid;grind
 rw [eM,em] at h2;rw [eM] at h3;have pT:=t.pos T hT;have n0:=near_hasM hM pT h2;obtain ⟨v0,ev0⟩:∃ v0:Pt,(⟨M * (T.A.x+T.B.x+T.C.x) - 3 * m.x,M * (T.A.y+T.B.y+T.C.y) - 3 * m.y⟩:Pt)=v0:=⟨_,rfl⟩;rw [ev0] at n0;obtain ⟨u,eu⟩:∃ u:Pt,(⟨M * q.x - m.x,M * q.y - m.y⟩:Pt)=u:=⟨_,rfl⟩;have sgn2:∀ x y:Pt,0<=det x y q->det (sc M x) (sc M y) m=0->0<=crd x y u:=by
  intro x y k1 k2;have k3:=sc_crd M x y m q;rw [eu,k2,Zk,Ji] at k3;have k4:=Yk (XI hM) k1;have k5:M * det x y q=crd x y u:=Int.eq_of_mul_eq_mul_left (by omega) k3;omega
 obtain ⟨N,eN⟩:∃ N:Int,((crd a b v0).natAbs:Int)+1=N:=⟨_,rfl⟩;have hN:0<=N:=by omega
 have hcA:0<=det T.A T.B q/\0<=det T.B T.C q/\0<=det T.C T.A q:=(ZX pT hq).1;have n1:near M T m ⟨v0.x+N * u.x,v0.y+N * u.y⟩:=near3_add hN n0 (sgn2 _ _ hcA.1) (sgn2 _ _ hcA.2.1) (sgn2 _ _ hcA.2.2);have hcu:0 < crd a b u:=by
  have k3:=sc_crd M a b m q;rw [eu,e1,Zk,Ji] at k3;have k5:M * det a b q=crd a b u:=Int.eq_of_mul_eq_mul_left (by omega) k3;have:=Yu hM h1;omega
 have hcv:0 < crd a b ⟨v0.x+N * u.x,v0.y+N * u.y⟩:=by
  have e:crd a b ⟨v0.x+N * u.x,v0.y+N * u.y⟩=crd a b v0+N * crd a b u:=by unfold crd;grind
  have k:N<=N * crd a b u:=by
   have:=Kc (show 1<=crd a b u by omega) hN;omega
  omega
 have n2:near M X m ⟨v0.x+N * u.x,v0.y+N * u.y⟩:=cX.near ⟨.inr ⟨e1,hcv⟩,.inl (by rw [e2];exact Yu hM (Yu hs pX)),.inl (by rw [e3];exact Yu hM (Yu hr pX))⟩;have e:=t.same hX hT hM n2 n1;subst e;rw [qt cX] at h3;have z:P4 (sc M a) (sc M b) (sc M c) (mid a b s r) (M * h a) (M * h b) (M * h c) (s * h a+r * h b)=0:=by
  rw [<-eM];generalize h a=x
  generalize h b=y
  generalize h c=z
  unfold P4 det sc mid;grind
 rw [z] at h3;omega
theorem Tiles.not_dead {a b:Pt} (he:edgeL L a b):¬ dead h L a b:=by
 rintro ⟨s,r,hs,hr,T,hT,h2,h3⟩;obtain ⟨⟨ba,bb⟩,_,nab⟩:=t.edge_box he;have main:∀ {a b q:Pt} {s r:Int},edgeL L a b->0 < s->0 < r->isCnr T q->0 < det a b q->hasM (s+r) T (mid a b s r)->low h (s+r) s r a b T->False:=by
  intro a b q s r he hs hr hq hd h2 h3;rcases he with he | he
  ·exact t.alive_left hs hr he hT hq hd h2 h3
  ·rcases t.rim _ he with k | k
   ·exact t.alive_left hs hr k hT hq hd h2 h3
   ·obtain ⟨X,hX,c,cX,pX⟩:=t.way_of he;obtain ⟨y,z,k2⟩:=YN hq;have k3:0<=det b a q:=vk k pX (t.cyc_box hX cX.turn.turn) (t.cyc_box hT k2);have e:=zh a b q;omega
 have nz:∃ q,isCnr T q/\det a b q≠0:=by
  refine Xj λhn=>?_;have z:∀ q,isCnr T q->det a b q=0:=λq hq=>Xj λk=>hn ⟨q,hq,k⟩;have zA:=z T.A (.inl rfl);have zB:=z T.B (.inr (.inl rfl));have zC:=z T.C (.inr (.inr rfl));have e:∀ x:Pt,crd a b ⟨x.x - T.A.x,x.y - T.A.y⟩=det a b x - det a b T.A:=λx=>by unfold crd det;grind
  exact vz nab (t.pos T hT) (by rw [e];omega) (by rw [e];omega)
 obtain ⟨q,hq,hd⟩:=nz;by_cases hp:0 < det a b q
 ·exact main he hs hr hq hp h2 h3
 ·refine main he.turn hr hs hq (by have:=zh a b q;omega) ?_ ?_
  ·rw [Z5,Jz];exact h2
  ·unfold low at *;rw [Z5,Jz r s,Jz (r * h b)];exact h3
end
theorem YG {h:Pt->Int} {p q c d:Pt} (hS:0 < det p q c) (hR:0 < det q p d) (hU:0 < det c p d) (hV:0 < det d q c) (hP:0 < PH h p q c d) {M v:Int} {m:Pt} (hM:0 < M) (m1:0<=det (sc M p) (sc M q) m) (m2:0<=det (sc M q) (sc M c) m) (m3:0<=det (sc M c) (sc M p) m) (hl:P4 (sc M p) (sc M q) (sc M c) m (M * h p) (M * h q) (M * h c) v < 0):((0<=det (sc M c) (sc M p) m/\0<=det (sc M p) (sc M d) m/\0<=det (sc M d) (sc M c) m)/\P4 (sc M c) (sc M p) (sc M d) m (M * h c) (M * h p) (M * h d) v < 0)\/((0<=det (sc M d) (sc M q) m/\0<=det (sc M q) (sc M c) m/\0<=det (sc M c) (sc M d) m)/\P4 (sc M d) (sc M q) (sc M c) m (M * h d) (M * h q) (M * h c) v < 0):=by
 by_cases hd:0<=det (sc M d) (sc M c) m
 ·refine .inl ⟨⟨m3,?_,hd⟩,?_⟩
  ·refine (zu hS).1 ?_;have e:det p q c * det (sc M p) (sc M d) m=det (sc M c) (sc M p) m * det q p d+det (sc M p) (sc M q) m * det c p d:=by unfold det sc;grind
   rw [e];exact Int.add_nonneg (Yk m3 (XI hR)) (Yk m1 (XI hU))
  ·refine (zx hS).1 ?_;have e:det p q c * P4 (sc M c) (sc M p) (sc M d) m (M * h c) (M * h p) (M * h d) v=det c p d * P4 (sc M p) (sc M q) (sc M c) m (M * h p) (M * h q) (M * h c) v - M * (PH h p q c d * det (sc M c) (sc M p) m):=by
    unfold PH;generalize h p=x
    generalize h q=y
    generalize h c=z
    generalize h d=w
    unfold P4 det sc;grind
   have k1:=(zx hU).2 hl;have k2:=Yk (XI hM) (Yk (XI hP) m3);omega
 ·have hd2:0<=det (sc M c) (sc M d) m:=by have:=zh (sc M d) (sc M c) m;omega
  refine .inr ⟨⟨?_,m2,hd2⟩,?_⟩
  ·refine (zu hS).1 ?_;have e:det p q c * det (sc M d) (sc M q) m=det (sc M q) (sc M c) m * det q p d+det (sc M p) (sc M q) m * det d q c:=by unfold det sc;grind
   rw [e];exact Int.add_nonneg (Yk m2 (XI hR)) (Yk m1 (XI hV))
  ·refine (zx hS).1 ?_;have e:det p q c * P4 (sc M d) (sc M q) (sc M c) m (M * h d) (M * h q) (M * h c) v=det d q c * P4 (sc M p) (sc M q) (sc M c) m (M * h p) (M * h q) (M * h c) v - M * (PH h p q c d * det (sc M q) (sc M c) m):=by
    unfold PH;generalize h p=x
    generalize h q=y
    generalize h c=z
    generalize h d=w
    unfold P4 det sc;grind
   have k1:=(zx hV).2 hl;have k2:=Yk (XI hM) (Yk (XI hP) m2);omega
theorem YS (h:Pt->Int) (p q c d:Pt):PH h q p d c=PH h p q c d:=by
 unfold PH;generalize h p=x
 generalize h q=y
 generalize h c=z
 generalize h d=w
 unfold det;grind
theorem dead_flip {h:Pt->Int} {L L':List Tri3} {S R U V:Tri3} {p q c d:Pt} (hk:∀ T∈L,T≠S->T≠R->T∈L') (hU:U∈L') (hV:V∈L') (cS:Cyc S p q c) (cR:Cyc R q p d) (cU:Cyc U c p d) (cV:Cyc V d q c) (dS:0 < det p q c) (dR:0 < det q p d) (dU:0 < det c p d) (dV:0 < det d q c) (hP:0 < PH h p q c d) {a b:Pt} (hd:dead h L a b):dead h L' a b:=by
 obtain ⟨s,r,hs,hr,T,hT,h2,h3⟩:=hd;have hM:0 < s+r:=by omega
 by_cases e1:T=S
 ·subst e1;rw [qA cS] at h2;rw [qt cS] at h3;rcases YG dS dR dU dV hP hM h2.1 h2.2.1 h2.2.2 h3 with ⟨k1,k2⟩ | ⟨k1,k2⟩
  ·exact ⟨s,r,hs,hr,U,hU,(qA cU).2 k1,(qt cU).2 k2⟩
  ·exact ⟨s,r,hs,hr,V,hV,(qA cV).2 k1,(qt cV).2 k2⟩
 ·by_cases e2:T=R
  ·subst e2;rw [qA cR] at h2;rw [qt cR] at h3;rcases YG dR dS dV dU (by rw [YS];exact hP) hM h2.1 h2.2.1 h2.2.2 h3 with ⟨k1,k2⟩ | ⟨k1,k2⟩
   ·exact ⟨s,r,hs,hr,V,hV,(qA cV).2 k1,(qt cV).2 k2⟩
   ·exact ⟨s,r,hs,hr,U,hU,(qA cU).2 k1,(qt cU).2 k2⟩
  ·exact ⟨s,r,hs,hr,T,hk T hT e1 e2,h2,h3⟩
theorem det_mid (p q c d:Pt) (s t:Int):det (sc (s+t) d) (sc (s+t) c) (mid p q s t)=(s+t) * (s * det c p d - t * det d q c):=by unfold det sc mid;grind
theorem P4_mid (p q c d:Pt) (s t x y z w:Int):P4 (sc (s+t) c) (sc (s+t) p) (sc (s+t) d) (mid p q s t) ((s+t) * z) ((s+t) * x) ((s+t) * w) (s * x+t * y) = -((s+t) * ((s+t) * (t * P4 p q c d x y z w))):=by unfold P4 det sc mid;grind
theorem dead_new {h:Pt->Int} {L':List Tri3} {U:Tri3} {p q c d:Pt} (hU:U∈L') (cU:Cyc U c p d) (dS:0 < det p q c) (dR:0 < det q p d) (dU:0 < det c p d) (dV:0 < det d q c) (hP:0 < PH h p q c d):dead h L' p q:=by
 have hM:0 < det d q c+det c p d:=by omega
 have g1:∀ s t:Int,det (sc (s+t) c) (sc (s+t) p) (mid p q s t)=(s+t) * (t * det p q c):=λs t=>by unfold det sc mid;grind
 have g2:∀ s t:Int,det (sc (s+t) p) (sc (s+t) d) (mid p q s t)=(s+t) * (t * det q p d):=λs t=>by unfold det sc mid;grind
 refine ⟨det d q c,det c p d,dV,dU,U,hU,(qA cU).2 ⟨?_,?_,?_⟩,(qt cU).2 ?_⟩
 ·rw [g1];exact Yk (XI hM) (Yk (XI dU) (XI dS))
 ·rw [g2];exact Yk (XI hM) (Yk (XI dU) (XI dR))
 ·rw [det_mid,Jg (det d q c) (det c p d),Kf,XN];exact Jp _
 ·rw [P4_mid];have hP':0 < P4 p q c d (h p) (h q) (h c) (h d):=hP;have:=Yu hM (Yu hM (Yu dU hP'));omega
theorem kl {w:World} {g:Nat} {S:List Tri3} (h:Box w g (S.flatMap cT) 28):RowAt cT 6 w (some ⟨g,0,none⟩) S:=λj x hj=>by
 have hl:=(Yr.1 hj);refine ⟨_,rfl,h.lt,λi u hu=>?_⟩;have hi:i < 6:=(Yr.1 hu).1;rw [Addr.add_lit,Addr.add_lit,h.f.1,Xa,y5 kg S j i x hj hi];exact hu
theorem flip_n0 (mb b:Nat) (E:Es) (p q:Pt) (hk:okW (p,q)) (h0:getE E (p,q)=none) (w:World) (Bm:Box w mb [.map (some b)] 102) (Hm:Hs w b E):Calls prog 135 #[pt0 mb,p,q] w (Rt w (.int .i64 16)):=by
 have cl:=Zo mb b E p q h0 hk;clear h0
 go_enter func135,ntmps135
 go_wp2_with fail;refine qE2 λW1 Bp Bq hw=>?_;refine qC2 (cl _ (Bm.ee hw) (Hm.ee hw)) Bp Bq hw λw2 Bp Bq hw G6=>?_;go_wp2
 go_ret
 exact ⟨rfl,by have hl:=hw.size;go_grown⟩
theorem flip_n1 (mb b:Nat) (E:Es) (p q:Pt) (hk:okW (p,q)) (S:Tri3) (h0:getE E (p,q)=some S) (h1:getE E (q,p)=none) (w:World) (Bm:Box w mb [.map (some b)] 102) (Hm:Hs w b E):Calls prog 135 #[pt0 mb,p,q] w (Rt w (.int .i64 16)):=by
 have cl:=uC mb b E p q S h0 hk;have cr:=Zo mb b E q p h1 ⟨hk.2,hk.1⟩;clear h0 h1
 go_enter func135,ntmps135
 go_wp2_with fail;refine qE2 λW1 Bp Bq hw=>?_;refine qC2 (cl _ (Bm.ee hw) (Hm.ee hw)) Bp Bq hw λw2 Bp Bq hw G6=>?_;go_wp2_with fail;clear G6;refine zG λW3 hW=>?_;obtain ⟨bks,hbs⟩:∃ b,w2.heap.size=b:=⟨_,rfl⟩;rw [hbs];obtain ⟨lps,lqs,fs,Bs,Bp,Bq,hw⟩:=qM2 hW hbs Bp Bq hw;clear hW hbs;refine qC3 (cr _ (Bm.ee hw) (Hm.ee hw)) Bp Bq Bs hw λw4 Bp Bq Bs hw GQ=>?_;go_wp2
 go_ret
 exact ⟨rfl,by have hl:=hw.size;go_grown⟩
attribute [local go_sem 10000] run_upto_tri
theorem uY {w:World} {a:Option Addr} {L:List Tri3} (h:RowAt cT 6 w a L) (k:Nat):RowAt cT 6 w a (L.take k):=λj x hx=>by
 refine h j x ?_;rw [Xo] at hx;split at hx
 ·exact hx
 ·cases hx
theorem jp:∀ (L:List Tri3) (E:Es),(takeRun E L).1<=L.length
 | [],_=>Yq _
 | T :: L,E=>by
  unfold takeRun;split
  ·have:=jp L (takeT E T);simp only [XO];omega
  ·exact XZ _
theorem jx:∀ (L:List Tri3) (E:Es),(putRun E L).1<=L.length
 | [],_=>Yq _
 | T :: L,E=>by
  unfold putRun;split
  ·have:=jx L (putT E T);simp only [XO];omega
  ·exact XZ _
theorem replace_none (mb b:Nat) (E:Es) (a1 a2:Option Addr) (cap1 cap2 n1 n2:Nat) (L1:List Tri3) (hn1:L1.length=n1) (hc1:n1<=cap1) (hm1:n1<=1000000) (hok1:∀ T∈L1,okT T) (h1:(takeRun E L1).1 < n1) (w:World) (Bm:Box w mb [.map (some b)] 102) (Hm:Hs w b E) (Hr1:RowAt cT 6 w a1 L1):Calls prog 42 #[pt0 mb,.slice a1 n1 cap1,.slice a2 n2 cap2] w λe w'=>e=.returned (.int .i64 16)/\w.grownBy w' (some b)/\Hs w' b (putRun (takeRun E L1).2 (L1.take (takeRun E L1).1)).2:=by
 have c1:=k8 mb b E a1 cap1 n1 L1 (hdd hn1) hm1 hok1;generalize hk:(takeRun E L1).1=k at *
 generalize (takeRun E L1).2=F at *
 have c2:=kL mb b F a1 cap1 k (L1.take k) (hdd (by rw [X4];omega)) (by omega) (λT hT=>hok1 T (Kd hT));generalize (putRun F (L1.take k)).1=j at *
 generalize hL2:L1.take k=L2 at *
 have HL2:=hdd hL2;generalize (putRun F L2).2=G at *
 have d1:decide ((k:Int) < (n1:Int))=true:=by simp;omega
 have d2:(k:Int) < (n1:Int):=by omega
 have hkc:k<=cap1:=by omega
 clear hok1 hn1 hL2 hk
 go_enter func42,ntmps42
 go_wp2_with fail;refine (c1 _ Bm Hm Hr1).mono ?_;rintro e w1 ⟨rfl,hg,H1⟩;replace Bm:=Bm.turn Hm hg;have Hr2:=uY (Hr1.turn cT_ne Hm hg) k;rw [HL2.o] at Hr2;clear Hm Hr1 c1 HL2;go_wp2_with fail;refine (c2 _ Bm H1 Hr2).mono ?_;rintro e w2 ⟨rfl,hh,H2⟩;replace hg:=zO hg hh;clear hh;go_wp2
 go_ret
 exact ⟨rfl,hg,H2⟩
theorem replace_bad (mb b:Nat) (E:Es) (a1 a2:Option Addr) (cap1 cap2 n1 n2:Nat) (L1 L2:List Tri3) (hn1:L1.length=n1) (hm1:n1<=1000000) (hok1:∀ T∈L1,okT T) (hn2:L2.length=n2) (hc2:n2<=cap2) (hm2:n2<=1000000) (hok2:∀ T∈L2,okT T) (h1:(takeRun E L1).1=n1) (h2:(putRun (takeRun E L1).2 L2).1 < n2) (w:World) (Bm:Box w mb [.map (some b)] 102) (Hm:Hs w b E) (Hr1:RowAt cT 6 w a1 L1) (Hr2:RowAt cT 6 w a2 L2):Calls prog 42 #[pt0 mb,.slice a1 n1 cap1,.slice a2 n2 cap2] w λe w'=>e=.returned (.int .i64 2)/\w.grownBy w' (some b)/\Hs w' b (putRun (takeRun (putRun (takeRun E L1).2 L2).2 (L2.take (putRun (takeRun E L1).2 L2).1)).2 L1).2:=by
 have c1:=k8 mb b E a1 cap1 n1 L1 (hdd hn1) hm1 hok1;rw [h1] at c1;generalize (takeRun E L1).2=F at *
 have c2:=kL mb b F a2 cap2 n2 L2 (hdd hn2) hm2 hok2;generalize (putRun F L2).1=k at *
 generalize (putRun F L2).2=G at *
 have c3:=k8 mb b G a2 cap2 k (L2.take k) (hdd (by rw [X4];omega)) (by omega) (λT hT=>hok2 T (Kd hT));generalize hL3:L2.take k=L3 at *
 have HL3:=hdd hL3;generalize (takeRun G L3).1=j3 at *
 generalize (takeRun G L3).2=G3 at *
 have c4:=kL mb b G3 a1 cap1 n1 L1 (hdd hn1) hm1 hok1;generalize (putRun G3 L1).1=j4 at *
 generalize (putRun G3 L1).2=G4 at *
 have d0:decide ((n1:Int) < (n1:Int))=false:=by simp
 have d1:decide ((k:Int) < (n2:Int))=true:=by simp;omega
 have d2:(k:Int) < (n2:Int):=by omega
 have hkc:k<=cap2:=by omega
 clear hok1 hok2 hn1 hn2 hL3 h1
 go_enter func42,ntmps42
 go_wp2_with fail;refine (c1 _ Bm Hm Hr1).mono ?_;rintro e w1 ⟨rfl,hg,H1⟩;replace Bm:=Bm.turn Hm hg;replace Hr1:=Hr1.turn cT_ne Hm hg;replace Hr2:=Hr2.turn cT_ne Hm hg;clear Hm c1;go_wp2_with fail;refine (c2 _ Bm H1 Hr2).mono ?_;rintro e w2 ⟨rfl,hh,H2⟩;replace hg:=zO hg hh;replace Bm:=Bm.turn H1 hh;replace Hr1:=Hr1.turn cT_ne H1 hh;have Hr3:=uY (Hr2.turn cT_ne H1 hh) k;rw [HL3.o] at Hr3;clear hh H1 c2 Hr2 HL3;go_wp2_with fail;refine (c3 _ Bm H2 Hr3).mono ?_;rintro e w3 ⟨rfl,hh,H3⟩;replace hg:=zO hg hh;replace Bm:=Bm.turn H2 hh;replace Hr1:=Hr1.turn cT_ne H2 hh;clear hh H2 c3 Hr3;go_wp2_with fail;refine (c4 _ Bm H3 Hr1).mono ?_;rintro e w4 ⟨rfl,hh,H4⟩;replace hg:=zO hg hh;clear hh;go_wp2
 go_ret
 exact ⟨rfl,hg,H4⟩
theorem Good.takeUp:∀ {L1:List Tri3} {E:Es} {L:List Tri3},Good E L->∃ M,L.Perm (L1.take (takeRun E L1).1 ++ M)/\Good (takeRun E L1).2 M
 | [],E,L,h=>⟨L,by simp,h⟩
 | T :: L1,E,L,h=>by
  unfold takeRun;by_cases hh:hasE E T=true
  ·rw [Yn hh];have hm:=h.has.1 hh;obtain ⟨M0,hM0⟩:∃ M0,L.Perm (T :: M0):=⟨L.erase T,Jo hm⟩;obtain ⟨_,h2⟩:=Good.take (h.order hM0);obtain ⟨M,p,g⟩:=Good.takeUp (L1:=L1) h2;exact ⟨M,by simp only [Xu,Xg];exact hM0.trans (p.cons T),g⟩
  ·rw [Ye hh];exact ⟨L,by simp,h⟩
theorem fits_free {E:Es} {M:List Tri3} (h:Good E M) {T:Tri3} (hf:fitsE E T=true):valT T=true/\∀ w∈ways T,w ∉ M.flatMap ways:=by
 obtain ⟨h1,h2,h3,hv⟩:=vR hf;refine ⟨hv,λw hw=>?_⟩;simp only [ways,Yg,Ym,XG] at hw;rcases hw with rfl | rfl | rfl
 ·exact h.get_none.1 h1
 ·exact h.get_none.1 h2
 ·exact h.get_none.1 h3
theorem Good.putUp:∀ {L2:List Tri3} {E:Es} {M:List Tri3},Good E M->Good (putRun E L2).2 (L2.take (putRun E L2).1 ++ M)
 | [],E,M,h=>by simpa [putRun] using h
 | T :: L2,E,M,h=>by
  unfold putRun;by_cases hh:fitsE E T=true
  ·rw [Yn hh];obtain ⟨hv,hn⟩:=fits_free h hh;have h2:=(Good.put h hv hn).2;have:=Good.putUp (L2:=L2) h2;simp only [Xu,Xg];exact this.order KM
  ·rw [Ye hh]
   simpa using h
def Repl (E:Es) (L L1 L2:List Tri3) (r:Int) (L':List Tri3):Prop:=
 (r=16/\(takeRun E L1).1 < L1.length/\L'.Perm L) \/
 (r=2/\(takeRun E L1).1=L1.length/\(putRun (takeRun E L1).2 L2).1 < L2.length/\L'.Perm L) \/
 (r=0/\(takeRun E L1).1=L1.length/\(putRun (takeRun E L1).2 L2).1=L2.length/\∃ M,L.Perm (L1 ++ M)/\L'.Perm (L2 ++ M))
theorem mreplace_any (mb b:Nat) (E:Es) (L:List Tri3) (g:Good E L) (a1 a2:Option Addr) (cap1 cap2 n1 n2:Nat) (L1 L2:List Tri3) (hn1:L1.length=n1) (hc1:n1<=cap1) (hm1:n1<=1000000) (hok1:∀ T∈L1,okT T) (hn2:L2.length=n2) (hc2:n2<=cap2) (hm2:n2<=1000000) (hok2:∀ T∈L2,okT T) (w:World) (Bm:Box w mb [.map (some b)] 102) (Hm:Hs w b E) (Hr1:RowAt cT 6 w a1 L1) (Hr2:RowAt cT 6 w a2 L2):Calls prog 42 #[pt0 mb,.slice a1 n1 cap1,.slice a2 n2 cap2] w λe w'=>∃ r E' L',e=.returned (.int .i64 r)/\w.grownBy w' (some b)/\Hs w' b E'/\Good E' L'/\Repl E L L1 L2 r L':=by
 obtain ⟨M,pM,gM⟩:=Good.takeUp (L1:=L1) g;have tl:=jp L1 E;by_cases h1:(takeRun E L1).1=n1
 ·have e1:L1.take (takeRun E L1).1=L1:=X5 (by omega);rw [e1] at pM;have pl:=jx L2 (takeRun E L1).2;have gG:=Good.putUp (L2:=L2) gM;by_cases h2:(putRun (takeRun E L1).2 L2).1=n2
  ·have e2:L2.take (putRun (takeRun E L1).2 L2).1=L2:=X5 (by omega);rw [e2] at gG;refine (jw mb b E a1 a2 cap1 cap2 n1 n2 L1 L2 (hdd hn1) hm1 hok1 (hdd hn2) hm2 hok2 h1 h2 w Bm Hm Hr1 Hr2).mono ?_;rintro e w' ⟨rfl,hg,H'⟩;exact ⟨0,_,_,rfl,hg,H',gG,.inr (.inr ⟨rfl,by omega,by omega,M,pM,.refl _⟩)⟩
  ·refine (replace_bad mb b E a1 a2 cap1 cap2 n1 n2 L1 L2 hn1 hm1 hok1 hn2 hc2 hm2 hok2 h1 (by omega) w Bm Hm Hr1 Hr2).mono ?_;rintro e w' ⟨rfl,hg,H'⟩;have g3:=(Good.takes (F:=L2.take (putRun (takeRun E L1).2 L2).1) (M:=M) gG).2;have n4:((L1 ++ M).flatMap ways).Nodup:=(zi pM).nodup_iff.1 g.once;have g4:=(Good.puts (I:=L1) (M:=M) g3 (λT hT=>g.val T (pM.mem_iff.2 (by simp [hT]))) n4).2;exact ⟨2,_,_,rfl,hg,H',g4,.inr (.inl ⟨rfl,by omega,by omega,pM.symm⟩)⟩
 ·refine (replace_none mb b E a1 a2 cap1 cap2 n1 n2 L1 hn1 hc1 hm1 hok1 (by omega) w Bm Hm Hr1).mono ?_;rintro e w' ⟨rfl,hg,H'⟩;have n4:((L1.take (takeRun E L1).1 ++ M).flatMap ways).Nodup:=(zi pM).nodup_iff.1 g.once;have g4:=(Good.puts (I:=L1.take (takeRun E L1).1) (M:=M) gM (λT hT=>g.val T (pM.mem_iff.2 (by simp [hT]))) n4).2;exact ⟨16,_,_,rfl,hg,H',g4,.inl ⟨rfl,by omega,pM.symm⟩⟩
end
section
open Go.RowKit Go.Sort
attribute [local go_sem] rOper rAt rUpon cell_set sg_i64 sg_u64 alloc_cell alloc_frozen
attribute [local go_sem 10000] pt_eql pt_neq tri_eql
attribute [local irreducible] rWalk
theorem flip_g (mb b:Nat) (E:Es) (p q:Pt) (hk:okW (p,q)) (L:List Tri3) (g:Good E L) (S R U V:Tri3) (C D:Pt) (h0:getE E (p,q)=some S) (h1:getE E (q,p)=some R) (hC:apx S p q=C) (hD:apx R p q=D) (hm:meetS p q C D=1) (hU:mk C p D=U) (hV:mk D q C=V) (hS:okT S) (hR:okT R) (hu:okT U) (hv:okT V) (w:World) (Bm:Box w mb [.map (some b)] 102) (Hm:Hs w b E):Calls prog 135 #[pt0 mb,p,q] w λe w'=>∃ r E' L',e=.returned (.int .i64 r)/\w.grownBy w' (some b)/\Hs w' b E'/\Good E' L'/\Repl E L [S,R] [U,V] r L':=by
 have cl:=uC mb b E p q S h0 hk;have cr:=uC mb b E q p R h1 ⟨hk.2,hk.1⟩;clear h0 h1;have ca:=qn S p q;have cb:=qn R p q;have cm:=jO p q C D;have cu:=jD C p D;have cv:=jD D q C;rw [hU] at cu;rw [hV] at cv;rw [hC] at ca;rw [hD] at cb;rw [hm] at cm;have cp:=λa1 a2 w B H R1 R2=>mreplace_any mb b E L g a1 a2 2 2 2 2 [S,R] [U,V] rfl (by decide) (by decide) (by simpa using And.intro hS hR) rfl (by decide) (by decide) (by simpa using And.intro hu hv) w B H R1 R2;have HGG:=hdd g;clear hU hV hC hD hm hS hR hu hv g
 go_enter func135,ntmps135
 go_wp2_with fail;refine qE2 λW1 Bp Bq hw=>?_;refine qC2 (cl _ (Bm.ee hw) (Hm.ee hw)) Bp Bq hw λw2 Bp Bq hw G6=>?_;go_wp2_with fail;clear G6;refine zG λW3 hW=>?_;obtain ⟨bks,hbs⟩:∃ b,w2.heap.size=b:=⟨_,rfl⟩;rw [hbs];obtain ⟨lps,lqs,fs,Bs,Bp,Bq,hw⟩:=qM2 hW hbs Bp Bq hw;clear hW hbs;refine qC3 (cr _ (Bm.ee hw) (Hm.ee hw)) Bp Bq Bs hw λw4 Bp Bq Bs hw GQ=>?_;go_wp2_with fail;clear GQ;refine z7 λW5 hW=>?_;obtain ⟨bkr,hbr⟩:∃ b,w4.heap.size=b:=⟨_,rfl⟩;rw [hbr];obtain ⟨lpr,lqr,lsr,fr,Br,Bp,Bq,Bs,hw⟩:=qM3 hW hbr Bp Bq Bs hw;clear hW hbr;have Kz:=J4 Bp.cells Bq.cells Bs.cells Br.cells;refine yW 10 [⟨8,10,26,[(),()]⟩,⟨9,11,26,[(),()]⟩] ?_ (by kernel_rfl) (by decide) (by decide) (by kernel_rfl) (by decide) (C:=λw'=>∃ p:Regrown,w'=grow (redrawn W5 p.d) p.os) rgB ?_
 ·simp only [JN];refine ⟨⟨_,rfl,rfl,rfl,rfl,λρ W=>by simp [execOp,go_sem]⟩,⟨_,rfl,rfl,rfl,rfl,λρ W=>by simp [execOp,go_sem]⟩,λ_ h=>(by cases h)⟩
 simp only [Xu,JI,Xe,Ju,dropIdx,JW,Ja,Nat.reduceBEq,Nat.reduceAdd,Q8,QA,QB,KB,Q0,Jf];refine wkx ?_;intro w6 β hL;simp only [putD,JQ,JH];have qc:=hL.box ⟨8,10,26,[(),()]⟩ (by simp) (by simp);simp only at qc;have qd:=hL.box ⟨9,11,26,[(),()]⟩ (by simp) (by simp);simp only at qd;have ncd:=hL.apart 10 (by simp) 11 (by simp) (by decide);have ndc:=hL.apart 11 (by simp) 10 (by simp) (by decide);have hb:=hL.below;have lp:=Bp.lt;have lq:=Bq.lt;have ls:=Bs.lt;have lr:=Br.lt;clear Kz;replace Bp:=Bp.ee hb;replace Bq:=Bq.ee hb;replace Bs:=Bs.ee hb;replace Br:=Br.ee hb;have hw0:=hw.size;replace hw:=upB hw hb;clear hb hL;generalize β 10=bkc at *
 generalize β 11=bkd at *
 clear β;obtain ⟨fc,Bc⟩:=qc;obtain ⟨fd,Bd⟩:=qd;simp only [Act.put];have Fc:=Bc.f;have Fd:=Bd.f;have Fp:=Bp.f;have Fq:=Bq.f;have Fs:=Bs.f;have Fr:=Br.f;have epbkc:(w.heap.size=bkc)=False:=by simp;omega
 have epbkc':(bkc=w.heap.size)=False:=by simp;omega
 have epbkd:(w.heap.size=bkd)=False:=by simp;omega
 have epbkd':(bkd=w.heap.size)=False:=by simp;omega
 have eqbkc:(w.heap.size+1=bkc)=False:=by simp;omega
 have eqbkc':(bkc=w.heap.size+1)=False:=by simp;omega
 have eqbkd:(w.heap.size+1=bkd)=False:=by simp;omega
 have eqbkd':(bkd=w.heap.size+1)=False:=by simp;omega
 have esbkc:(bks=bkc)=False:=by simp;omega
 have esbkc':(bkc=bks)=False:=by simp;omega
 have esbkd:(bks=bkd)=False:=by simp;omega
 have esbkd':(bkd=bks)=False:=by simp;omega
 have erbkc:(bkr=bkc)=False:=by simp;omega
 have erbkc':(bkc=bkr)=False:=by simp;omega
 have erbkd:(bkr=bkd)=False:=by simp;omega
 have erbkd':(bkd=bkr)=False:=by simp;omega
 have ebkcbkd:(bkc=bkd)=False:=by simp;omega
 have ebkdbkc:(bkd=bkc)=False:=by simp;omega
 go_wp2_with fail;refine zG λW7 hW=>?_;replace Bp:=sto Bp hW;replace Bq:=sto Bq hW;replace Bs:=sto Bs hW;replace Br:=sto Br hW;replace Bc:=sto Bc hW;replace Bd:=sto Bd hW;replace hw:=stw hw hW;clear Fc Fd;clear Fp Fq Fs Fr epbkc epbkc' epbkd epbkd' eqbkc eqbkc' eqbkd eqbkd' esbkc esbkc' esbkd esbkd' erbkc erbkc' erbkd erbkd' ebkcbkd ebkdbkc;clear hW;refine qC6 (cm _) Bp Bq Bs Br Bc Bd hw λw8 Bp Bq Bs Br Bc Bd hw G1=>?_;go_wp2_with fail;clear G1;refine qC6 (cu _) Bp Bq Bs Br Bc Bd hw λw9 Bp Bq Bs Br Bc Bd hw G1=>?_;go_wp2_with fail;clear G1;refine zG λW10 hW=>?_;obtain ⟨bku,hbu⟩:∃ b,w9.heap.size=b:=⟨_,rfl⟩;rw [hbu];have lpu:=Bp.lt;rw [hbu] at lpu;have lqu:=Bq.lt;rw [hbu] at lqu;have lsu:=Bs.lt;rw [hbu] at lsu;have lru:=Br.lt;rw [hbu] at lru;have lcu:=Bc.lt;rw [hbu] at lcu;have ldu:=Bd.lt;rw [hbu] at ldu;have fu:=hw.size;rw [hbu] at fu;have Bu:Box W10 bku [U.A.x,U.A.y,U.B.x,U.B.y,U.C.x,U.C.y] 28:=by rw [hW];exact Box.new hbu.symm
 replace Bp:Box W10 w [p.x,p.y] 26:=by rw [hW];exact Bp.old _
 replace Bq:Box W10 (w+1) [q.x,q.y] 26:=by rw [hW];exact Bq.old _
 replace Bs:Box W10 (bks) [S.A.x,S.A.y,S.B.x,S.B.y,S.C.x,S.C.y] 28:=by rw [hW];exact Bs.old _
 replace Br:Box W10 (bkr) [R.A.x,R.A.y,R.B.x,R.B.y,R.C.x,R.C.y] 28:=by rw [hW];exact Br.old _
 replace Bc:Box W10 (bkc) [C.x,C.y] 26:=by rw [hW];exact Bc.old _
 replace Bd:Box W10 (bkd) [D.x,D.y] 26:=by rw [hW];exact Bd.old _
 replace hw:Below w w W10:=by have hl:=hw.size;rw [hW];go_grown
 clear hW hbu;refine (cv _).mono ?_;rintro e w11 ⟨rfl,hb⟩;replace Bp:=Bp.ee hb;obtain ⟨Bq,Bs,Br,Bc,Bd,Bu,hw,-⟩:=qX6 Bq Bs Br Bc Bd Bu hw hb;clear hb;have Fp:=Bp.f;have Fq:=Bq.f;have Fs:=Bs.f;have Fr:=Br.f;have Fc:=Bc.f;have Fd:=Bd.f;have Fu:=Bu.f;have es4:(bks=w11.heap.size+1)=False:=by have:=Bs.lt;simp;omega
 have es8:(bks=w11.heap.size+1+1)=False:=by have:=Bs.lt;simp;omega
 have er4:(bkr=w11.heap.size+1)=False:=by have:=Br.lt;simp;omega
 have er8:(bkr=w11.heap.size+1+1)=False:=by have:=Br.lt;simp;omega
 have eu4:(bku=w11.heap.size+1)=False:=by have:=Bu.lt;simp;omega
 have eu8:(bku=w11.heap.size+1+1)=False:=by have:=Bu.lt;simp;omega
 go_wp2_with fail;have row:∀ {w:World} {g:Nat} {X Y:Tri3},Box w g (cT X ++ cT Y) 28->RowAt cT 6 w (some ⟨g,0,none⟩) [X,Y]:=λ{w g X Y} h=>kl (S:=[X,Y]) (by simpa using h);refine zG λW12 hW=>?_;have R1:RowAt cT 6 W12 (some ⟨w11+1,0,none⟩) [S,R]:=row (by rw [hW];exact (Box.new (by simp)).old _);have R2:RowAt cT 6 W12 (some ⟨w11+1+1,0,none⟩) [U,V]:=row (by rw [hW];exact Box.new (by simp));replace hw:Below w w W12:=by have hl:=hw.size;rw [hW];go_grown
 clear hW row;have hlt:=Hm.lt;refine (cp _ _ _ (Bm.ee hw) (Hm.ee hw) R1 R2).mono ?_;rintro e w13 ⟨r,E9,L9,rfl,hg,H2,G2,R9⟩;replace hg:=below_then hw hg;clear Fp Fq Fs Fr Fc Fd Fu;go_wp2
 go_ret
 exact ⟨r,E9,L9,rfl,hg,H2,G2,R9⟩
theorem flip_m (mb b:Nat) (E:Es) (p q:Pt) (hk:okW (p,q)) (S R:Tri3) (C D:Pt) (h0:getE E (p,q)=some S) (h1:getE E (q,p)=some R) (hC:apx S p q=C) (hD:apx R p q=D) (hm:¬ meetS p q C D=1) (w:World) (Bm:Box w mb [.map (some b)] 102) (Hm:Hs w b E):Calls prog 135 #[pt0 mb,p,q] w (Rt w (.int .i64 2)):=by
 have cl:=uC mb b E p q S h0 hk;have cr:=uC mb b E q p R h1 ⟨hk.2,hk.1⟩;clear h0 h1;have ca:=qn S p q;have cb:=qn R p q;have cm:=jO p q C D;rw [hC] at ca;rw [hD] at cb;generalize meetS p q C D=z at *
 have hz:(z != 1)=true:=by simpa using hm
 clear hC hD
 go_enter func135,ntmps135
 go_wp2_with fail;refine qE2 λW1 Bp Bq hw=>?_;refine qC2 (cl _ (Bm.ee hw) (Hm.ee hw)) Bp Bq hw λw2 Bp Bq hw G6=>?_;go_wp2_with fail;clear G6;refine zG λW3 hW=>?_;obtain ⟨bks,hbs⟩:∃ b,w2.heap.size=b:=⟨_,rfl⟩;rw [hbs];obtain ⟨lps,lqs,fs,Bs,Bp,Bq,hw⟩:=qM2 hW hbs Bp Bq hw;clear hW hbs;refine qC3 (cr _ (Bm.ee hw) (Hm.ee hw)) Bp Bq Bs hw λw4 Bp Bq Bs hw GQ=>?_;go_wp2_with fail;clear GQ;refine z7 λW5 hW=>?_;obtain ⟨bkr,hbr⟩:∃ b,w4.heap.size=b:=⟨_,rfl⟩;rw [hbr];obtain ⟨lpr,lqr,lsr,fr,Br,Bp,Bq,Bs,hw⟩:=qM3 hW hbr Bp Bq Bs hw;clear hW hbr;have Kz:=J4 Bp.cells Bq.cells Bs.cells Br.cells;refine yW 10 [⟨8,10,26,[(),()]⟩,⟨9,11,26,[(),()]⟩] ?_ (by kernel_rfl) (by decide) (by decide) (by kernel_rfl) (by decide) (C:=λw'=>∃ p:Regrown,w'=grow (redrawn W5 p.d) p.os) rgB ?_
 ·simp only [JN];refine ⟨⟨_,rfl,rfl,rfl,rfl,λρ W=>by simp [execOp,go_sem]⟩,⟨_,rfl,rfl,rfl,rfl,λρ W=>by simp [execOp,go_sem]⟩,λ_ h=>(by cases h)⟩
 simp only [Xu,JI,Xe,Ju,dropIdx,JW,Ja,Nat.reduceBEq,Nat.reduceAdd,Q8,QA,QB,KB,Q0,Jf];refine wkx ?_;intro w6 β hL;simp only [putD,JQ,JH];have qc:=hL.box ⟨8,10,26,[(),()]⟩ (by simp) (by simp);simp only at qc;have qd:=hL.box ⟨9,11,26,[(),()]⟩ (by simp) (by simp);simp only at qd;have ncd:=hL.apart 10 (by simp) 11 (by simp) (by decide);have ndc:=hL.apart 11 (by simp) 10 (by simp) (by decide);have hb:=hL.below;have lp:=Bp.lt;have lq:=Bq.lt;have ls:=Bs.lt;have lr:=Br.lt;clear Kz;replace Bp:=Bp.ee hb;replace Bq:=Bq.ee hb;replace Bs:=Bs.ee hb;replace Br:=Br.ee hb;have hw0:=hw.size;replace hw:=upB hw hb;clear hb hL;generalize β 10=bkc at *
 generalize β 11=bkd at *
 clear β;obtain ⟨fc,Bc⟩:=qc;obtain ⟨fd,Bd⟩:=qd;simp only [Act.put];have Fc:=Bc.f;have Fd:=Bd.f;have Fp:=Bp.f;have Fq:=Bq.f;have Fs:=Bs.f;have Fr:=Br.f;have epbkc:(w.heap.size=bkc)=False:=by simp;omega
 have epbkc':(bkc=w.heap.size)=False:=by simp;omega
 have epbkd:(w.heap.size=bkd)=False:=by simp;omega
 have epbkd':(bkd=w.heap.size)=False:=by simp;omega
 have eqbkc:(w.heap.size+1=bkc)=False:=by simp;omega
 have eqbkc':(bkc=w.heap.size+1)=False:=by simp;omega
 have eqbkd:(w.heap.size+1=bkd)=False:=by simp;omega
 have eqbkd':(bkd=w.heap.size+1)=False:=by simp;omega
 have esbkc:(bks=bkc)=False:=by simp;omega
 have esbkc':(bkc=bks)=False:=by simp;omega
 have esbkd:(bks=bkd)=False:=by simp;omega
 have esbkd':(bkd=bks)=False:=by simp;omega
 have erbkc:(bkr=bkc)=False:=by simp;omega
 have erbkc':(bkc=bkr)=False:=by simp;omega
 have erbkd:(bkr=bkd)=False:=by simp;omega
 have erbkd':(bkd=bkr)=False:=by simp;omega
 have ebkcbkd:(bkc=bkd)=False:=by simp;omega
 have ebkdbkc:(bkd=bkc)=False:=by simp;omega
 go_wp2_with fail;refine zG λW7 hW=>?_;replace Bp:=sto Bp hW;replace Bq:=sto Bq hW;replace Bs:=sto Bs hW;replace Br:=sto Br hW;replace Bc:=sto Bc hW;replace Bd:=sto Bd hW;replace hw:=stw hw hW;clear Fc Fd;clear Fp Fq Fs Fr epbkc epbkc' epbkd epbkd' eqbkc eqbkc' eqbkd eqbkd' esbkc esbkc' esbkd esbkd' erbkc erbkc' erbkd erbkd' ebkcbkd ebkdbkc;clear hW;refine qK6 (cm _) Bp Bq Bs Br Bc Bd hw λw8 Bp Bq Bs Br Bc Bd hw=>?_;have Fp:=Bp.f;have Fq:=Bq.f;have Fs:=Bs.f;have Fr:=Br.f;have Fc:=Bc.f;have Fd:=Bd.f;go_wp2
 go_ret
 exact ⟨rfl,by have hl:=hw.size;go_grown⟩
theorem mk_okT (a b c:Pt):okT (mk a b c):=by
 by_cases h:ori a b c=0
 ·rw [um h];have z:vld (⟨0,0⟩:Pt)=true:=by decide
  exact ⟨yV z,yV z,yV z⟩
 ·exact yJ (mk_ok h).1
def FlipC (E:Es) (L:List Tri3) (p q:Pt) (r:Int) (L':List Tri3):Prop:=
 (r=16/\(getE E (p,q)=none\/getE E (q,p)=none)/\L'.Perm L) \/
 (∃ S R,getE E (p,q)=some S/\getE E (q,p)=some R /\
  ((meetS p q (apx S p q) (apx R p q)≠1/\r=2/\L'.Perm L) \/
   (meetS p q (apx S p q) (apx R p q)=1/\Repl E L [S,R] [mk (apx S p q) p (apx R p q),mk (apx R p q) q (apx S p q)] r L')))
theorem mflip_any (mb b:Nat) (E:Es) (L:List Tri3) (g:Good E L) (p q:Pt) (hk:okW (p,q)) (w:World) (Bm:Box w mb [.map (some b)] 102) (Hm:Hs w b E):Calls prog 135 #[pt0 mb,p,q] w λe w'=>∃ r E' L',e=.returned (.int .i64 r)/\w.grownBy w' (some b)/\Hs w' b E'/\Good E' L'/\FlipC E L p q r L':=by
 cases h0:getE E (p,q) with
 | none=>
  refine (flip_n0 mb b E p q hk h0 w Bm Hm).mono ?_;rintro e w' ⟨rfl,hb⟩;exact ⟨16,E,L,rfl,zK hb _,Hm.ee hb,g,.inl ⟨rfl,.inl h0,.refl _⟩⟩
 | some S=>
  cases h1:getE E (q,p) with
  | none=>
   refine (flip_n1 mb b E p q hk S h0 h1 w Bm Hm).mono ?_;rintro e w' ⟨rfl,hb⟩;exact ⟨16,E,L,rfl,zK hb _,Hm.ee hb,g,.inl ⟨rfl,.inr h1,.refl _⟩⟩
  | some R=>
   have hS:=yJ (g.val _ (g.get.1 h0).1);have hR:=yJ (g.val _ (g.get.1 h1).1);by_cases hm:meetS p q (apx S p q) (apx R p q)=1
   ·refine (flip_g mb b E p q hk L g S R _ _ _ _ h0 h1 rfl rfl hm rfl rfl hS hR (mk_okT _ _ _) (mk_okT _ _ _) w Bm Hm).mono ?_;rintro e w' ⟨r,E',L',rfl,hg,H',g',hr⟩;exact ⟨r,E',L',rfl,hg,H',g',.inr ⟨S,R,h0,h1,.inr ⟨hm,hr⟩⟩⟩
   ·refine (flip_m mb b E p q hk S R _ _ h0 h1 rfl rfl hm w Bm Hm).mono ?_;rintro e w' ⟨rfl,hb⟩;exact ⟨2,E,L,rfl,zK hb _,Hm.ee hb,g,.inr ⟨S,R,h0,h1,.inl ⟨hm,rfl,.refl _⟩⟩⟩
theorem Good.same {D E:Es} {L:List Tri3} (g:Good E L) (p:D.Perm E):Good D L:=⟨p.trans g.perm,g.nodup.perm p.symm,g.val⟩
theorem flip_doc {E E' D:Es} {L L':List Tri3} {p q:Pt} {r:Int} (g:Good E L) (pD:D.Perm E) (g':Good E' L') (h:FlipC E L p q r L'):(flipD D p q).1=r/\Good (flipD D p q).2 L':=by
 have gD:=g.same pD;rcases h with ⟨h1,h2,h3⟩ | ⟨S,R,h0,h1,h⟩
 ·rw [flipD_none (by rw [k9 gD.nodup pD,k9 gD.nodup pD];exact h2)];exact ⟨h1.symm,gD.order h3.symm⟩
 ·have k0:getE D (p,q)=some S:=by rw [k9 gD.nodup pD];exact h0
  have k1:getE D (q,p)=some R:=by rw [k9 gD.nodup pD];exact h1
  rw [vP k0 k1];obtain ⟨⟨mS,mR⟩,⟨cS,cR⟩,⟨p1,p2⟩,vp,vq,vc,vd⟩:=jT gD k0 k1;obtain ⟨C,eC⟩:∃ C,apx S p q=C:=⟨_,rfl⟩;obtain ⟨F,eF⟩:∃ F,apx R p q=F:=⟨_,rfl⟩;rw [eC,eF] at h;rw [eC] at cS p1 vc;rw [eF] at cR p2 vd;rw [eC,eF];have s1:det p q F = -det q p F:=by unfold det;grind
  have s2:det C F p = -det p F C:=by unfold det;grind
  have s3:det C F q=det F q C:=by unfold det;grind
  have hcr:meetS p q C F=1↔0 < ori p F C/\0 < ori F q C:=by
   rw [Y8,tH,kw vp vd vc,kw vd vq vc];constructor
   ·rintro ⟨_,_,h2⟩;have:det p F C+det F q C=det p q C+det q p F:=by unfold det;grind
    omega
   ·rintro ⟨o1,o2⟩;exact ⟨⟨vp,vq,vc,vd⟩,by omega,by omega⟩
  rcases h with ⟨hm,hr,hp⟩ | ⟨hm,hR⟩
  ·rw [Ye (λhc=>hm (hcr.2 ⟨hc.1,hc.2.1⟩))];exact ⟨hr.symm,gD.order hp.symm⟩
  ·obtain ⟨o1,o2⟩:=hcr.1 hm;rw [<-Z3 C p F] at hR;have hne:S≠R:=by
    rintro rfl;obtain ⟨n1,n2,n3⟩:=zL p1;rcases (cR.cnr_iff C).1 cS.turn.turn.cnr with e | e | e
    ·exact n2 e.symm
    ·exact n3 e
    ·rw [<-e] at s1 p2;omega
   obtain ⟨M,hM⟩:=qF mS mR hne;have hFC:F≠C:=by
    intro e;rw [e] at s1 p2;omega
   by_cases hfree:getE D (F,C)=none/\getE D (C,F)=none
   ·obtain ⟨_,M2,hM2,gF⟩:=good_flips gD k0 k1 eC eF o1 o2 hfree.1 hfree.2;rw [Yn ⟨o1,o2,hfree.1,hfree.2⟩];have gE:=g.order (show L.Perm ([S,R] ++ M2) from hM2);obtain ⟨t1,t2⟩:=Good.takes gE;have hnod:(([mk p F C,mk F q C] ++ M2).flatMap ways).Nodup:=gF.once;have hval:∀ T∈[mk p F C,mk F q C],valT T=true:=λT hT=>gF.val T (by
     simp only [Yg,Ym,XG] at hT;rcases hT with rfl | rfl <;> simp)
    obtain ⟨t3,t4⟩:=Good.puts t2 hval hnod;rcases hR with ⟨_,h2,_⟩ | ⟨_,_,h3,_⟩ | ⟨h1',_,_,M3,p3,p4⟩
    ·exact absurd h2 (by rw [t1];omega)
    ·exact absurd h3 (by rw [t3];omega)
    ·refine ⟨h1'.symm,gF.order ?_⟩;have:M3.Perm M2:=(List.perm_append_left_iff [S,R]).1 (p3.symm.trans hM2);exact ((this.append_left [mk p F C,mk F q C]).symm).trans p4.symm
   ·rw [Ye (λhc=>hfree ⟨hc.2.2.1,hc.2.2.2⟩)];have hO:∃ O,O∈L/\((F,C)∈ways O\/(C,F)∈ways O):=by
     by_cases e:getE D (F,C)=none
     ·obtain ⟨O,hO⟩:=Option.ne_none_iff_exists'.1 (λe2=>hfree ⟨e,e2⟩);obtain ⟨a,b⟩:=gD.get.1 hO;exact ⟨O,a,.inr b⟩
     ·obtain ⟨O,hO⟩:=Option.ne_none_iff_exists'.1 e;obtain ⟨a,b⟩:=gD.get.1 hO;exact ⟨O,a,.inl b⟩
    obtain ⟨O,mO,wO⟩:=hO;obtain ⟨x1,x2⟩:=good_cross gD k0 k1 eC eF hFC wO;have gE:=g.order (show L.Perm ([S,R] ++ M) from hM);obtain ⟨t1,t2⟩:=Good.takes gE;rcases hR with ⟨_,h2,_⟩ | ⟨h1',_,_,h4⟩ | ⟨_,_,_,M3,p3,p4⟩
    ·exact absurd h2 (by rw [t1];omega)
    ·exact ⟨h1'.symm,gD.order h4.symm⟩
    ·exfalso
     have mO3:O∈M3:=by
      have:=p3.mem_iff.1 mO;simp only [Xg,Xm,Yg] at this;rcases this with rfl | rfl | h
      ·rw [kD.2 rfl] at x1;cases x1
      ·rw [kD.2 rfl] at x2;cases x2
      ·exact h
     have hnod:=(g'.order p4).once;simp only [Xg,Xm,Yj] at hnod;rw [<-Yp,XE] at hnod;have d1:0 < det p F C:=(kw vp vd vc).1 o1;have d2:0 < det F q C:=(kw vd vq vc).1 o2;have v1:=(g'.order p4).val (mk p F C) (by simp);have v2:=(g'.order p4).val (mk F q C) (by simp);have w1:(F,C)∈ways (mk p F C):=(zj vp vd vc d1).1.turn.way;have w2:(C,F)∈ways (mk F q C):=(zj vd vq vc d2).1.turn.turn.way;rcases wO with wO | wO
     ·exact hnod.2.2 (F,C) (XP _ w1) (F,C) (Yw.2 ⟨O,mO3,wO⟩) rfl
     ·exact hnod.2.2 (C,F) (XJ _ w2) (C,F) (Yw.2 ⟨O,mO3,wO⟩) rfl
theorem tE {h:Pt->Int} {L M:List Tri3} (p:L.Perm M) {a b:Pt} (k:dead h L a b):dead h M a b:=by
 obtain ⟨s,r,hs,hr,T,hT,k2⟩:=k;exact ⟨s,r,hs,hr,T,p.mem_iff.1 hT,k2⟩
theorem xI {W H:Int} {E:Es} {L:List Tri3} {Lw:List Wl} (g:Good E L) (t:Tiles W H L) (hg:∀ x∈Lw,GoodW x) {p q:Pt}:badP E Lw p q=true↔∃ S∈L,∃ R∈L,∃ c d,Cyc S p q c/\Cyc R q p d/\kindD Lw p q=0/\circ p q c d=1:=by
 unfold badP;rw [<-uD hg];constructor
 ·intro hb;cases h1:getE E (p,q) with
  | none=>rw [yk h1] at hb;simp at hb
  | some S=>
   cases h2:getE E (q,p) with
   | none=>rw [yk h2] at hb;simp at hb
   | some R=>
    obtain ⟨⟨mS,mR⟩,⟨cS,cR⟩,_⟩:=jT g h1 h2;rw [zw h1,zw h2] at hb;simp only [Xy,Yf,Yh] at hb;exact ⟨S,mS,R,mR,_,_,cS,cR,hb.1,hb.2⟩
 ·rintro ⟨S,mS,R,mR,c,d,cS,cR,hk,hc⟩;have h1:=g.get.2 ⟨mS,cS.way⟩;have h2:=g.get.2 ⟨mR,cR.way⟩;obtain ⟨n1,n2,n3⟩:=zL (t.cyc_pos mS cS);obtain ⟨m1,m2,m3⟩:=zL (t.cyc_pos mR cR);rw [zw h1,zw h2];simp only [Xy,Yf,Yh];exact ⟨hk,by rw [(xw cS n1 n2 n3).1,(xw cR m1 m2 m3).2];exact hc⟩
theorem tP {W H:Int} (hW:W < 16777216) (hH:H < 16777216) {E:Es} {L:List Tri3} {Lw:List Wl} (g:Good E L) (t:Tiles W H L) (hg:∀ x∈Lw,GoodW x) {p q:Pt} (hb:badP E Lw p q=true):badP E Lw q p=true:=by
 have vb:∀ q,inBox W H q->vld q=true:=λq hq=>by rw [zZ];unfold inBox at hq;omega
 obtain ⟨S,mS,R,mR,c,d,cS,cR,hk,hc⟩:=(xI g t hg).1 hb;refine (xI g t hg).2 ⟨R,mR,S,mS,d,c,cR,cS,by rw [xn];exact hk,?_⟩;have p1:=t.cyc_pos mS cS;have p2:=t.cyc_pos mR cR;have va:=vb _ (t.cyc_box mS cS);have vb':=vb _ (t.cyc_box mS cS.turn);have vc:=vb _ (t.cyc_box mS cS.turn.turn);have vd:=vb _ (t.cyc_box mR cR.turn.turn);have o1:¬ ori p q d=0:=by
  rw [ori_v va vb' vd,y7];rw [zh] at p2;omega
 have o2:¬ ori p q c=0:=by rw [ori_v va vb' vc,y7];omega
 have dc:c≠d:=by
  rintro rfl;rw [zh] at p2;omega
 have k:=tM o2 o1 dc.symm;rw [jj,k,hc];rfl
theorem badC_of {W H:Int} {E:Es} {L:List Tri3} {Lw:List Wl} (g:Good E L) (t:Tiles W H L) (hg:∀ x∈Lw,GoodW x) {p q c d:Pt} {S R:Tri3} (mS:S∈L) (mR:R∈L) (cS:Cyc S p q c) (cR:Cyc R q p d) (hk:kindD Lw p q=0):badC E Lw p q=(c,d):=by
 have h1:=g.get.2 ⟨mS,cS.way⟩;have h2:=g.get.2 ⟨mR,cR.way⟩;obtain ⟨n1,n2,n3⟩:=zL (t.cyc_pos mS cS);obtain ⟨m1,m2,m3⟩:=zL (t.cyc_pos mR cR);unfold badC;rw [<-uD hg,zw h1,zw h2,Yn ⟨rfl,rfl,hk⟩,(xw cS n1 n2 n3).1,(xw cR m1 m2 m3).2]
theorem YT (h:Pt->Int) (p q c d:Pt):PH h d c p q = -PH h p q c d:=by
 unfold PH;generalize h p=x
 generalize h q=y
 generalize h c=z
 generalize h d=w
 unfold det;grind
def four (p q c d:Pt):List (Pt×Pt):=[(p,c),(c,q),(q,d),(d,p)]
theorem mend_step {W H:Int} (hW:W < 16777216) (hH:H < 16777216) {h:Pt->Int} (hh:Hts h) {E E':Es} {L L':List Tri3} {Lw:List Wl} (g:Good E L) (t:Tiles W H L) (hg:∀ x∈Lw,GoodW x) {p q:Pt} (hb:badP E Lw p q=true) {r:Int} (g':Good E' L') (hf:FlipC E L p q r L'):r=0/\Tiles W H L'/\Kept (wll Lw) L L'/\volS h L' < volS h L/\edgeL L p q/\dead h L' p q/\(∀ a b,dead h L a b->dead h L' a b)/\(∀ x y,badP E' Lw x y=true->(badP E Lw x y=true/\¬ (x=p/\y=q)/\¬ (x=q/\y=p))\/(x,y)∈four p q (badC E Lw p q).1 (badC E Lw p q).2\/(y,x)∈four p q (badC E Lw p q).1 (badC E Lw p q).2)/\(∀ e∈four p q (badC E Lw p q).1 (badC E Lw p q).2,okW e):=by
 have vb:∀ q,inBox W H q->vld q=true:=λq hq=>by rw [zZ];unfold inBox at hq;omega
 obtain ⟨S,mS,R,mR,c,d,cS,cR,hk,hc⟩:=(xI g t hg).1 hb;rw [badC_of g t hg mS mR cS cR hk];obtain ⟨hP,M,f⟩:=t.flip_bad (K:=wll Lw) hW hH hh mS mR cS cR ⟨λk=>k hk,λk=>k (by rw [xn];exact hk)⟩ hc;obtain ⟨fl,g2⟩:=f.go hW hH g t;have hs:=vP fl.h0 fl.h1;rw [fl.hC,fl.hD] at hs;have o1:0 < ori p d c:=by have:=fl.o1;simpa using this
 have o2:0 < ori d q c:=by have:=fl.o2;simpa using this
 rw [Yn ⟨o1,o2,fl.he,fl.hf⟩] at hs;obtain ⟨er,gd⟩:=flip_doc g (.refl _) g' hf;rw [hs] at er gd;have pm:=uu gd g2;have t2:=f.tiles t hW hH;have t':=t2.perm pm.symm;obtain ⟨⟨cU,_⟩,cV,_⟩:=f.news t hW hH;have dS:=t.cyc_pos mS cS;have dR:=t.cyc_pos mR cR;have mM:∀ T,T∈L->T≠S->T≠R->T∈mk c p d :: mk d q c :: M:=λT hT x y=>by
  have:=f.perm.mem_iff.1 hT;simp only [Yg] at this;rcases this with k | k | k
  ·exact absurd k x
  ·exact absurd k y
  ·simp [k]
 have hU:mk c p d∈mk c p d :: mk d q c :: M:=by simp
 have hV:mk d q c∈mk c p d :: mk d q c :: M:=by simp
 have noX:∀ {x y u v:Pt} {S' R':Tri3},(x=d/\y=c)\/(x=c/\y=d)->S'∈mk c p d :: mk d q c :: M->R'∈mk c p d :: mk d q c :: M->Cyc S' x y u->Cyc R' y x v->circ x y u v=1->kindD Lw x y=0->False:=by
  intro x y u v S' R' hxy hS' hR' cS' cR' hc' hk';obtain ⟨k1,_⟩:=t2.flip_bad (K:=wll Lw) hW hH hh hS' hR' cS' cR' ⟨λk=>k hk',λk=>k (by rw [xn];exact hk')⟩ hc';rcases hxy with ⟨rfl,rfl⟩ | ⟨rfl,rfl⟩
  ·have e1:=yq t2.once hS' hU cS'.way cU.turn.turn.way;have e2:=yq t2.once hR' hV cR'.way cV.turn.turn.way;subst e1 e2;have e3:=cU.turn.turn.same2 cS' (t2.cyc_pos hU cU.turn.turn);have e4:=cV.turn.turn.same2 cR' (t2.cyc_pos hV cV.turn.turn);rw [e3,e4,YT] at k1;omega
  ·have e1:=yq t2.once hS' hV cS'.way cV.turn.turn.way;have e2:=yq t2.once hR' hU cR'.way cU.turn.turn.way;subst e1 e2;have e3:=cV.turn.turn.same2 cS' (t2.cyc_pos hV cV.turn.turn);have e4:=cU.turn.turn.same2 cR' (t2.cyc_pos hU cU.turn.turn);rw [e3,e4,YS,YT] at k1;omega
 have nd:=(zi f.perm).nodup_iff.1 t.once;rw [Yj,Yj,XE] at nd;obtain ⟨_,nd2,nd1⟩:=nd;rw [XE] at nd2;have notM:∀ {T:Tri3},T∈M->(p,q) ∉ ways T/\(q,p) ∉ ways T:=λ{T} hT=>by
  constructor
  ·intro k;exact nd1 (p,q) cS.way (p,q) (XJ _ (Yw.2 ⟨T,hT,k⟩)) rfl
  ·intro k;exact nd2.2.2 (q,p) cR.way (q,p) (Yw.2 ⟨T,hT,k⟩) rfl
 refine ⟨er.symm,t',(f.kept t hW hH).trans (Kept.perm pm.symm),?_,.inl (yT mS cS.way),tE pm.symm (dead_new hU cU dS dR f.left f.right hP),λa b k=>tE pm.symm (dead_flip mM hU hV cS cR cU cV dS dR f.left f.right hP k),?_,?_⟩
 ·rw [uN pm];exact f.less t hW hH hP
 ·intro x y hxy;obtain ⟨S',mS',R',mR',u,v,cS',cR',hk',hc'⟩:=(xI g' t' hg).1 hxy;have mS2:=pm.mem_iff.1 mS';have mR2:=pm.mem_iff.1 mR';by_cases hin:(x,y)∈four p q c d\/(y,x)∈four p q c d
  ·exact .inr hin
  ·left
   have nin:¬ (x,y)∈four p q c d/\¬ (y,x)∈four p q c d:=QD.1 hin;have nx:¬ ((x=d/\y=c)\/(x=c/\y=d)):=λk=>noX k mS2 mR2 cS' cR' hc' hk';unfold four at nin;simp only [Yg,XS,Ym,XG,QD] at nin;rw [QD] at nx;obtain ⟨⟨a1,a2,a3,a4⟩,b1,b2,b3,b4⟩:=nin;have inM:∀ {T:Tri3} {x y:Pt},T∈mk c p d :: mk d q c :: M->(x,y)∈ways T->¬ (x=p/\y=c)->¬ (x=c/\y=q)->¬ (x=q/\y=d)->¬ (x=d/\y=p)->¬ (y=p/\x=c)->¬ (y=c/\x=q)->¬ (y=q/\x=d)->¬ (y=d/\x=p)->¬ (x=d/\y=c)->¬ (x=c/\y=d)->T∈M:=by
    intro T x y hT hw a1 a2 a3 a4 b1 b2 b3 b4 n1 n2;rcases Yg.1 hT with rfl | hT
    ·have:=cU.ways.mem_iff.1 hw;simp only [Yg,XS,Ym,XG] at this;rcases this with ⟨k1,k2⟩ | ⟨k1,k2⟩ | ⟨k1,k2⟩
     ·exact absurd ⟨k2,k1⟩ b1
     ·exact absurd ⟨k2,k1⟩ b4
     ·exact absurd ⟨k1,k2⟩ n1
    ·rcases Yg.1 hT with rfl | hT
     ·have:=cV.ways.mem_iff.1 hw;simp only [Yg,XS,Ym,XG] at this;rcases this with ⟨k1,k2⟩ | ⟨k1,k2⟩ | ⟨k1,k2⟩
      ·exact absurd ⟨k2,k1⟩ b3
      ·exact absurd ⟨k2,k1⟩ b2
      ·exact absurd ⟨k1,k2⟩ n2
     ·exact hT
   have hSM:=inM mS2 cS'.way a1 a2 a3 a4 b1 b2 b3 b4 nx.1 nx.2;have hRM:=inM mR2 cR'.way b1 b2 b3 b4 a1 a2 a3 a4 (λk=>nx.2 ⟨k.2,k.1⟩) (λk=>nx.1 ⟨k.2,k.1⟩);refine ⟨(xI g t hg).2 ⟨S',f.perm.mem_iff.2 (by simp [hSM]),R',f.perm.mem_iff.2 (by simp [hRM]),u,v,cS',cR',hk',hc'⟩,?_,?_⟩
   ·rintro ⟨rfl,rfl⟩;exact (notM hSM).1 cS'.way
   ·rintro ⟨rfl,rfl⟩;exact (notM hSM).2 cS'.way
 ·obtain ⟨bp,bq,bc,bd⟩:=f.pts t;have op:=yV (vb _ bp);have oq:=yV (vb _ bq);have oc:=yV (vb _ bc);have od:=yV (vb _ bd);intro e he;unfold four at he;simp only [Yg,Ym,XG] at he;rcases he with rfl | rfl | rfl | rfl
  ·exact ⟨op,oc⟩
  ·exact ⟨oc,oq⟩
  ·exact ⟨oq,od⟩
  ·exact ⟨od,op⟩
structure MSt (W H:Int) (h:Pt->Int) (Lw:List Wl) (L0:List Tri3) (n0:Nat) (E:Es) (L:List Tri3) (K:List (Pt×Pt)):Prop where
 good:Good E L
 tiles:Tiles W H L
 kept:Kept (wll Lw) L0 L
 ok:∀ e∈K,okW e
 cov:∀ x y,badP E Lw x y=true->(x,y)∈K\/(y,x)∈K
 gone:∃ F:List (Pt×Pt),F.Nodup/\(∀ e∈F,dead h L e.1 e.2/\someC L0 e.1/\someC L0 e.2)/\K.length<=n0+3 * F.length
theorem ZV {L:List Tri3} {p:Pt}:p∈cnrs L↔someC L p:=by
 unfold cnrs someC isCnr;rw [Yw];simp
theorem MSt.len {W H:Int} {h:Pt->Int} {Lw:List Wl} {L0:List Tri3} {n0:Nat} {E:Es} {L:List Tri3} {K:List (Pt×Pt)} (S:MSt W H h Lw L0 n0 E L K):K.length<=n0+27 * (L0.length * L0.length):=by
 obtain ⟨F,hd,hF,hl⟩:=S.gone;have k:=uk (l:=F) (m:=(cnrs L0).flatMap λa=>(cnrs L0).map λb=>(a,b)) hd (λe he=>by
  obtain ⟨_,h1,h2⟩:=hF e he;exact Yw.2 ⟨e.1,ZV.2 h1,Yz.2 ⟨e.2,ZV.2 h2,rfl⟩⟩)
 have e:∀ C D:List Pt,(C.flatMap λa=>D.map λb=>(a,b)).length=C.length * D.length:=λC D=>by
  induction C with
  | nil=>simp
  | cons a C ih=>rw [Yj,Yi,ih,JC,XO,Nat.succ_mul];omega
 rw [e,ZW] at k;have e2:3 * L0.length * (3 * L0.length)=9 * (L0.length * L0.length):=by
  rw [Nat.mul_mul_mul_comm]
 omega
theorem MSt.pop {W H:Int} {h:Pt->Int} {Lw:List Wl} {L0:List Tri3} {n0:Nat} {E:Es} {L:List Tri3} {K:List (Pt×Pt)} {e:Pt×Pt} (hW:W < 16777216) (hH:H < 16777216) (hg:∀ x∈Lw,GoodW x) (S:MSt W H h Lw L0 n0 E L (K ++ [e])) (hb:badP E Lw e.1 e.2=false):MSt W H h Lw L0 n0 E L K:=by
 refine ⟨S.good,S.tiles,S.kept,λx hx=>S.ok x (XP _ hx),λx y hxy=>?_,?_⟩
 ·have ne1:(x,y)≠e:=λk=>by rw [<-k] at hb;simp only at hb;rw [hxy] at hb;cases hb
  have ne2:(y,x)≠e:=λk=>by
   have:=tP hW hH S.good S.tiles hg hxy;rw [<-k] at hb;simp only at hb;rw [this] at hb;cases hb
  rcases S.cov x y hxy with k | k
  ·rcases Ys.1 k with k | k
   ·exact .inl k
   ·exact absurd (Ka.1 k) ne1
  ·rcases Ys.1 k with k | k
   ·exact .inr k
   ·exact absurd (Ka.1 k) ne2
 ·obtain ⟨F,hd,hF,hl⟩:=S.gone;exact ⟨F,hd,hF,by simp at hl;omega⟩
theorem MSt.flip {W H:Int} {h:Pt->Int} (hh:Hts h) {Lw:List Wl} {L0:List Tri3} {n0:Nat} {E E':Es} {L L':List Tri3} {K:List (Pt×Pt)} {p q:Pt} {r:Int} (hW:W < 16777216) (hH:H < 16777216) (hg:∀ x∈Lw,GoodW x) (S:MSt W H h Lw L0 n0 E L (K ++ [(p,q)])) (hb:badP E Lw p q=true) (g':Good E' L') (hf:FlipC E L p q r L'):r=0/\volS h L' < volS h L/\MSt W H h Lw L0 n0 E' L' (K ++ four p q (badC E Lw p q).1 (badC E Lw p q).2):=by
 obtain ⟨h1,h2,h3,h4,h5,h6,h7,h8,h9⟩:=mend_step hW hH hh S.good S.tiles hg hb g' hf;refine ⟨h1,h4,g',h2,S.kept.trans h3,λx hx=>?_,λx y hxy=>?_,?_⟩
 ·rcases Ys.1 hx with k | k
  ·exact S.ok x (XP _ k)
  ·exact h9 x k
 ·rcases h8 x y hxy with ⟨k1,k2,k3⟩ | k
  ·rcases S.cov x y k1 with k | k
   ·rcases Ys.1 k with k | k
    ·exact .inl (XP _ k)
    ·have:=Ka.1 k;simp only [XS] at this;exact absurd this k2
   ·rcases Ys.1 k with k | k
    ·exact .inr (XP _ k)
    ·have:=Ka.1 k;simp only [XS] at this;exact absurd ⟨this.2,this.1⟩ k3
  ·exact k.imp (XJ _) (XJ _)
 ·obtain ⟨F,hd,hF,hl⟩:=S.gone;obtain ⟨_,⟨c1,c2⟩,_⟩:=S.tiles.edge_box h5;refine ⟨(p,q) :: F,Xn.2 ⟨λk=>S.tiles.not_dead h5 (hF _ k).1,hd⟩,λe he=>?_,?_⟩
  ·rcases Yg.1 he with rfl | he
   ·exact ⟨h6,(S.kept.cnr _).1 c1,(S.kept.cnr _).1 c2⟩
   ·obtain ⟨k1,k2⟩:=hF e he;exact ⟨h7 _ _ k1,k2⟩
  ·unfold four;simp at hl ⊢;omega
theorem MSt.fixed {W H:Int} {h:Pt->Int} {Lw:List Wl} {L0:List Tri3} {n0:Nat} {E:Es} {L:List Tri3} (hg:∀ x∈Lw,GoodW x) (S:MSt W H h Lw L0 n0 E L []):Fixed W H (wll Lw) L:=by
 refine ⟨S.tiles,λT hT R hR a b c d cT cR hk hc=>?_⟩;have hb:=(xI S.good S.tiles hg).2 ⟨T,hT,R,hR,c,d,cT,cR,Xj λk=>hk k,hc⟩;rcases S.cov a b hb with k | k <;> cases k
theorem cmp_neg_of {a b:Pt} (h:a≠b) (k:¬ 0 < cmpP a b):cmpP a b < 0:=by
 have:cmpP a b≠0:=λe=>h (zc.1 e);omega
theorem mkW_of {a b:Pt} {k:Int} (hk:k=1\/k=2) (h:cmpP a b < 0) (va:vld a=true) (vb:vld b=true):mkW a b k=⟨a,b,k⟩:=by
 have hn:a≠b:=λe=>by rw [e,zc.2 rfl] at h;omega
 have h2:¬ cmpP b a < 0:=by have:=zv a b;omega
 have hm:mkOk a b k=true:=by
  unfold mkOk mkK;rcases hk with rfl | rfl <;> simp [hn,va,vb]
 unfold mkW lo2 hi2;rw [Yn hm,Ye h2,Ye h2]
theorem crn_way {T:Tri3} {i:Nat} (hi:i < 3):(crn T i,crn T (i+1))∈ways T:=by
 have:i=0\/i=1\/i=2:=by omega
 unfold ways;rcases this with rfl | rfl | rfl
 ·exact Yy
 ·exact X6 _ Yy
 ·exact X6 _ (X6 _ Yy)
theorem way_crn {T:Tri3} {a b:Pt} (h:(a,b)∈ways T):∃ i,i < 3/\crn T (i:Nat)=a/\crn T ((i:Int)+1)=b:=by
 unfold ways at h;simp only [Yg,XS,Ym,XG] at h;rcases h with ⟨rfl,rfl⟩ | ⟨rfl,rfl⟩ | ⟨rfl,rfl⟩
 ·exact ⟨0,by omega,rfl,rfl⟩
 ·exact ⟨1,by omega,rfl,rfl⟩
 ·exact ⟨2,by omega,rfl,rfl⟩
section
variable {W H:Int} {E:Es} {L:List Tri3} {Lw:List Wl} (hW:W < 16777216) (hH:H < 16777216) (g:Good E L) (t:Tiles W H L) (hg:∀ x∈Lw,GoodW x)
include hW hH g t hg
theorem up_mem {T:Tri3} (hT:T∈L) {x:Wl} (hx:x∈upL E Lw T 3):∃ i,i < 3/\x=⟨crn T (i:Nat),crn T ((i:Int)+1),1⟩/\cmpP x.A x.B < 0/\badP E Lw x.A x.B=true/\(x.A,x.B)∈ways T:=by
 have vb:∀ q,inBox W H q->vld q=true:=λq hq=>by rw [zZ];unfold inBox at hq;omega
 unfold upL at hx;obtain ⟨i,hi,rfl⟩:=Yz.1 hx;obtain ⟨hr,hf⟩:=XR.1 hi;have hi3:=XT.1 hr;unfold upF at hf;simp only [Yf,Kg,KI] at hf;have hw:=crn_way (T:=T) hi3;obtain ⟨⟨b1,b2⟩,_,hn⟩:=t.edge_box (.inl (yT hT hw));have hlt:=cmp_neg_of hn hf.1;have e:upW T i=⟨crn T (i:Nat),crn T ((i:Int)+1),1⟩:=mkW_of (.inl rfl) hlt (vb _ b1) (vb _ b2);rw [e];exact ⟨i,hi3,rfl,hlt,hf.2,hw⟩
theorem Zd {T:Tri3}:T∈bigT E Lw↔T∈L/\0 < (upL E Lw T 3).length:=by
 unfold bigT;rw [(zd _).mem_iff,(kS g _).mem_iff,XR,Yh]
theorem Yd {x:Wl}:x∈FB E Lw↔x.K=1/\cmpP x.A x.B < 0/\badP E Lw x.A x.B=true:=by
 have vb:∀ q,inBox W H q->vld q=true:=λq hq=>by rw [zZ];unfold inBox at hq;omega
 unfold FB;rw [(zd _).mem_iff,Yw];constructor
 ·rintro ⟨T,hT,hx⟩;obtain ⟨i,_,e,h1,h2,_⟩:=up_mem hW hH g t hg ((Zd hW hH g t hg).1 hT).1 hx;exact ⟨by rw [e],h1,h2⟩
 ·rintro ⟨hk,hc,hb⟩;obtain ⟨S,mS,R,mR,c,d,cS,cR,_⟩:=(xI g t hg).1 hb;obtain ⟨i,hi,e1,e2⟩:=way_crn cS.way;have hu:upF E Lw S i=true:=by
   unfold upF;rw [e1,e2,hb];simp;omega
  have hx:x∈upL E Lw S 3:=by
   unfold upL;refine Yz.2 ⟨i,XR.2 ⟨XT.2 hi,hu⟩,?_⟩;show mkW (crn S (i:Nat)) (crn S ((i:Int)+1)) 1=x;rw [e1,e2,mkW_of (.inl rfl) hc (vb _ (t.cyc_box mS cS)) (vb _ (t.cyc_box mS cS.turn)),<-hk]
  exact ⟨S,(Zd hW hH g t hg).2 ⟨mS,JR.2 (List.ne_nil_of_mem hx)⟩,hx⟩
theorem FB_cov {x y:Pt} (hb:badP E Lw x y=true):(x,y)∈(FB E Lw).map (λw=>(w.A,w.B))\/(y,x)∈(FB E Lw).map (λw=>(w.A,w.B)):=by
 obtain ⟨S,mS,R,mR,c,d,cS,cR,_⟩:=(xI g t hg).1 hb;have hn:=(zL (t.cyc_pos mS cS)).1;by_cases hc:cmpP x y < 0
 ·exact .inl (Yz.2 ⟨⟨x,y,1⟩,(Yd hW hH g t hg).2 ⟨rfl,hc,hb⟩,rfl⟩)
 ·have h0:cmpP x y≠0:=λe=>hn (zc.1 e);have h1:=zv x y;exact .inr (Yz.2 ⟨⟨y,x,1⟩,(Yd hW hH g t hg).2 ⟨rfl,by show cmpP y x < 0;omega,tP hW hH g t hg hb⟩,rfl⟩)
theorem FB_okW:∀ e∈(FB E Lw).map (λw=>(w.A,w.B)),okW e:=by
 have vb:∀ q,inBox W H q->vld q=true:=λq hq=>by rw [zZ];unfold inBox at hq;omega
 intro e he;obtain ⟨x,hx,rfl⟩:=Yz.1 he;obtain ⟨S,mS,R,mR,c,d,cS,cR,_⟩:=(xI g t hg).1 ((Yd hW hH g t hg).1 hx).2.2;exact ⟨yV (vb _ (t.cyc_box mS cS)),yV (vb _ (t.cyc_box mS cS.turn))⟩
end
theorem FB_le (E:Es) (Lw:List Wl):(FB E Lw).length<=3 * E.length:=by
 unfold FB;rw [(zd _).length_eq];refine XD (uz E Lw _) ?_;unfold bigT;rw [(zd _).length_eq];have:=yo (λT=>decide (0 < (upL E Lw T 3).length)) E;omega
theorem vJ {x y z:Wl} (h:cmpW x y<=0) (k:cmpW y z<=0):cmpW x z<=0:=by
 by_cases e:cmpW x y=0
 ·rw [wholeW.eq0.1 e];exact k
 ·by_cases f:cmpW y z=0
  ·rw [<-wholeW.eq0.1 f];exact h
  ·have:=wholeW.trans (x:=x) (y:=y) (z:=z) (by omega) (by omega);omega
theorem put_order {L:List Wl} {X:Wl} {k:Nat} (h:InOrder cmpW L) (p:PutAt L X k):InOrder cmpW (L.take k ++ X :: L.drop k):=by
 obtain ⟨p0,p1,p2⟩:=p;have h':=h;unfold InOrder at h ⊢;rw [<-X9 k L,KL] at h;have lo:∀ x∈L.take k,cmpW x X<=0:=λx hx=>by
  obtain ⟨i,hi,rfl⟩:=Xz.1 hx;rw [X4] at hi;rw [Jc];have hk:k - 1 < L.length:=by omega
  have h1:cmpW L[k - 1] X<=0:=by have:=p2 hk (by omega);omega
  rcases KF i (k - 1) with h3 | h3
  ·exact vJ (Xk.1 h' i (k - 1) (by omega) hk h3) h1
  ·have e:i=k - 1:=by omega
   subst e;exact h1
 have hi:∀ x∈L.drop k,cmpW X x<=0:=λx hx=>by
  obtain ⟨i,hi,rfl⟩:=Xz.1 hx;rw [X7] at hi;rw [Jd];have h1:=p1 (k+i) (by omega) (by omega);have h2:=wholeW.neg L[k+i] X;omega
 refine KL.2 ⟨h.1,Xt.2 ⟨hi,h.2.1⟩,λx hx y hy=>?_⟩;rcases Yg.1 hy with rfl | hy
 ·exact lo x hx
 ·exact h.2.2 x hx y hy
section
variable {W H:Int} {E:Es} {L:List Tri3} (hW:W < 16777216) (hH:H < 16777216) (g:Good E L) (t:Tiles W H L) {p:Pt}
include hW hH g t
theorem grow_good (hW0:0 < W) (hH0:0 < H) (hp:inBox W H p) (hn:¬ someC L p):(∀ T∈atE E p,valT T=true)/\(∀ T∈atE E p,∀ U∈cutS p T,valT U=true)/\(atE E p).length<=2/\(takeRun E (atE E p)).1=(atE E p).length/\(putRun (takeRun E (atE E p)).2 ((atE E p).flatMap (cutS p))).1=((atE E p).flatMap (cutS p)).length/\∃ L',Good (addPE E p) L'/\Good (putRun (takeRun E (atE E p)).2 ((atE E p).flatMap (cutS p))).2 L'/\Tiles W H L'/\(∀ q,someC L' q↔someC L q\/q=p)/\(L'.length=L.length+2/\¬ atRim W H p\/L'.length=L.length+1/\atRim W H p):=by
 obtain ⟨h1,h2⟩:=tQ hW hH g hp;have hn':∀ T∈L,¬ isCnr T p:=λT hT hc=>hn ⟨T,hT,hc⟩;obtain ⟨F,hF,f1,f2⟩:=t.spots hW0 hH0 hp hn' h2;have fa:=h1.trans f1;have hv:∀ T∈atE E p,valT T=true:=λT hT=>g.val T (XR.1 (h1.mem_iff.1 hT)).1;have hcut:∀ T∈atE E p,(cutS p T).Perm (cutP p T):=by
  intro T hT;have hm:=XR.1 (h1.mem_iff.1 hT);have hc:=hn' T hm.1;have:cutOk T p=true:=by
   unfold cutOk isCnr at *;simp only [QD] at hc;rw [hm.2,y9.2 hc.1,y9.2 hc.2.1,y9.2 hc.2.2];rfl
  unfold cutS cutR;rw [Yn this];exact zd _
 obtain ⟨t',tv⟩:=uQ t hW0 hH0 hW hH hp hn' hF f2;obtain ⟨c1,c2⟩:=cut_counts t hW hH hp hF;have pI:((atE E p).flatMap (cutS p)).Perm (F.flatMap (cutP p)):=(jJ hcut).trans (fa.flatMap_right _);have lenF:F.length<=2:=by cases hF <;> simp
 have kt:=Good.takes (F:=atE E p) (E:=E) (M:=L.filter λx => !hasP x p) (g.order (f2.trans (fa.symm.append_right _)));have kp:=Good.puts (I:=(atE E p).flatMap (cutS p)) kt.2 (λU hU=>(tv U (pI.mem_iff.1 hU)).1) ((zi (pI.append_right _)).nodup_iff.2 t'.once);refine ⟨hv,λT hT U hU=>(tv U (pI.mem_iff.1 (Yw.2 ⟨T,hT,hU⟩))).1,by rw [fa.length_eq];exact lenF,kt.1,kp.1,(atE E p).flatMap (cutS p) ++ L.filter (λx => !hasP x p),?_,kp.2,?_,?_,?_⟩
 ·unfold addPE;rw [ja];have k:=Good.takesF (F:=atE E p) (E:=E) (M:=L.filter λx => !hasP x p) (g.order (f2.trans (fa.symm.append_right _)));refine Good.putsF k (λU hU=>(tv U (pI.mem_iff.1 hU)).1) ?_;exact (zi (pI.append_right _)).nodup_iff.2 t'.once
 ·exact t'.perm (pI.symm.append_right _)
 ·intro q;rw [kE,qG pI,c1,qG f2,kE];constructor
  ·rintro ((k | k) | k)
   ·exact .inl (.inl k)
   ·exact .inr k
   ·exact .inl (.inr k)
  ·rintro ((k | k) | k)
   ·exact .inl (.inl k)
   ·exact .inr k
   ·exact .inl (.inr k)
 ·have e1:L.length=F.length+(L.filter λx => !hasP x p).length:=by rw [f2.length_eq,Yi]
  rw [Yi,pI.length_eq];rcases c2 with ⟨k1,k2⟩ | ⟨k1,k2⟩
  ·exact .inl ⟨by omega,k2⟩
  ·exact .inr ⟨by omega,k2⟩
end
theorem put_ex {L:List Wl} (h:InOrder cmpW L) (X:Wl):∃ k,PutAt L X k:=by
 obtain ⟨h1,h2,_⟩:=yj (L:=L) (q:=λx=>decide (cmpW x X<=0)) (h.imp λ{x y} hxy hy=>by
  simp only [Yh] at hy ⊢;exact vJ hxy hy)
 refine ⟨_,h2,λj hj hk=>?_,λhk h0=>?_⟩
 ·have h3:=h1 j hj;simp only [Yh] at h3;by_cases hc:0 < cmpW L[j] X
  ·exact hc
  ·have:=h3.1 (by omega);omega
 ·have h3:=(h1 _ hk).2 (by omega);simp only [Yh] at h3;omega
theorem halve_eq {W H:Int} (hW0:0 < W) (hH0:0 < H) (hW:W < 16777216) (hH:H < 16777216) {E:Es} {L L1:List Tri3} {D:List Wl} {p:Pt} (g:Good E L) (t:Tiles W H L) (hI:WInv L D) (hp:inBox W H p) (hn:¬ someC L p) (g1:Good (addPE E p) L1) (t1:Tiles W H L1) {X:Wl} (hX:D.find? (onD p)=some X):addE (remL D (lo2 X.A X.B) (hi2 X.A X.B)) ⟨X.A,p,X.K⟩=0/\addE (addL (remL D (lo2 X.A X.B) (hi2 X.A X.B)) ⟨X.A,p,X.K⟩) ⟨p,X.B,X.K⟩=0/\∀ D',D'=addL (addL (remL D (lo2 X.A X.B) (hi2 X.A X.B)) ⟨X.A,p,X.K⟩) ⟨p,X.B,X.K⟩->Ris D'->WInv L1 D'/\AddD D p D'/\D'.length=D.length+1:=by
 have hm:=XV hX;obtain ⟨i,hi,rfl⟩:=Xz.1 hm;have hg:=hI.good _ hm;generalize hY:D[i]=X at *
 have hrem:RemAt D (rl X.A X.B) (rg X.A X.B) 0 (D.take i ++ D.drop (i+1)):=.inr ⟨rfl,i,hi,by rw [hY,(Zl X.A X.B).1,(Zl X.A X.B).2,(ky hg).1,(ky hg).2];exact yw.2 ⟨rfl,rfl⟩,rfl⟩;rw [<-(rem_at hI.ris hI.apart hI.good hrem).2];have o1:InOrder cmpW (D.take i ++ D.drop (i+1)):=(Zy hI.ris je).imp λ{a b} h=>by omega
 have hl:(D.take i ++ D.drop (i+1)).length+1=D.length:=by simp;omega
 generalize D.take i ++ D.drop (i+1)=D1 at *
 obtain ⟨k1,p1⟩:=put_ex o1 ⟨X.A,p,X.K⟩;obtain ⟨k2,p2⟩:=put_ex (put_order o1 p1) ⟨p,X.B,X.K⟩;have hA:AddD D p (insW (insW D1 ⟨X.A,p,X.K⟩ k1) ⟨p,X.B,X.K⟩ k2):=.inr ⟨X,0,D1,k1,k2,hX,hrem,p1,p2,rfl⟩;have w1:=tb hW0 hH0 hW hH g t hI hp hn hA g1 t1;have pm:(insW (insW D1 ⟨X.A,p,X.K⟩ k1) ⟨p,X.B,X.K⟩ k2).Perm (⟨p,X.B,X.K⟩ :: ⟨X.A,p,X.K⟩ :: D1):=(xX _ _ _).trans ((xX _ _ _).cons _);have ap:=qZ pm w1.apart;have gd:∀ x∈(⟨p,X.B,X.K⟩ :: ⟨X.A,p,X.K⟩ :: D1:List Wl),GoodW x:=λx hx=>w1.good x (pm.mem_iff.2 hx);have a1:=Zf ap gd (i:=1) (by simp) (T:=D1) (Q5 _);have a2:=Zf ap gd (i:=0) (by simp) (T:=addL D1 ⟨X.A,p,X.K⟩) a1.2;refine ⟨a1.1,a2.1,λD' hD hr=>?_⟩;subst hD;have pq:=a2.2.trans pm.symm;have e:=qo wholeW hr w1.ris λx=>pq.mem_iff;have hlen:=a2.2.length_eq;refine ⟨e▸w1,e▸hA,?_⟩;rw [show (addL (addL D1 ⟨X.A,p,X.K⟩) ⟨p,X.B,X.K⟩).length=D1.length+2 by simpa using hlen];omega
theorem gcrn_0 (T:Tri3) (p:Pt) (h0:peqI T.A.x T.A.y p.x p.y=true) (w:World):Calls prog 41 #[T,p] w (Rt w (.bool true)):=by
 go_enter func41,ntmps41
 go_wp2
 go_ret
 exact ⟨rfl,by go_grown⟩
theorem gcrn_1 (T:Tri3) (p:Pt) (h0:peqI T.A.x T.A.y p.x p.y=false) (h1:peqI T.B.x T.B.y p.x p.y=true) (w:World):Calls prog 41 #[T,p] w (Rt w (.bool true)):=by
 go_enter func41,ntmps41
 go_wp2
 go_ret
 exact ⟨rfl,by go_grown⟩
theorem gcrn_2 (T:Tri3) (p:Pt) (h0:peqI T.A.x T.A.y p.x p.y=false) (h1:peqI T.B.x T.B.y p.x p.y=false) (h2:peqI T.C.x T.C.y p.x p.y=true) (w:World):Calls prog 41 #[T,p] w (Rt w (.bool true)):=by
 go_enter func41,ntmps41
 go_wp2
 go_ret
 exact ⟨rfl,by go_grown⟩
theorem gcrn_3 (T:Tri3) (p:Pt) (h0:peqI T.A.x T.A.y p.x p.y=false) (h1:peqI T.B.x T.B.y p.x p.y=false) (h2:peqI T.C.x T.C.y p.x p.y=false) (w:World):Calls prog 41 #[T,p] w (Rt w (.bool false)):=by
 go_enter func41,ntmps41
 go_wp2
 go_ret
 exact ⟨rfl,by go_grown⟩
theorem jV (T:Tri3) (p:Pt) (w:World):Calls prog 41 #[T,p] w (Rt w (.bool (isCb p T))):=by
 have e:isCb p T=(peqI T.A.x T.A.y p.x p.y || (peqI T.B.x T.B.y p.x p.y || peqI T.C.x T.C.y p.x p.y)):=by
  unfold isCb;rw [ze,ze,ze];have f:∀ q:Pt,decide (p=q)=decide (q=p):=λq=>by simp [eq_comm]
  rw [f,f,f]
 rw [e];cases h0:peqI T.A.x T.A.y p.x p.y with
 | true=>exact gcrn_0 T p h0 w
 | false=>
  cases h1:peqI T.B.x T.B.y p.x p.y with
  | true=>exact gcrn_1 T p h0 h1 w
  | false=>
   cases h2:peqI T.C.x T.C.y p.x p.y with
   | true=>exact gcrn_2 T p h0 h1 h2 w
   | false=>exact gcrn_3 T p h0 h1 h2 w
theorem ZJ (T:Tri3) (p:Pt) (h0:hasP T p=true) (h1:isCb p T=false) (hne:0 < (cutP p T).length) (w:World):Calls prog 15 #[T,p] w λe w'=>∃ g cap,e=.returned (.slice (some ⟨g,0,none⟩) (srt cmpT (cutP p T)).length cap)/\RowAt cT 6 w' (some ⟨g,0,none⟩) (srt cmpT (cutP p T))/\w.heap.size<=g/\Below w w w':=by
 have cH:=ut T p;rw [Zq,h0] at cH;have cC:=jV T p;rw [h1] at cC;have HNE:=hdd hne;clear h0 h1 hne
 go_enter func15,ntmps15
 go_wp2_with fail;refine qE2 λW1 Bt Ba hw=>?_;refine (cH _).mono ?_;rintro e w2 ⟨rfl,hb⟩;obtain ⟨Bt,Ba,hw,-⟩:=qX2 Bt Ba hw hb;clear hb cH;have G0:=J2 Bt.f Ba.f;go_wp2_with fail;refine (cC _).mono ?_;rintro e w3 ⟨rfl,hb⟩;clear G0;obtain ⟨Bt,Ba,hw,-⟩:=qX2 Bt Ba hw hb;clear hb cC;go_wp2_with fail
 go_loopw [5,20] (λvl vi wr=>∃ k:Nat,vi=.int .i64 k/\k<=3/\wr.ownsRow (w.heap.size+2) 28 6 vl (cutK p T k).length ((cutK p T k).flatMap cT)/\Box wr w [T.A.x,T.A.y,T.B.x,T.B.y,T.C.x,T.C.y] 28/\Box wr (w+1) [p.x,p.y] 26/\Below w w wr) (λ_ vi _=>3 - (intOf vi).toNat)
 case atStart=>exact ⟨0,rfl,by omega,World.ownsRow_nil _ _ _ _,Bt,Ba,hw⟩
 case round=>
  clear Bt Ba hw;obtain ⟨k,rfl,hk,hown,Bt,Ba,hw⟩:=hrel;by_cases hlt:k < 3
  case neg=>
   obtain rfl:k=3:=by omega
   rw [cutK3] at hown;have hin:¬ ((3:Nat):Int) < 3:=by decide
   clear hlt hk;have h2:=hown.2;rcases h2 with ⟨_,h0⟩ | ⟨g,cap,cur,rfl,hB,hb9,k1,k2,k3,k4⟩
   ·have:=HNE.o;omega
   have cs:=jE (w.heap.size+2) _ (cutP p T) (by have:=uI p T;omega) wr hown;clear hb9 k1 k2 k3 k4;go_wp2_with fail;refine cs.mono ?_;rintro e w5 ⟨rfl,hg,a,cap2,he,hr⟩;simp only [Value.slice.injEq] at he;obtain ⟨rfl,_,rfl⟩:=he;have hl9:(srt cmpT (cutP p T)).length=(cutP p T).length:=(zd _).length_eq;have hw5:=hw.grown hg hw.size (λq hq=>by simp [Value.ownBlock] at hq;omega);go_wp2
   go_ret
   exact ⟨g,cap,by rw [hl9];rfl,hr,by omega,hw5⟩
  case pos=>
   have HLT:=hdd hlt;have hq0:(k:Int) < 3:=by omega
   have cE:=uH T (k:Int);have cM:=jD (crn T (k:Int)) (crn T ((k:Int)+1)) p;have HST:=hdd (show cutK p T (k+1)=cutK p T k ++ part p (crn T (k:Int)) (crn T ((k:Int)+1)) from rfl);have HLE:=hdd (ZS p T k);obtain ⟨dd,hd⟩:∃ d,decide (ori (crn T (k:Int)) (crn T ((k:Int)+1)) p=0)=d:=⟨_,rfl⟩;rw [hd] at cM;have HDD:=hdd hd;clear hd;generalize crn T (k:Int)=u at *
   generalize crn T ((k:Int)+1)=v at *
   obtain ⟨L1,hL1⟩:∃ L1,cutK p T (k+1)=L1:=⟨_,rfl⟩;have HL1:=hdd hL1;rw [hL1] at HST;clear hL1;generalize cutK p T k=L0 at *
   have G0:=J2 Bt.f Ba.f;go_wp2_with fail;refine (cE _).mono ?_;rintro e w4 ⟨rfl,hb⟩;clear G0;replace Bt:=Bt.ee hb;replace Ba:=Ba.ee hb;replace hown:=kK hown hb;replace hw:=upB hw hb;clear hb cE;have G0:=J2 Bt.f Ba.f;go_wp2_with fail;refine zG λW5 hW=>?_;have hl0:=hw.size;have lt:=Bt.lt;have la:=Ba.lt;replace Bt:Box W5 w [T.A.x,T.A.y,T.B.x,T.B.y,T.C.x,T.C.y] 28:=by rw [hW];exact (Bt.old _).old _
   replace Ba:Box W5 (w+1) [p.x,p.y] 26:=by rw [hW];exact (Ba.old _).old _
   have hb:Below w4 w4 W5:=by rw [hW];go_grown
   replace hown:=kK hown hb;replace hw:=upB hw hb;clear hW hb G0;refine (cM _).mono ?_;rintro e w6 ⟨rfl,hb⟩;replace Bt:=Bt.ee hb;replace Ba:=Ba.ee hb;replace hown:=kK hown hb;replace hw:=upB hw hb;clear hb cM;generalize eM:mk u v p=X at *
   have HX:=hdd eM;clear eM;have G0:=J2 Bt.f Ba.f
   go_upto_region 9 with (fail)
   refine z7 λW7 hW=>?_;obtain ⟨bz,hbz⟩:∃ b,w6.heap.size=b:=⟨_,rfl⟩;rw [hbz];have lt6:=Bt.lt;rw [hbz] at lt6;have la6:=Ba.lt;rw [hbz] at la6;have hl6:=hw.size;rw [hbz] at hl6;have Bz:Box W7 bz [X.A.x,X.A.y,X.B.x,X.B.y,X.C.x,X.C.y] 28:=by rw [hW];exact Box.new hbz.symm
   replace Bt:Box W7 w [T.A.x,T.A.y,T.B.x,T.B.y,T.C.x,T.C.y] 28:=by rw [hW];exact Bt.old _
   replace Ba:Box W7 (w+1) [p.x,p.y] 26:=by rw [hW];exact Ba.old _
   have hb:Below w6 w6 W7:=by rw [hW];go_grown
   replace hown:=kK hown hb;replace hw:=upB hw hb;clear hW hb G0 hbz;have G0:=J2 Bt.f Ba.f;cases dd with
   | true=>
    have HL:=hdd (show L1=L0 by rw [HST.o];unfold part;rw [Yn (Jb HDD.o)];simp);clear HST;go_wp2
    go_roundw
    case rel=>exact ⟨k+1,by go_num,HLT.o,by rw [HL1.o,HL.o];exact hown,Bt,Ba,hw⟩
    case measure=>have h9:=HLT.o;simp [intOf];omega
   | false=>
    have HL:=hdd (show L1=L0 ++ [X] by rw [HST.o];unfold part;rw [Ye (of_decide_eq_false HDD.o),HX.o]);clear HST;have Fz:=Bz.f;have HB:=hdd hw.size;have HA:=hdd Ba.lt;go_wp2_with (at_builtin;refine yR rfl _ _ rfl (w.heap.size+2) _ L0 rfl (hown.alloc _) (W7.heap.size) X rfl (Box.new (by simp)) (by have:=HLE.o;omega) (by have:=HB.o;have:=HA.o;simp;omega) ?_;intro w8 v8 hown8 hg8)
    have hlt:=λq hq=>((hown.alloc (.cells (cT X).toArray 28)).lt q hq).1;have Bt4:=(Bt.old (.cells (cT X).toArray 28)).grown2 hg8 (λq hq=>by have:=hlt q hq;omega);have Ba4:=(Ba.old (.cells (cT X).toArray 28)).grown2 hg8 (λq hq=>by have:=hlt q hq;omega);have hw4:=(hw.alloc hw.size (.cells (cT X).toArray 28)).grown hg8 (by have:=hw.size;simp;omega) (λq hq=>by have:=hlt q hq;omega)
    go_roundw
    case rel=>exact ⟨k+1,by go_num,HLT.o,by rw [HL1.o,HL.o];exact hown8,Bt4,Ba4,hw4⟩
    case measure=>have h9:=HLT.o;simp [intOf];omega
theorem remL_le (L:List Wl) (p q:Pt):(remL L p q).length<=L.length:=by
 unfold remL;split
 ·simp;omega
 ·exact Yq _
theorem addL_le (L:List Wl) (X:Wl):(addL L X).length<=L.length+1:=by
 unfold addL;split
 ·simp;omega
 ·omega
def halfL (D:List Wl) (p:Pt):List Wl:=match D.find? (onD p) with
 | some X=>addL (addL (remL D (lo2 X.A X.B) (hi2 X.A X.B)) ⟨X.A,p,X.K⟩) ⟨p,X.B,X.K⟩
 | none=>D
theorem YK {w:World} {sb:Nat} {v:Value} {L:List Wl} (S:SetAt w sb v L) {k:Nat} (hk:w.heap.size<=k):¬ Foot sb v k:=λh=>by
 rcases h with h | h
 ·have:=S.box.lt;omega
 ·have:=(S.row.lt k h).2;omega
theorem jZ {w:World} {sb:Nat} {v v':Value} {n:Nat} (hf:Fresh v v' n) (hn:w.heap.size<=n):∀ k,Foot sb v' k->k < w.heap.size->Foot sb v k:=λk h hk=>by
 rcases h with h | h
 ·exact .inl h
 ·rcases hf k h with h2 | h2
  ·exact .inr h2
  ·omega
theorem ghalve_none (sb:Nat) (v:Value) (D:List Wl) (p:Pt) (hX:D.find? (onD p)=none) (w:World) (S:SetAt w sb v D):Calls prog 43 #[pt0 sb,p] w (Rt w (.tuple #[])):=by
 obtain ⟨a0,c0,_,R⟩:=S.rd;have cO:=λW S=>vF sb a0 c0 D.length D p W S;rw [<-Y0 R.ris R.good p,hX] at cO;unfold onV at cO;dsimp only at cO;have HR:=hdd R;clear R S hX
 go_enter func43,ntmps43
 go_wp2_with fail;refine zG λW1 hW=>?_;have hw:Below w w W1:=by rw [hW];go_grown
 clear hW;refine (cO _ (HR.o.ee hw)).mono ?_;rintro e w2 ⟨rfl,hb⟩;replace hw:=upB hw hb;clear hb cO;have hl:=hw.size;go_wp2;refine bodyPost_ret (v:=.tuple #[]) (by simp [results,results43,go_sem]) rfl ?_;exact ⟨rfl,by go_grown⟩
theorem ghalve_some (sb:Nat) (v:Value) (D:List Wl) (p:Pt) (X:Wl) (hX:D.find? (onD p)=some X) (hD:D.length<=900000) (e1:addE (remL D (lo2 X.A X.B) (hi2 X.A X.B)) ⟨X.A,p,X.K⟩=0) (e2:addE (addL (remL D (lo2 X.A X.B) (hi2 X.A X.B)) ⟨X.A,p,X.K⟩) ⟨p,X.B,X.K⟩=0) (w:World) (S:SetAt w sb v D):Calls prog 43 #[pt0 sb,p] w λe w'=>∃ v',e=.returned (.tuple #[])/\SetAt w' sb v' (halfL D p)/\Frm w w' (Foot sb v)/\Fresh v v' w.heap.size:=by
 obtain ⟨a0,c0,_,R⟩:=S.rd;have cO:=λW S=>vF sb a0 c0 D.length D p W S;rw [<-Y0 R.ris R.good p,hX] at cO;unfold onV at cO;dsimp only at cO;have HE:=hdd (show halfL D p=addL (addL (remL D (lo2 X.A X.B) (hi2 X.A X.B)) ⟨X.A,p,X.K⟩) ⟨p,X.B,X.K⟩ by unfold halfL;rw [hX]);have cR:=λv W S=>rem_any sb v D X.A X.B W S;have hl1:(remL D (lo2 X.A X.B) (hi2 X.A X.B)).length<=900000:=XD (remL_le D _ _) hD;generalize remL D (lo2 X.A X.B) (hi2 X.A X.B)=D1 at *
 generalize remE D (lo2 X.A X.B) (hi2 X.A X.B)=r0 at *
 have cA:=λv W S=>Zi sb v D1 ⟨X.A,p,X.K⟩ (by omega) W S;rw [e1] at cA;have hl2:(addL D1 ⟨X.A,p,X.K⟩).length<=900001:=XD (addL_le D1 _) (by omega);generalize addL D1 ⟨X.A,p,X.K⟩=D2 at *
 have cB:=λv W S=>Zi sb v D2 ⟨p,X.B,X.K⟩ (by omega) W S;rw [e2] at cB;generalize addL D2 ⟨p,X.B,X.K⟩=D3 at *
 dsimp only at cA cB;have HR:=hdd R;have HS:=hdd S;clear R S hX e1 e2 hD hl1 hl2
 go_enter func43,ntmps43
 go_wp2_with fail;refine qE1 λW1 Ba hw=>?_;refine (cO _ (HR.o.ee hw)).mono ?_;rintro e w2 ⟨rfl,hb⟩;obtain ⟨Ba,hw,-⟩:=qX1 Ba hw hb;clear hb cO;have Fa:=Ba.f;have la:=Ba.lt;go_wp2_with fail;refine zG λW3 hW=>?_;obtain ⟨bw,hbw⟩:∃ b,w2.heap.size=b:=⟨_,rfl⟩;rw [hbw] at la ⊢;have Bw:Box W3 bw [X.A.x,X.A.y,X.B.x,X.B.y,X.K] 57:=by rw [hW];exact Box.new hbw.symm
 replace Ba:Box W3 w [p.x,p.y] 26:=by rw [hW];exact Ba.old _
 have hb:Below w2 w2 W3:=by rw [hW];go_grown
 replace hw:=upB hw hb;clear hW hb Fa;have S3:=HS.o.ee hw;have lw:=Bw.lt;have la3:=Ba.lt;refine (cR _ _ S3).mono ?_;rintro e w4 ⟨v4,rfl,S4,F4,f4⟩;have hz:=hw.size;have n1:∀ k,w.heap.size<=k->¬ Foot sb v k:=λk hk=>YK HS.o hk;replace Ba:=F4.box Ba (n1 _ (Yq _));replace Bw:=F4.box Bw (n1 _ (by omega));have FF:Frm w w4 (Foot sb v):=(Frm.of_below hw).trans F4;have s4:=F4.size;clear cR F4;have Fa:=Ba.f;have Fw:=Bw.f;go_wp2_with fail;refine (cA _ _ S4).mono ?_;rintro e w5 ⟨v5,rfl,S5,F5,f5⟩;have n2:∀ k,w.heap.size<=k->k < W3.heap.size->¬ Foot sb v4 k:=λk h1 h2 h=>by
  rcases h with h | h
  ·exact n1 k h1 (.inl h)
  ·rcases f4 k h with h3 | h3
   ·exact n1 k h1 (.inr h3)
   ·omega
 clear Fa Fw;replace Ba:=F5.box Ba (n2 _ (Yq _) (by omega));replace Bw:=F5.box Bw (n2 _ (by omega) (by omega));replace FF:=FF.trans2 F5 (jZ f4 hz);have f5':Fresh v v5 W3.heap.size:=λg hg=>by
  rcases f5 g hg with h | h
  ·exact f4 g h
  ·exact .inr (by omega)
 have s5:=F5.size;clear cA F5 S4 f5;have Fa:=Ba.f;have Fw:=Bw.f;go_wp2_with fail;refine (cB _ _ S5).mono ?_;rintro e w6 ⟨v6,rfl,S6,F6,f6⟩;replace FF:=FF.trans2 F6 (jZ f5' hz);have f6':Fresh v v6 w.heap.size:=λg hg=>by
  rcases f6 g hg with h | h
  ·rcases f5' g h with h2 | h2
   ·exact .inl h2
   ·exact .inr (by omega)
  ·exact .inr (by omega)
 clear Fa Fw cB F6 S5 Ba Bw;go_wp2;exact bodyPost_end (results_none rfl _ _ _) rfl ⟨v6,rfl,by rw [HE.o];exact S6,FF,f6'⟩
theorem atCl (T:Tri3) (p:Pt) (pb:Nat) (w:World) (Bp:Box w pb [p.x,p.y] 26):Calls prog 81 #[T,pt0 pb] w (Rt w (.bool (hasP T p))):=by
 have ch:=ut T p;simp only [Zq] at ch;generalize hasP T p=z at *
 have Fp:=Bp.f
 go_enter func81,ntmps81
 go_wp2_with fail;refine zG λW1 hW=>?_;have hw:Below w w W1:=by rw [hW];go_grown
 clear hW;refine (ch _).mono ?_;rintro e w2 ⟨rfl,hb⟩;have hw2:=(upB hw hb);clear hb hw ch Fp;go_wp2
 go_ret
 exact ⟨rfl,hw2⟩
theorem atEnter:∀ args w,(callFunc 81 args).run prog w=.ok (.enter 81 args) w:=enters_of func81 (by kernel_rfl) rfl
theorem td (mb b:Nat) (E:Es) (p:Pt) (hE:E.length<=1000000) (w:World) (Bm:Box w mb [.map (some b)] 102) (Hm:Hs w b E):Calls prog 40 #[pt0 mb,p] w λe w'=>∃ a cap,e=.returned (.slice a (srt cmpT (heads (λT=>hasP T p) E)).length cap)/\RowAt cT 6 w' a (srt cmpT (heads (λT=>hasP T p) E))/\Below w w w':=by
 obtain ⟨f,ef⟩:∃ f:Tri3->Bool,f=(λT=>hasP T p):=⟨_,rfl⟩;rw [<-ef];have cc:∀ (T:Tri3) (pb:Nat) (W:World),Box W pb [p.x,p.y] 26->Calls prog 81 #[T,pt0 pb] W λe w'=>e=.returned (.bool (f T))/\Below W W w':=λT pb W B=>by rw [ef];exact atCl T p pb W B
 clear ef
 go_enter func40,ntmps40
 go_wp2_with fail;refine zG λW1 hW=>?_;have Bp:Box W1 w [p.x,p.y] 26:=by rw [hW];exact Box.new rfl
 have hw:Below w w W1:=by rw [hW];go_grown
 clear hW;refine (those_any mb b E 81 #[pt0 w.heap.size] f hE W1 (Bm.ee hw) (Hm.ee hw) atEnter (λT W hW=>cc T _ W (Bp.ee hW))).mono ?_;rintro e w2 ⟨a,cap,rfl,hr,hb⟩;have hw2:=(upB hw hb);go_wp2
 go_ret
 exact ⟨a,cap,rfl,hr,hw2⟩
end
end Go.Proofs.YtmpfadapbbjbkaaGreat
