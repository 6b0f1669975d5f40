/- Put together: Awk8, Awk8w, Few8. -/
import Derived.Test.YtogffkimgmlilaaGreatPfb46
set_option maxRecDepth 100000
set_option maxHeartbeats 8000000
set_option linter.all false
namespace Go.Proofs.YtogffkimgmlilaaGreat
open _root_.Go.Proofs.Tryz
section
open Go.RowKit
abbrev kA:Pt:=⟨0,0⟩
abbrev kB:Pt:=⟨1,0⟩
abbrev kC:Pt:=⟨1,1⟩
abbrev kD:Pt:=⟨0,1⟩
abbrev kX:Tri3:=⟨kA,kB,kD⟩
abbrev kY:Tri3:=⟨kD,kB,kC⟩
abbrev kZ:Tri3:=⟨kA,kB,kC⟩
abbrev kV:Tri3:=⟨kA,kC,kD⟩
theorem k8_mk1:mk kA kB kD=kX∧¬ ori kA kB kD=0:=by decide
theorem k8_mk2:mk kB kC kD=kY∧¬ ori kB kC kD=0:=by decide
theorem k8_mk3:mk kA kB kC=kZ∧¬ ori kA kB kC=0:=by decide
def k8E:Es:=(putRun [] [kX,kY]).2
theorem k8_put:(putRun [] [kX,kY]).1=2:=by decide
theorem k8_ok:∀ T∈[kX,kY],okT T:=fun T hT=>by
 simp only [jA1,jA6,jAw] at hT;rcases hT with rfl | rfl
 ·exact zB7 (by decide)
 ·exact zB7 (by decide)
theorem zFg:Good k8E [kX,kY]:=by
 have h:=Good.puts (I:=[kX,kY]) (E:=[]) (M:=[]) ⟨by simp,by simp [KeysNodup],by simp⟩ (fun T hT=>by
  simp only [jA1,jA6,jAw] at hT;rcases hT with rfl | rfl <;> decide) (by decide)
 exact h.2
theorem zKv:Tiles 1 1 [kZ,kV]:=zFz (by decide) (by decide) (.inl ⟨rfl,rfl,rfl⟩) (.inl ⟨rfl,rfl,rfl⟩)
theorem zGd:Tiles 1 1 [kX,kY]:=by
 have f:Flp (fun _ _=>False) [kZ,kV] kV kZ [] kA kC kD kB:=⟨List.Perm.swap _ _ _,.inl ⟨rfl,rfl,rfl⟩,.inr (.inr ⟨rfl,rfl,rfl⟩),⟨id,id⟩,by decide,by decide⟩;have h:=f.tiles zKv (by decide) (by decide);rw [show mk kD kA kB=kX by decide,show mk kB kC kD=kY by decide] at h;exact h
theorem k8_fixed:Fixed 1 1 (wll []) [kZ,kV]:=by
 refine ⟨zKv,fun S hS R hR a b c d cS cR _ hc=>?_⟩;simp only [jA1,jA6,jAw] at hS hR;rcases hS with rfl | rfl <;> rcases hR with rfl | rfl <;> rcases cS with ⟨rfl,rfl,rfl⟩ | ⟨rfl,rfl,rfl⟩ | ⟨rfl,rfl,rfl⟩ <;> rcases cR with ⟨h1,h2,rfl⟩ | ⟨h1,h2,rfl⟩ | ⟨h1,h2,rfl⟩ <;> first | (revert h1;decide) | (revert h2;decide) | (revert hc;decide)
theorem k8_bad {x:Wl}:x∈FB k8E []↔x=⟨kD,kB,1⟩:=by
 rw [FB_mem (by decide) (by decide) zFg zGd (fun x hx=>by cases hx)];constructor
 ·rintro ⟨hk,hlt,hb⟩;obtain ⟨S,mS,R,mR,c,d,cS,cR,_,hc⟩:=(badP_iff zFg zGd (fun x hx=>by cases hx)).1 hb;obtain ⟨A,B,K⟩:=x;simp only at hk hlt cS cR hc;subst hk;simp only [jA1,jA6,jAw] at mS mR;rcases mS with rfl | rfl <;> rcases mR with rfl | rfl <;> rcases cS with ⟨rfl,rfl,rfl⟩ | ⟨rfl,rfl,rfl⟩ | ⟨rfl,rfl,rfl⟩ <;> rcases cR with ⟨h1,h2,rfl⟩ | ⟨h1,h2,rfl⟩ | ⟨h1,h2,rfl⟩ <;> first | (exfalso;revert h1;decide) | (exfalso;revert h2;decide) | (exfalso;revert hlt;decide) | rfl
 ·rintro rfl;refine ⟨rfl,by decide,(badP_iff zFg zGd (fun x hx=>by cases hx)).2 ⟨kY,by simp,kX,by simp,kC,kA,.inl ⟨rfl,rfl,rfl⟩,.inr (.inl ⟨rfl,rfl,rfl⟩),rfl,by decide⟩⟩
theorem k8_FB:FB k8E []=[⟨kD,kB,1⟩]:=
 zFc wholeW (FB_ris (by decide) (by decide) zFg zGd (fun x hx=>by cases hx)) (List.pairwise_singleton _ _) (fun p=>by rw [k8_bad];simp)
theorem k8_after {E1:Es} {L1:List Tri3} (h:RSt 1 1 [] [kX,kY] E1 L1) (f:Fixed 1 1 (wll []) L1):hasE E1 kZ=true∧FB E1 []=[]:=by
 refine ⟨?_,(FB_nil (by decide) (by decide) h.good h.tiles (fun x hx=>by cases hx)).2 f⟩;have nw:∀ a b,¬ wll [] a b:=fun a b k=>k rfl;have cX:∀ q,someC [kX,kY] q↔someC [kZ,kV] q:=fun q=>by
  have h1:isCnr kX q↔q=kA∨q=kB∨q=kD:=jEh;have h2:isCnr kY q↔q=kD∨q=kB∨q=kC:=jEh;have h3:isCnr kZ q↔q=kA∨q=kB∨q=kC:=jEh;have h4:isCnr kV q↔q=kA∨q=kC∨q=kD:=jEh;rw [zBw,zBw,zBw,zBw,h1,h2,h3,h4];constructor
  ·rintro ((k | k | k) | (k | k | k) | k) <;> first | exact absurd k (zDp q) | simp [k]
  ·rintro ((k | k | k) | (k | k | k) | k) <;> first | exact absurd k (zDp q) | simp [k]
 obtain ⟨T1,hT1,hc⟩:=one_mesh (by decide) (by decide) (by decide) (by decide) f k8_fixed (fun _ _ _ _ a b _ _ _ _ k=>absurd k (nw a b)) (fun _ _ _ _ a b _ _ _ _ k=>absurd k (nw a b))
  (fun T hT p hp=>(cX p).1 ((h.kept.cnr p).1 ⟨T,hT,hp⟩)) (fun T hT p hp=>(h.kept.cnr p).2 ((cX p).2 ⟨T,hT,hp⟩)) (T2:=kZ) (by simp)
 have e:=val_cyc (h.good.val T1 hT1) (show valT kZ=true by decide) hc;rw [h.good.has,←e];exact hT1
end
section
open Go.RowKit Go.Sort
attribute [local go_sem] rOper rAt rUpon cell_set sg_i64 sg_u64 alloc_cell alloc_frozen
attribute [local go_sem 10000] pt_eql pt_neq tri_eql wal_eql wal_neq
attribute [local irreducible] rWalk
theorem frep_nil (v:Value) (w:World):Calls prog 15 #[.pointer none,v] w (Rt w (.int .i64 16)):=by
 go_enter func15,ntmps15
 go_wp2
 go_ret
 exact ⟨rfl,by go_grown⟩
theorem k8_c1 (w:World):Calls prog 30 #[.agg #[(),()],.agg #[.int .i64 1,()],.agg #[(),.int .i64 1]] w (Rt w (.tuple #[.agg #[(),(),.int .i64 1,(),(),.int .i64 1],.bool true])):=by
 have h:=zB4 kA kB kD w;rw [k8_mk1.1,show (!decide (ori kA kB kD=0))=true by decide] at h;exact h
theorem k8_c2 (w:World):Calls prog 30 #[.agg #[.int .i64 1,()],.agg #[.int .i64 1,.int .i64 1],.agg #[(),.int .i64 1]] w (Rt w (.tuple #[.agg #[(),.int .i64 1,.int .i64 1,(),.int .i64 1,.int .i64 1],.bool true])):=by
 have h:=zB4 kB kC kD w;rw [k8_mk2.1,show (!decide (ori kB kC kD=0))=true by decide] at h;exact h
theorem k8_c3 (w:World):Calls prog 30 #[.agg #[(),()],.agg #[.int .i64 1,()],.agg #[.int .i64 1,.int .i64 1]] w (Rt w (.tuple #[.agg #[(),(),.int .i64 1,(),.int .i64 1,.int .i64 1],.bool true])):=by
 have h:=zB4 kA kB kC w;rw [k8_mk3.1,show (!decide (ori kA kB kC=0))=true by decide] at h;exact h
theorem awake8_any (w:World):Calls prog 8 #[] w (Rt w (.bool true)):=by
 go_enter func8,ntmps8
 go_wp2_with fail;refine qE4 fun W1 Ba Bb Bc Bd hw=>?_;refine qC4 (k8_c1 _) Ba Bb Bc Bd hw fun w2 Ba Bb Bc Bd hw F_abcd=>?_;go_wp2_with fail;clear F_abcd;refine zA4 fun W3 hW=>?_;obtain ⟨bkX,hbX⟩:∃ b,w2.heap.size=b:=⟨_,rfl⟩;rw [hbX];obtain ⟨laX,lbX,lcX,ldX,fX,BX,Ba,Bb,Bc,Bd,hw⟩:=qM4 hW hbX Ba Bb Bc Bd hw;clear hW hbX;refine qK5 (k8_c2 _) Ba Bb Bc Bd BX hw fun w4 Ba Bb Bc Bd BX hw=>?_;have sa:(w.heap.size=w4.heap.size+1)=False:=by have:=Ba.lt;simp;omega
 have sb:(w.heap.size+1=w4.heap.size+1)=False:=by have:=Bb.lt;simp;omega
 have sc:(w.heap.size+1+1=w4.heap.size+1)=False:=by have:=Bc.lt;simp;omega
 have sd:(w.heap.size+1+1+1=w4.heap.size+1)=False:=by have:=Bd.lt;simp;omega
 have sX:(bkX=w4.heap.size+1)=False:=by have:=BX.lt;simp;omega
 have F_abcdX:=J5 Ba.f Bb.f Bc.f Bd.f BX.f;go_wp2_with fail;clear F_abcdX;clear sa sb sc sd sX;refine zA4 fun W5 hW=>?_;obtain ⟨bkY,hbY⟩:∃ b,w4.heap.size=b:=⟨_,rfl⟩;rw [hbY];have laY:=Ba.lt;rw [hbY] at laY;have lbY:=Bb.lt;rw [hbY] at lbY;have lcY:=Bc.lt;rw [hbY] at lcY;have ldY:=Bd.lt;rw [hbY] at ldY;have lXY:=BX.lt;rw [hbY] at lXY;have fY:=hw.size;rw [hbY] at fY;have BY:Box W5 (bkY) [(),.int .i64 1,.int .i64 1,(),.int .i64 1,.int .i64 1] 56:=by rw [hW,←hbY];exact (Box.new rfl).old _
 have BR:Box W5 (bkY+1) [(),(),.int .i64 1,(),(),.int .i64 1,(),.int .i64 1,.int .i64 1,(),.int .i64 1,.int .i64 1] 56:=by rw [hW,←hbY];exact Box.new (by simp)
 replace Ba:Box W5 w [(),()] 54:=by rw [hW];exact ((Ba).old _).old _
 replace Bb:Box W5 (w+1) [.int .i64 1,()] 54:=by rw [hW];exact ((Bb).old _).old _
 replace Bc:Box W5 (w+1+1) [.int .i64 1,.int .i64 1] 54:=by rw [hW];exact ((Bc).old _).old _
 replace Bd:Box W5 (w+1+1+1) [(),.int .i64 1] 54:=by rw [hW];exact ((Bd).old _).old _
 replace BX:Box W5 (bkX) [(),(),.int .i64 1,(),(),.int .i64 1] 56:=by rw [hW];exact ((BX).old _).old _
 replace hw:Below w w W5:=by have hl:=hw.size;rw [hW];go_grown
 clear hW hbY;have hr:=zEz (S:=[kX,kY]) BR;refine (mnew_1 _ 2 2 [kX,kY] (hdd rfl) (by decide) k8_ok k8_put _ hr).mono ?_;rintro e w30 ⟨mb,b,rfl,BM,HM,hbl,hml,hb⟩;have hlb:w.heap.size≤b:=jAp hw.size hbl;clear hbl hml;obtain ⟨Ba,Bb,Bc,Bd,hw,-⟩:=qX4 Ba Bb Bc Bd hw hb
 change HoldsMap eW eT okW w30 b k8E at HM
 clear hb BX BY BR hr;have F_abcd:=J4 Ba.f Bb.f Bc.f Bd.f;go_wp2_with fail;clear F_abcd;refine (new_none _).mono ?_;rintro e w31 ⟨sb,vS,rfl,SA,_,_,hb⟩;obtain ⟨a0,c0,rfl,SR⟩:=SA.rd;replace Ba:=Ba.ee hb;replace Bb:=Bb.ee hb;replace Bc:=Bc.ee hb;replace Bd:=Bd.ee hb;replace BM:=BM.ee hb;replace HM:=HM.ee hb;replace hw:=upB hw hb;clear hb SA;have hok:∀ e∈k8E,okT e.2:=fun e he=>by
  obtain ⟨ww,T⟩:=e;exact zB7 (zFg.val T (wys_mem.1 (zFg.perm.mem_iff.1 he)).1)
 have hE:k8E.length≤90000:=by rw [zFg.len];decide
 have cB:=fun W B H S=>fBad_any mb b k8E sb a0 c0 ([]:List Wl).length [] hE hok W B H S;rw [k8_FB] at cB;have cG:=fun W B H S=>fGood_any mb b k8E sb a0 c0 ([]:List Wl).length [] hE hok W B H S;rw [k8_FB] at cG;have cR:=fun W B H S=>fRepair_any mb b k8E [kX,kY] sb a0 c0 ([]:List Wl).length [] 1 1 (by decide) (by decide) (by decide) zFg zGd W B H S;clear hE hok;have F_abcd:=J4 Ba.f Bb.f Bc.f Bd.f;go_wp2_with fail;clear F_abcd;refine (cB _ BM HM SR).mono ?_;rintro e w32 ⟨vl,rfl,hrl,hb⟩;obtain ⟨al,cpl,rfl,rl2,fl⟩:=hrl.row;replace Ba:=Ba.ee hb;replace Bb:=Bb.ee hb;replace Bc:=Bc.ee hb;replace Bd:=Bd.ee hb;replace BM:=BM.ee hb;replace HM:=HM.ee hb;replace SR:=SR.ee hb;replace hw:=upB hw hb;clear hb hrl cB fl;have F_abcd:=J4 Ba.f Bb.f Bc.f Bd.f;go_wp2_with fail;clear F_abcd;refine (cG _ BM HM SR).mono ?_;rintro e w33 ⟨rfl,hb⟩;replace Ba:=Ba.ee hb;replace Bb:=Bb.ee hb;replace Bc:=Bc.ee hb;replace Bd:=Bd.ee hb;replace BM:=BM.ee hb;replace HM:=HM.ee hb;replace SR:=SR.ee hb;replace rl2:=rl2.ee hb;replace hw:=upB hw hb;clear hb cG;have F_abcd:=J4 Ba.f Bb.f Bc.f Bd.f;go_wp2_with fail;clear F_abcd;refine (cR _ BM HM SR).mono ?_;rintro e w34 ⟨rfl,E1,L1,hg,H1,R1,F1⟩;replace Ba:=Ba.turn HM hg;replace Bb:=Bb.turn HM hg;replace Bc:=Bc.turn HM hg;replace Bd:=Bd.turn HM hg;replace BM:=BM.turn HM hg;replace SR:=SR.turn HM hg;replace rl2:=rl2.turn cW_ne HM hg;replace hw:=hw.grown hg hw.size (fun q hq=>by cases hq;omega);obtain ⟨hz,hF⟩:=k8_after R1 F1;have hok:∀ e∈E1,okT e.2:=fun e he=>by
  obtain ⟨ww,T⟩:=e;exact zB7 (R1.good.val T (wys_mem.1 (R1.good.perm.mem_iff.1 he)).1)
 have hE:E1.length≤90000:=by rw [R1.good.len,R1.kept.len];decide
 have cG:=fun W B H S=>fGood_any mb b E1 sb a0 c0 ([]:List Wl).length [] hE hok W B H S;rw [hF] at cG;have cH:=fun W B H=>zJr mb b E1 kZ (zB7 (by decide)) W B H;rw [hz] at cH;clear cR hg HM R1 F1 hz hF hok hE;have F_abcd:=J4 Ba.f Bb.f Bc.f Bd.f;go_wp2_with fail;clear F_abcd;refine (k8_c3 _).mono ?_;rintro e w35 ⟨rfl,hb⟩;replace Ba:=Ba.ee hb;replace Bb:=Bb.ee hb;replace Bc:=Bc.ee hb;replace Bd:=Bd.ee hb;replace BM:=BM.ee hb;replace H1:=H1.ee hb;replace SR:=SR.ee hb;replace rl2:=rl2.ee hb;replace hw:=upB hw hb;clear hb;have F_abcd:=J4 Ba.f Bb.f Bc.f Bd.f;go_wp2_with fail;clear F_abcd;have HB:=hdd (Below.refl w35.heap.size w35);refine zA1 fun W6 hW=>?_;obtain ⟨bkZ,hbZ⟩:∃ b,w35.heap.size=b:=⟨_,rfl⟩;rw [hbZ];have laZ:=Ba.lt;rw [hbZ] at laZ;have lbZ:=Bb.lt;rw [hbZ] at lbZ;have lcZ:=Bc.lt;rw [hbZ] at lcZ;have ldZ:=Bd.lt;rw [hbZ] at ldZ;have fZ:=hw.size;rw [hbZ] at fZ;have BZ:Box W6 bkZ [(),(),.int .i64 1,(),.int .i64 1,.int .i64 1] 56:=by rw [hW];exact Box.new hbZ.symm
 replace Ba:Box W6 w [(),()] 54:=by rw [hW];exact Ba.old _
 replace Bb:Box W6 (w+1) [.int .i64 1,()] 54:=by rw [hW];exact Bb.old _
 replace Bc:Box W6 (w+1+1) [.int .i64 1,.int .i64 1] 54:=by rw [hW];exact Bc.old _
 replace Bd:Box W6 (w+1+1+1) [(),.int .i64 1] 54:=by rw [hW];exact Bd.old _
 replace hw:Below w w W6:=by have hl:=hw.size;rw [hW];go_grown
 have h35:Below w35 w35 W6:=by rw [hW];go_grown
 clear hW hbZ;replace BM:=BM.ee h35;replace H1:=H1.ee h35;replace SR:=SR.ee h35;replace rl2:=rl2.ee h35;obtain ⟨ad,A,ea,eA,hA⟩:=rl2.five (j:=0) (by decide);subst ea;obtain ⟨s0,s1,s2,s3,s4⟩:=hA.cells;have dg:∀ d os,Calls prog 21 #[pt0 mb,pt0 sb] (grow (redrawn W6 d) os) fun e w'=>e=.returned (.bool true)∧Below (grow (redrawn W6 d) os).heap.size (grow (redrawn W6 d) os) w':=fun d os=>cG _ (BM.ext (below_regrown W6 d os) rfl) (H1.ext (below_regrown W6 d os) rfl) (SR.ext (below_regrown W6 d os) rfl);have dh:∀ d os,Calls prog 32 #[pt0 mb,.agg #[(),(),.int .i64 1,(),.int .i64 1,.int .i64 1]] (grow (redrawn W6 d) os) fun e w'=>e=.returned (.bool true)∧Below (grow (redrawn W6 d) os).heap.size (grow (redrawn W6 d) os) w':=fun d os=>cH _ (BM.ext (below_regrown W6 d os) rfl) (H1.ext (below_regrown W6 d os) rfl);have dr:=fun W=>frep_nil (.pointer (some ⟨sb,0,none⟩)) W;have g_abcdZ:=J5 Ba.cells Bb.cells Bc.cells Bd.cells BZ.cells;refine wrt 35 (by kernel_rfl) (by kernel_rfl) ?_;simp only [tK1,tK0,dP1,dP0];refine wkx ?_;intro w7 hb;clear g_abcdZ;obtain ⟨Ba,Bb,Bc,Bd,BZ,hw,F_abcdZ⟩:=qX5 Ba Bb Bc Bd BZ hw hb;go_wp2
 go_ret
 exact ⟨rfl,hw⟩
end
section
open Go.RowKit Go.Sort
attribute [local go_sem] rOper rAt rUpon cell_set sg_i64 sg_u64 alloc_cell alloc_frozen
attribute [local go_sem 10000] pt_eql pt_neq tri_eql
attribute [local irreducible] rWalk
theorem few8_any (s:Int) (a0 a1:Option Addr) (n m c0 c1:Nat) (w:World):Calls prog 7 #[s,.slice a0 n c0,.slice a1 m c1] w fun e w'=>e=.returned (.bool (decide (1≤s) && (decide (s≤40) && (decide (n≤25) && decide (m≤12)))))∧Below w w w':=by
 have e1:decide (1≤s)=decide ((1:Int)≤s):=rfl;have e3:decide (n≤25)=decide ((n:Int)≤25):=by simp;omega
 have e4:decide (m≤12)=decide ((m:Int)≤12):=by simp;omega
 rw [e3,e4];clear e1 e3 e4;cases h1:decide ((1:Int)≤s) <;> cases h2:decide (s≤40) <;> cases h3:decide ((n:Int)≤25) <;> cases h4:decide ((m:Int)≤12)
 all_goals
  go_enter func7,ntmps7
  go_wp2
  go_ret
  exact ⟨rfl,by go_grown⟩
theorem tris_new {E:Es} {L:List Tri3} (g:Good E L):(srt cmpT (heads (fun _=>true) E)).Perm L∧(∀ T∈srt cmpT (heads (fun _=>true) E),okT T)∧(putRun [] (srt cmpT (heads (fun _=>true) E))).1=(srt cmpT (heads (fun _=>true) E)).length∧Good (putRun [] (srt cmpT (heads (fun _=>true) E))).2 (srt cmpT (heads (fun _=>true) E)):=by
 have hp0:(srt cmpT (heads (fun _=>true) E)).Perm L:=(srt_perm _).trans g.heads;generalize srt cmpT (heads (fun _=>true) E)=I at *
 have hv:∀ T∈I,valT T=true:=fun T h=>g.val T (hp0.mem_iff.1 h);have hgo:=Good.puts (I:=I) (E:=[]) (M:=[]) ⟨by simp,by simp [KeysNodup],by simp⟩ hv (by
  rw [jAs];exact ((hp0.flatMap_right ways).nodup_iff).2 g.once)
 rw [jAs] at hgo;exact ⟨hp0,fun T h=>zB7 (hv T h),hgo.1,hgo.2⟩
end
end Go.Proofs.YtogffkimgmlilaaGreat
