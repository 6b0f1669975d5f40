/- Put together: CdtB, MesG, RegD. -/
import Derived.Test.YtogffkimgmlilaaGreatPfb12
import Derived.Deep.Draws
import Derived.Sort.Grow
set_option maxRecDepth 100000
set_option maxHeartbeats 8000000
set_option linter.all false
namespace Go.Proofs.YtogffkimgmlilaaGreat
open Go.RowKit Go.Sort _root_.Go.Proofs.Tryz
section
attribute [local go_sem] rOper rAt rUpon cell_set sg_i64 sg_u64 alloc_cell alloc_frozen
attribute [local go_sem 10000] pt_eql pt_neq tri_eql
attribute [local irreducible] rWalk
theorem zJg (T:Tri3) (w:World):Calls prog 39 #[T,()] w (Rt w (.agg #[T.A.x,T.A.y])):=zBc T 0 w
theorem zLn (T:Tri3) (w:World):Calls prog 39 #[T,.int .i64 1] w (Rt w (.agg #[T.B.x,T.B.y])):=zBc T 1 w
theorem far_0 (T:Tri3) (a b:Pt) (ha0:peqI T.A.x T.A.y a.x a.y=false) (hb0:peqI T.A.x T.A.y b.x b.y=false) (w:World):Calls prog 78 #[T,a,b] w (Rt w (.agg #[T.A.x,T.A.y])):=by
 have cc0:=zJg T
 go_enter func78,ntmps78
 go_wp2_with fail;refine qD4 fun W1 Bt Ba Bb Br hw=>?_;refine wp_loop_rounds 4 ?_;try rw [rounds_succ]
 have Ft:=Bt.f;have Fa:=Ba.f;have Fb:=Bb.f;have Fr:=Br.f;go_wp2_with fail;have g_tabr:=J4 Bt.cells Ba.cells Bb.cells Br.cells;refine rgn 11 (fun w2 hb=>?_);clear g_tabr;clear Ft Fa Fb Fr;obtain ⟨Bt,Ba,Bb,Br,hw,-⟩:=qX4 Bt Ba Bb Br hw hb;have Ft:=Bt.f;have Fa:=Ba.f;have Fb:=Bb.f;have Fr:=Br.f;go_wp2_with fail;clear Ft Fa Fb Fr;refine qK4 (cc0 _) Bt Ba Bb Br hw fun w3 Bt Ba Bb Br hw=>?_;have Ft:=Bt.f;have Fa:=Ba.f;have Fb:=Bb.f;have Fr:=Br.f;go_wp2_with fail;refine bodyPost_ret (v:=.agg #[T.A.x,T.A.y]) (by simp [results,results78,go_sem,Fr]) rfl ⟨rfl,by have hl:=hw.size;go_grown⟩
theorem far_10 (T:Tri3) (a b:Pt) (ha0:peqI T.A.x T.A.y a.x a.y=true) (ha1:peqI T.B.x T.B.y a.x a.y=false) (hb1:peqI T.B.x T.B.y b.x b.y=false) (w:World):Calls prog 78 #[T,a,b] w (Rt w (.agg #[T.B.x,T.B.y])):=by
 have cc0:=zJg T;have cc1:=zLn T
 go_enter func78,ntmps78
 go_wp2_with fail;refine qD4 fun W1 Bt Ba Bb Br hw=>?_;refine wp_loop_rounds 4 ?_;try rw [rounds_succ]
 have Ft:=Bt.f;have Fa:=Ba.f;have Fb:=Bb.f;have Fr:=Br.f;go_wp2_with fail;have g_tabr:=J4 Bt.cells Ba.cells Bb.cells Br.cells;refine rgn 11 (fun w2 hb=>?_);clear g_tabr;clear Ft Fa Fb Fr;obtain ⟨Bt,Ba,Bb,Br,hw,F_tabr⟩:=qX4 Bt Ba Bb Br hw hb;go_wp2_with fail;clear F_tabr;try rw [rounds_succ]
 have Ft:=Bt.f;have Fa:=Ba.f;have Fb:=Bb.f;have Fr:=Br.f;go_wp2_with fail;have g_tabr:=J4 Bt.cells Ba.cells Bb.cells Br.cells;refine rgn 11 (fun w3 hb=>?_);clear g_tabr;clear Ft Fa Fb Fr;obtain ⟨Bt,Ba,Bb,Br,hw,-⟩:=qX4 Bt Ba Bb Br hw hb;have Ft:=Bt.f;have Fa:=Ba.f;have Fb:=Bb.f;have Fr:=Br.f;go_wp2_with fail;clear Ft Fa Fb Fr;refine qK4 (cc1 _) Bt Ba Bb Br hw fun w4 Bt Ba Bb Br hw=>?_;have Ft:=Bt.f;have Fa:=Ba.f;have Fb:=Bb.f;have Fr:=Br.f;go_wp2_with fail;refine bodyPost_ret (v:=.agg #[T.B.x,T.B.y]) (by simp [results,results78,go_sem,Fr]) rfl ⟨rfl,by have hl:=hw.size;go_grown⟩
theorem far_11 (T:Tri3) (a b:Pt) (ha0:peqI T.A.x T.A.y a.x a.y=true) (ha1:peqI T.B.x T.B.y a.x a.y=true) (w:World):Calls prog 78 #[T,a,b] w (Rt w (.agg #[T.C.x,T.C.y])):=by
 have cc0:=zJg T;have cc1:=zLn T
 go_enter func78,ntmps78
 go_wp2_with fail;refine qD4 fun W1 Bt Ba Bb Br hw=>?_;refine wp_loop_rounds 4 ?_;try rw [rounds_succ]
 have Ft:=Bt.f;have Fa:=Ba.f;have Fb:=Bb.f;have Fr:=Br.f;go_wp2_with fail;have g_tabr:=J4 Bt.cells Ba.cells Bb.cells Br.cells;refine rgn 11 (fun w2 hb=>?_);clear g_tabr;clear Ft Fa Fb Fr;obtain ⟨Bt,Ba,Bb,Br,hw,F_tabr⟩:=qX4 Bt Ba Bb Br hw hb;go_wp2_with fail;clear F_tabr;try rw [rounds_succ]
 have Ft:=Bt.f;have Fa:=Ba.f;have Fb:=Bb.f;have Fr:=Br.f;go_wp2_with fail;have g_tabr:=J4 Bt.cells Ba.cells Bb.cells Br.cells;refine rgn 11 (fun w3 hb=>?_);clear g_tabr;clear Ft Fa Fb Fr;obtain ⟨Bt,Ba,Bb,Br,hw,F_tabr⟩:=qX4 Bt Ba Bb Br hw hb;go_wp2_with fail;clear F_tabr;try rw [rounds_succ]
 have Ft:=Bt.f;have Fa:=Ba.f;have Fb:=Bb.f;have Fr:=Br.f;go_wp2_with fail;refine bodyPost_ret (v:=.agg #[T.C.x,T.C.y]) (by simp [results,results78,go_sem,Fr]) rfl ⟨rfl,by have hl:=hw.size;go_grown⟩
theorem far_12 (T:Tri3) (a b:Pt) (ha0:peqI T.A.x T.A.y a.x a.y=true) (ha1:peqI T.B.x T.B.y a.x a.y=false) (hb1:peqI T.B.x T.B.y b.x b.y=true) (w:World):Calls prog 78 #[T,a,b] w (Rt w (.agg #[T.C.x,T.C.y])):=by
 have cc0:=zJg T;have cc1:=zLn T
 go_enter func78,ntmps78
 go_wp2_with fail;refine qD4 fun W1 Bt Ba Bb Br hw=>?_;refine wp_loop_rounds 4 ?_;try rw [rounds_succ]
 have Ft:=Bt.f;have Fa:=Ba.f;have Fb:=Bb.f;have Fr:=Br.f;go_wp2_with fail;have g_tabr:=J4 Bt.cells Ba.cells Bb.cells Br.cells;refine rgn 11 (fun w2 hb=>?_);clear g_tabr;clear Ft Fa Fb Fr;obtain ⟨Bt,Ba,Bb,Br,hw,F_tabr⟩:=qX4 Bt Ba Bb Br hw hb;go_wp2_with fail;clear F_tabr;try rw [rounds_succ]
 have Ft:=Bt.f;have Fa:=Ba.f;have Fb:=Bb.f;have Fr:=Br.f;go_wp2_with fail;have g_tabr:=J4 Bt.cells Ba.cells Bb.cells Br.cells;refine rgn 11 (fun w3 hb=>?_);clear g_tabr;clear Ft Fa Fb Fr;obtain ⟨Bt,Ba,Bb,Br,hw,F_tabr⟩:=qX4 Bt Ba Bb Br hw hb;go_wp2_with fail;clear F_tabr;try rw [rounds_succ]
 have Ft:=Bt.f;have Fa:=Ba.f;have Fb:=Bb.f;have Fr:=Br.f;go_wp2_with fail;refine bodyPost_ret (v:=.agg #[T.C.x,T.C.y]) (by simp [results,results78,go_sem,Fr]) rfl ⟨rfl,by have hl:=hw.size;go_grown⟩
theorem far_20 (T:Tri3) (a b:Pt) (ha0:peqI T.A.x T.A.y a.x a.y=false) (hb0:peqI T.A.x T.A.y b.x b.y=true) (ha1:peqI T.B.x T.B.y a.x a.y=false) (hb1:peqI T.B.x T.B.y b.x b.y=false) (w:World):Calls prog 78 #[T,a,b] w (Rt w (.agg #[T.B.x,T.B.y])):=by
 have cc0:=zJg T;have cc1:=zLn T
 go_enter func78,ntmps78
 go_wp2_with fail;refine qD4 fun W1 Bt Ba Bb Br hw=>?_;refine wp_loop_rounds 4 ?_;try rw [rounds_succ]
 have Ft:=Bt.f;have Fa:=Ba.f;have Fb:=Bb.f;have Fr:=Br.f;go_wp2_with fail;have g_tabr:=J4 Bt.cells Ba.cells Bb.cells Br.cells;refine rgn 11 (fun w2 hb=>?_);clear g_tabr;clear Ft Fa Fb Fr;obtain ⟨Bt,Ba,Bb,Br,hw,F_tabr⟩:=qX4 Bt Ba Bb Br hw hb;go_wp2_with fail;clear F_tabr;try rw [rounds_succ]
 have Ft:=Bt.f;have Fa:=Ba.f;have Fb:=Bb.f;have Fr:=Br.f;go_wp2_with fail;have g_tabr:=J4 Bt.cells Ba.cells Bb.cells Br.cells;refine rgn 11 (fun w3 hb=>?_);clear g_tabr;clear Ft Fa Fb Fr;obtain ⟨Bt,Ba,Bb,Br,hw,-⟩:=qX4 Bt Ba Bb Br hw hb;have Ft:=Bt.f;have Fa:=Ba.f;have Fb:=Bb.f;have Fr:=Br.f;go_wp2_with fail;clear Ft Fa Fb Fr;refine qK4 (cc1 _) Bt Ba Bb Br hw fun w4 Bt Ba Bb Br hw=>?_;have Ft:=Bt.f;have Fa:=Ba.f;have Fb:=Bb.f;have Fr:=Br.f;go_wp2_with fail;refine bodyPost_ret (v:=.agg #[T.B.x,T.B.y]) (by simp [results,results78,go_sem,Fr]) rfl ⟨rfl,by have hl:=hw.size;go_grown⟩
theorem far_21 (T:Tri3) (a b:Pt) (ha0:peqI T.A.x T.A.y a.x a.y=false) (hb0:peqI T.A.x T.A.y b.x b.y=true) (ha1:peqI T.B.x T.B.y a.x a.y=true) (w:World):Calls prog 78 #[T,a,b] w (Rt w (.agg #[T.C.x,T.C.y])):=by
 have cc0:=zJg T;have cc1:=zLn T
 go_enter func78,ntmps78
 go_wp2_with fail;refine qD4 fun W1 Bt Ba Bb Br hw=>?_;refine wp_loop_rounds 4 ?_;try rw [rounds_succ]
 have Ft:=Bt.f;have Fa:=Ba.f;have Fb:=Bb.f;have Fr:=Br.f;go_wp2_with fail;have g_tabr:=J4 Bt.cells Ba.cells Bb.cells Br.cells;refine rgn 11 (fun w2 hb=>?_);clear g_tabr;clear Ft Fa Fb Fr;obtain ⟨Bt,Ba,Bb,Br,hw,F_tabr⟩:=qX4 Bt Ba Bb Br hw hb;go_wp2_with fail;clear F_tabr;try rw [rounds_succ]
 have Ft:=Bt.f;have Fa:=Ba.f;have Fb:=Bb.f;have Fr:=Br.f;go_wp2_with fail;have g_tabr:=J4 Bt.cells Ba.cells Bb.cells Br.cells;refine rgn 11 (fun w3 hb=>?_);clear g_tabr;clear Ft Fa Fb Fr;obtain ⟨Bt,Ba,Bb,Br,hw,F_tabr⟩:=qX4 Bt Ba Bb Br hw hb;go_wp2_with fail;clear F_tabr;try rw [rounds_succ]
 have Ft:=Bt.f;have Fa:=Ba.f;have Fb:=Bb.f;have Fr:=Br.f;go_wp2_with fail;refine bodyPost_ret (v:=.agg #[T.C.x,T.C.y]) (by simp [results,results78,go_sem,Fr]) rfl ⟨rfl,by have hl:=hw.size;go_grown⟩
theorem far_22 (T:Tri3) (a b:Pt) (ha0:peqI T.A.x T.A.y a.x a.y=false) (hb0:peqI T.A.x T.A.y b.x b.y=true) (ha1:peqI T.B.x T.B.y a.x a.y=false) (hb1:peqI T.B.x T.B.y b.x b.y=true) (w:World):Calls prog 78 #[T,a,b] w (Rt w (.agg #[T.C.x,T.C.y])):=by
 have cc0:=zJg T;have cc1:=zLn T
 go_enter func78,ntmps78
 go_wp2_with fail;refine qD4 fun W1 Bt Ba Bb Br hw=>?_;refine wp_loop_rounds 4 ?_;try rw [rounds_succ]
 have Ft:=Bt.f;have Fa:=Ba.f;have Fb:=Bb.f;have Fr:=Br.f;go_wp2_with fail;have g_tabr:=J4 Bt.cells Ba.cells Bb.cells Br.cells;refine rgn 11 (fun w2 hb=>?_);clear g_tabr;clear Ft Fa Fb Fr;obtain ⟨Bt,Ba,Bb,Br,hw,F_tabr⟩:=qX4 Bt Ba Bb Br hw hb;go_wp2_with fail;clear F_tabr;try rw [rounds_succ]
 have Ft:=Bt.f;have Fa:=Ba.f;have Fb:=Bb.f;have Fr:=Br.f;go_wp2_with fail;have g_tabr:=J4 Bt.cells Ba.cells Bb.cells Br.cells;refine rgn 11 (fun w3 hb=>?_);clear g_tabr;clear Ft Fa Fb Fr;obtain ⟨Bt,Ba,Bb,Br,hw,F_tabr⟩:=qX4 Bt Ba Bb Br hw hb;go_wp2_with fail;clear F_tabr;try rw [rounds_succ]
 have Ft:=Bt.f;have Fa:=Ba.f;have Fb:=Bb.f;have Fr:=Br.f;go_wp2_with fail;refine bodyPost_ret (v:=.agg #[T.C.x,T.C.y]) (by simp [results,results78,go_sem,Fr]) rfl ⟨rfl,by have hl:=hw.size;go_grown⟩
theorem zC2 (T:Tri3) (a b:Pt) (w:World):Calls prog 78 #[T,a,b] w (Rt w (.agg #[.int .i64 (apx T a b).x,.int .i64 (apx T a b).y])):=by
 unfold apx;cases a0:peqI T.A.x T.A.y a.x a.y with
 | false=>
  cases b0:peqI T.A.x T.A.y b.x b.y with
  | false=>simpa using far_0 T a b a0 b0 w
  | true=>
   cases a1:peqI T.B.x T.B.y a.x a.y with
   | false=>
    cases b1:peqI T.B.x T.B.y b.x b.y with
    | false=>simpa using far_20 T a b a0 b0 a1 b1 w
    | true=>simpa using far_22 T a b a0 b0 a1 b1 w
   | true=>simpa using far_21 T a b a0 b0 a1 w
 | true=>
  cases a1:peqI T.B.x T.B.y a.x a.y with
  | false=>
   cases b1:peqI T.B.x T.B.y b.x b.y with
   | false=>simpa using far_10 T a b a0 a1 b1 w
   | true=>simpa using far_12 T a b a0 a1 b1 w
  | true=>simpa using far_11 T a b a0 a1 w
attribute [local go_sem] rmap_nil
theorem zDa (T:Tri3) (w:World):Calls prog 112 #[T] w (Rt w (.agg #[T.A.x,T.A.y,T.B.x,T.B.y,T.B.x,T.B.y,T.C.x,T.C.y,T.C.x,T.C.y,T.A.x,T.A.y])):=by
 go_enter func112,ntmps112
 go_wp2_with fail;refine bodyPost_ret (v:=.agg #[T.A.x,T.A.y,T.B.x,T.B.y,T.B.x,T.B.y,T.C.x,T.C.y,T.C.x,T.C.y,T.A.x,T.A.y]) (by simp [results,results112,go_sem]) rfl ⟨rfl,by go_grown⟩
theorem rleft_1 (mb b:Nat) (E:Es) (p q:Pt) (T:Tri3) (hg:getE E (p,q)=some T) (hk:okW (p,q)) (w:World) (Bm:Box w mb [.map (some b)] 90) (Hm:HoldsMap eW eT okW w b E):Calls prog 77 #[pt0 mb,p,q] w (Rt w (.tuple #[T,.bool true])):=by
 go_enter func77,ntmps77
 go_wp2_with fail;refine qD3 fun W1 Bp Bq Br hw=>?_;have BM:Box W1 (mb) [.map (some b)] 90:=Bm.ee hw;have hl:∀ d os,(Instr.lookup 88 (.map (some b)) (.agg #[p.x,p.y,q.x,q.y]) true).run prog (grow (redrawn W1 d) os)=.ok (.tuple #[T,.bool true]) (grow (redrawn W1 d) os):=fun d os=>((Hm.ee hw).ext (below_regrown W1 d os) rfl).look_some kvR zAy hk hg;clear hg;have g_pqrM:=J4 Bp.cells Bq.cells Br.cells BM.cells;refine rgl 11 8 19 (fun w2 bks hb h1b h2b Bs=>?_);have lps:=Bp.lt;have lqs:=Bq.lt;have lrs:=Br.lt;have lMs:=BM.lt;have hw0z:=hw.size;clear g_pqrM;obtain ⟨Bp,Bq,Br,BM,hw,-⟩:=qX4 Bp Bq Br BM hw hb;have fs:=h1b;have hwz:w.heap.size≤W1.heap.size:=hw0z;clear hb h1b h2b hw0z;simp only [Act.put];clear hl;have Fp:=Bp.f;have Fq:=Bq.f;have Fr:=Br.f;have FM:=BM.f;have Fs:=Bs.f;go_wp2_with fail;refine bodyPost_ret (v:=.tuple #[T,.bool true]) (by simp [results,results77,go_sem,Fr]) rfl ⟨rfl,by have hl:=hw.size;go_grown⟩
theorem rleft_0 (mb b:Nat) (E:Es) (p q:Pt) (hg:getE E (p,q)=none) (hk:okW (p,q)) (w:World) (Bm:Box w mb [.map (some b)] 90) (Hm:HoldsMap eW eT okW w b E):Calls prog 77 #[pt0 mb,p,q] w (Rt w (.tuple #[.agg #[(),(),(),(),(),()],.bool false])):=by
 go_enter func77,ntmps77
 go_wp2_with fail;refine qD3 fun W1 Bp Bq Br hw=>?_;have BM:Box W1 (mb) [.map (some b)] 90:=Bm.ee hw;have hl:∀ d os,(Instr.lookup 88 (.map (some b)) (.agg #[p.x,p.y,q.x,q.y]) true).run prog (grow (redrawn W1 d) os)=.ok (.tuple #[.agg #[(),(),(),(),(),()],.bool false]) (grow (redrawn W1 d) os):=fun d os=>((Hm.ee hw).ext (below_regrown W1 d os) rfl).look_none kvR zAy hk hg;clear hg;have g_pqrM:=J4 Bp.cells Bq.cells Br.cells BM.cells;refine rgl 11 8 19 (fun w2 bks hb h1b h2b Bs=>?_);have lps:=Bp.lt;have lqs:=Bq.lt;have lrs:=Br.lt;have lMs:=BM.lt;have hw0z:=hw.size;clear g_pqrM;obtain ⟨Bp,Bq,Br,BM,hw,-⟩:=qX4 Bp Bq Br BM hw hb;have fs:=h1b;have hwz:w.heap.size≤W1.heap.size:=hw0z;clear hb h1b h2b hw0z;simp only [Act.put];clear hl;have Fp:=Bp.f;have Fq:=Bq.f;have Fr:=Br.f;have FM:=BM.f;have Fs:=Bs.f;go_wp2_with fail;refine bodyPost_ret (v:=.tuple #[.agg #[(),(),(),(),(),()],.bool false]) (by simp [results,results77,go_sem,Fr]) rfl ⟨rfl,by have hl:=hw.size;go_grown⟩
theorem zAj (mb b:Nat) (E:Es) (p q:Pt) (hk:okW (p,q)) (w:World) (Bm:Box w mb [.map (some b)] 90) (Hm:HoldsMap eW eT okW w b E):Calls prog 77 #[pt0 mb,p,q] w (Rt w (.tuple #[eT (lftE E p q).1,.bool (lftE E p q).2])):=by
 cases h:getE E (p,q) with
 | none=>rw [lftE_none h];exact rleft_0 mb b E p q h hk w Bm Hm
 | some t=>rw [lftE_some h];exact rleft_1 mb b E p q t h hk w Bm Hm
theorem toExtD {P : Program} {f : FuncId} {args : Array Value} {v : Value} {W : World} (c : ∀ d os, Calls P f args (grow (redrawn W d) os) fun e w' => e = .returned v ∧ Below (grow (redrawn W d) os).heap.size (grow (redrawn W d) os) w') :
    ∀ d os,Calls P f args (grow (redrawn W d) os) fun e w'=>e=.returned v∧Ext (grow (redrawn W d) os) w':=c
end
end Go.Proofs.YtogffkimgmlilaaGreat
namespace Go.Proofs.YtogffkimgmlilaaGreat.Dr
open Go.RowKit Go.Sort
section
variable {P:Program} {ops:Array Oper} {md:Region.Mode} {C:World→Prop}
def Ext (w w':World):Prop:=Below w w w'∧w.drawn≤w'.drawn
def rUpon (P:Program) (w:World) (v:Value):Result Next→Prop
 | .ok (.value u) w'=>w'=w∧u=v
 | .ok .skip w'=>w'=w∧v=undef
 | .ok (.enter f args) w'=>w'=w∧Calls P f args w (fun e w''=>e=.returned v∧Ext w w'')
 | _=>False
def rAt (P:Program) (o:Oper) (a:Act) (w:World) (v:Value):Prop:=rUpon P w v ((execOp a.eval o).run P w)
def rOper (P:Program) (o:Oper) (a:Act) (C:World→Prop) (next:Act→Prop):Prop:=∃ v,(∀ w,C w→rAt P o a w v)∧next (a.put o.dst v)
def rWalk (P:Program) (ops:Array Oper) (C:World→Prop) (Q:Act→Prop):List Oper→Act→Prop
 | [],a=>Q a
 | o :: rest,a=>if Region.wanted o (yielded ops a.tmps) then rOper P o a C (rWalk P ops C Q rest) else rWalk P ops C Q rest (a.put o.dst undef)
theorem rWalk_nil {Q:Act→Prop} {a:Act} (h:Q a):rWalk P ops C Q [] a:=h
theorem rWalk_step {Q:Act→Prop} {a:Act} {o:Oper} {rest:List Oper} (h:∀ K:Act→Prop,(∀ a,rWalk P ops C Q rest a→K a)→if Region.wanted o (yielded ops a.tmps) then rOper P o a C K else K (a.put o.dst undef)):rWalk P ops C Q (o :: rest) a:=
 h _ (fun _ h=>h)
def rYields (P:Program) (ops:Array Oper) (C:World→Prop) (o:Oper) (v:Value) (a:Act):Prop:=
 (Region.wanted o (yielded ops a.tmps)=true∧∀ w,C w→rAt P o a w v)∨(Region.wanted o (yielded ops a.tmps)=false∧v=undef)
theorem rYields.same {o:Oper} {v:Value} {a a':Act} (hy:rYields P ops C o v a) (he:execOp a'.eval o=execOp a.eval o) (hw:Region.wanted o (yielded ops a'.tmps)=Region.wanted o (yielded ops a.tmps)):rYields P ops C o v a':=by
 unfold rYields rAt at *;rw [he,hw];exact hy
theorem rYields.of_walk {o:Oper} {rest:List Oper} {Q:Act→Prop} {a:Act} (h:rWalk P ops C Q (o :: rest) a):∃ v,rYields P ops C o v a∧rWalk P ops C Q rest (a.put o.dst v):=by
 simp only [rWalk] at h;cases hw:Region.wanted o (yielded ops a.tmps) with
 | true=>
  rw [hw,jAc rfl] at h;obtain ⟨v,h1,h2⟩:=h;exact ⟨v,.inl ⟨hw,h1⟩,h2⟩
 | false=>
  rw [hw,jA0 (by simp)] at h;exact ⟨undef,.inr ⟨hw,rfl⟩,h⟩
def rAny (P:Program) (md:Region.Mode) (ops:Array Oper) (C:World→Prop) (n:Nat) (L:Array Bool→Act→Prop):Nat→Array Bool→Act→Prop
 | 0,listed,a=>L listed a
 | f+1,listed,a=>Region.ready md ops listed≠[] ∧
  ∀ i∈Region.ready md ops listed,i < n∧∃ o v,ops[i]? = some o∧rYields P ops C o v a∧rAny P md ops C n L f (listed.setIfInBounds i true) (a.put o.dst v)
def TailWaits (md:Region.Mode) (ops:Array Oper) (n:Nat) (listed:Array Bool):Prop:=
 ∀ i,i < n→listed.getD i true=false→∀ t,n≤t→t ∉ Region.ready md ops listed
theorem zEb {n i : Nat} {oi : Oper} {v : Value} {L : Array Bool → Act → Prop} (hi : ops[i]? = some oi) (hsel : ∀ (j : Nat) (o : Oper) cs b, ops[j]? = some o → o.op ≠ .select cs b)
    (hin:i < n) (Inv:Array Bool→Prop) (hinv:∀ listed j,Inv listed→j∈Region.ready md ops listed→j < n→Inv (listed.setIfInBounds j true))
    (htail:∀ listed,Inv listed→TailWaits md ops n listed)
    (hdone:∀ listed a,L listed a→∀ j∈Region.ready md ops listed,n≤j) :
    ∀ (f:Nat) (listed:Array Bool) (a:Act),Inv listed →
     (∀ j oj,ops[j]? = some oj→j≠i→listed.getD j true=false→(∀ e∈oj.after,Region.binds md e=true→e.on≠i)→oi.apart ops oj=true) →
     i∈Region.ready md ops listed→rYields P ops C oi v a →
     rAny P md ops C n L f (listed.setIfInBounds i true) (a.put oi.dst v)→rAny P md ops C n L (f+1) listed a:=by
 intro f;induction f with
 | zero=>
  intro listed a inv _ hr hy H;have hun:=(mem_ready.1 hr).1;refine ⟨fun h=>(by rw [h] at hr;cases hr),fun j hj=>?_⟩;have hjn:j < n:=by
   rcases jCm j n with h | h
   ·exact h
   ·exact absurd hj (htail _ inv i hin hun j h)
  by_cases hji:j=i
  ·subst hji;exact ⟨hjn,oi,v,hi,hy,H⟩
  ·have:=hdone _ _ H j (ready_mono hj hji);omega
 | succ f ih=>
  intro listed a inv hfree hr hy H;have hun:=(mem_ready.1 hr).1;refine ⟨fun h=>(by rw [h] at hr;cases hr),fun j hj=>?_⟩;have hjn:j < n:=by
   rcases jCm j n with h | h
   ·exact h
   ·exact absurd hj (htail _ inv i hin hun j h)
  by_cases hji:j=i
  ·subst hji;exact ⟨hjn,oi,v,hi,hy,H⟩
  ·obtain ⟨_,oj,u,hoj,hyj,hK⟩:=H.2 j (ready_mono hj hji);obtain ⟨hjun,oj',hoj',hall⟩:=mem_ready.1 hj;have hoo:oj'=oj:=jAl (hoj'.symm.trans hoj);subst hoo;have hnot:∀ e∈oj'.after,Region.binds md e=true→e.on≠i:=fun e he hb heq=>by
    have h1:=hall e he hb;rw [heq,getD_both hun] at h1;cases h1
   obtain ⟨h1,h2,h3⟩:=Oper.apart_spec (hfree j oj' hoj hji hjun hnot);have hyj':rYields P ops C oj' u a:=hyj.same (execOp_put oj' (fun cs b=>hsel j oj' cs b hoj) a oi.dst v h1).symm (wanted_put oj' a oi.dst v h1).symm;have hyi':rYields P ops C oi v (a.put oj'.dst u):=hy.same (execOp_put oi (fun cs b=>hsel i oi cs b hi) a oj'.dst u h3) (wanted_put oi a oj'.dst u h3);refine ⟨hjn,oj',u,hoj,hyj',?_⟩;refine ih (listed.setIfInBounds j true) _ (hinv _ _ inv hj hjn) (fun k ok hk hki hun' hno=>?_) (ready_mono hr (Ne.symm hji)) hyi' ?_
   ·refine hfree k ok hk hki ?_ hno;by_cases hjk:j=k
    ·subst hjk;exact hjun
    ·rw [getD_set_ne true hjk] at hun';exact hun'
   ·rw [jBz _ _ hji,←Act.put_comm a v u h2];exact hK
def orderB (md:Region.Mode) (ops:Array Oper) (n g:Nat):List Nat→Array Bool→Bool
 | [],listed=>Region.seqB md ops g n listed
 | k :: is,listed=>decide (k < n) && (Region.ready md ops listed).contains k && Region.free md ops listed k && orderB md ops n g is (listed.setIfInBounds k true)
theorem zBx {n g : Nat} {Lq : Act → Prop} (hsel : Region.noSelect ops = true) (Inv : Array Bool → Prop)
    (hinv:∀ listed j,Inv listed→j∈Region.ready md ops listed→j < n→Inv (listed.setIfInBounds j true)) (htail:∀ listed,Inv listed→TailWaits md ops n listed) :
    ∀ (is:List Nat) (l:List Oper) (listed:Array Bool) (a:Act),is.map (fun i=>ops[i]?)=l.map some→Inv listed→orderB md ops n g is listed=true→rWalk P ops C Lq l a →
     rAny P md ops C n (fun listed' a'=>Region.seqB md ops g n listed'=true∧Lq a') is.length listed a
 | [],[],listed,a,_,_,hB,h=>⟨hB,h⟩
 | [],_ :: _,_,_,hl,_,_,_=>by cases hl
 | _ :: _,[],_,_,hl,_,_,_=>by cases hl
 | k :: is,o :: l,listed,a,hl,inv,hB,h=>by
  simp only [jAv,jDy] at hl;obtain ⟨h0,hl⟩:=hl;simp only [orderB,jA3,jA4] at hB;obtain ⟨⟨⟨hkn,hr⟩,hf⟩,hB'⟩:=hB;have hr':k∈Region.ready md ops listed:=by simpa using hr
  obtain ⟨v,hy,hK⟩:=rYields.of_walk h;exact zEb h0 (Region.noSelect_spec hsel) hkn Inv hinv htail (fun listed' a' hL=>seqB_ready hL.1) is.length listed a inv (Region.free_spec h0 hf) hr' hy
   (zBx hsel Inv hinv htail is l _ _ hl (hinv _ _ inv hr' hkn) hB' hK)
theorem Ext.trans {a b c:World} (h:Ext a b) (k:Ext b c):Ext a c:=⟨Below.trans h.1 (Below.mono k.1 h.1.size),jAp h.2 k.2⟩
theorem zB0 {i:Nat} {o:Oper} {v:Value} {a:Act} {K:Act→World→Prop} {Q:Exit→Act→World→Prop} {w:World} (hi:ops[i]? = some o) (hC:C w) (hy:rYields P ops C o v a) (h:∀ w',Ext w w'→K (a.put o.dst v) w'):wpOp P ops Q i K a w:=by
 have hrefl:Ext w w:=⟨Below.refl _ _,jA9 _⟩;unfold wpOp;simp only [hi];rcases hy with ⟨hw,hv⟩ | ⟨hw,rfl⟩
 ·rw [jAc hw];refine .inl ?_;have h3:=hv w hC;unfold rAt at h3;unfold Oper.wp;generalize (execOp a.eval o).run P w=r at *
  cases r with
  | ok n w'=>
   cases n <;> simp only [rUpon] at h3 <;> simp only [Oper.upon]
   case value u=>obtain ⟨e1,e2⟩:=h3;rw [e1,e2];exact h _ hrefl
   case skip=>obtain ⟨e1,e2⟩:=h3;rw [e1,←e2];exact h _ hrefl
   case enter f args=>
    obtain ⟨e1,hc⟩:=h3;rw [e1];exact hc.mono fun e w'' ⟨he,hw''⟩=>by subst he;exact h _ hw''
  | halt x w'=>simp only [rUpon] at h3
 ·rw [hw,jA0 (by simp)];exact h _ hrefl
theorem zBh {n g : Nat} {Q : Exit → Act → World → Prop} {Lq : Act → Prop} {l : List Oper} {dst : Option Tmp} {u : Value} {D : World → Prop} (hsel : Region.noSelect ops = true)
    (hg:l.length=g) (hl:∀ j,l[j]? = ops[n+j]?) (hD:∀ w,D w→C w) (hDe:∀ w w',D w→Ext w w'→D w')
    (J:Nat→Prop) (hap:∀ i o,i < n→¬ J i→ops[i]? = some o→(∀ d,dst=some d→d ∉ o.looksAt ops)∧(∀ d,dst=some d→o.dst≠some d))
    (hQ:∀ a w,D w→Lq a→wpList P ops Q l (a.put dst u) w) :
    ∀ (f:Nat) (listed:Array Bool) (a:Act) (w:World),D w→(∀ i,J i→listed.getD i true=true) →
     rAny P md ops C n (fun listed' a'=>Region.seqB md ops g n listed'=true∧Lq a') f listed a→wpAny P md ops Q (f+g) listed (a.put dst u) w
 | 0,listed,a,w,hw,_,h=>by
  rw [jCa];subst hg;exact wpAny_of_seq l n listed _ w hl h.1 (hQ a w hw h.2)
 | f+1,listed,a,w,hw,hJ,h=>by
  rw [show f+1+g=(f+g)+1 by omega];refine ⟨fun h0=>absurd h0 h.1,fun i hi=>?_⟩;obtain ⟨hin,o,v,ho,hy,hK⟩:=h.2 i hi;have hiun:=(mem_ready.1 hi).1;have hnJ:¬ J i:=fun hj=>by rw [hJ i hj] at hiun;cases hiun
  obtain ⟨h1,h2⟩:=hap i o hin hnJ ho;have hy':rYields P ops C o v (a.put dst u):=hy.same (execOp_put o (fun cs b=>Region.noSelect_spec hsel i o cs b ho) a dst u h1) (wanted_put o a dst u h1);refine zB0 ho (hD w hw) hy' fun w' hw'=>?_;rw [Act.put_comm a u v h2];refine zBh hsel hg hl hD hDe J hap hQ f _ _ w' (hDe _ _ hw hw') (fun k hk=>?_) hK;by_cases hik:i=k
  ·subst hik;exact absurd hk hnJ
  ·rw [getD_set_ne true hik];exact hJ k hk
def plainB (md:Region.Mode) (ops:Array Oper) (n:Nat):Bool:=
 Region.noSelect ops && decide (n < ops.size) && Region.sinkB md ops n && Region.chainB md ops n && orderB md ops n (ops.size - n) (List.range n) (Array.replicate ops.size false)
theorem headInv0 {n:Nat}:HeadInv md ops n (Array.replicate ops.size false):=
 ⟨by simp,fun j oj _ hl=>(by rw [getD_replicate_false] at hl;cases hl),fun t _ ht=>getD_in (by simpa using ht) (getD_replicate_false _ _)⟩
theorem wp_region_tail {id:Nat} {Q:Exit→Act→World→Prop} {a:Act} {w:World} {l:List Oper} (n:Nat) (hm:P.follows .mixedOrders=true) (hB:plainB .any l.toArray n=true) (hC:∀ w',Below w w w'→C w') (h:rWalk P l.toArray C (fun a'=>∀ w',Ext w w'→wpList P l.toArray Q (l.drop n) a' w') (l.take n) a):(Code.region id l.toArray true).wp P Q a w:=by
 simp only [plainB,jA3,jA4] at hB;obtain ⟨⟨⟨⟨hsel,hn⟩,hs⟩,hc⟩,ho⟩:=hB;have hn':n < l.length:=by simpa using hn
 have hmap:(List.range n).map (fun i=>l.toArray[i]?)=(l.take n).map some:=by
  apply jD4;intro j;simp only [jDj,jBw];by_cases hj:j < n
  ·simp [hj,show j < l.length by omega]
  ·simp [hj]
 have H:=zBx (md:=.any) (g:=l.toArray.size - n) hsel (HeadInv .any l.toArray n) (fun listed j inv hj hjn=>inv.set hj hjn) (fun listed inv i hi hun=>tail_waits hs hc hn inv _ i rfl hi hun)
  (List.range n) (l.take n) _ a hmap headInv0 ho h
 refine wp_region_any hm ?_;have:=zBh (md:=.any) (Q:=Q) (l:=l.drop n) (dst:=none) (u:=undef) (D:=fun w'=>Ext w w') hsel (by simp) (fun j=>by simp [jCr])
  (fun w' h=>hC w' h.1) (fun a b ha hb=>Ext.trans (a:=w) ha hb) (fun _=>False) (fun i o _ _ _=>⟨fun d hd=>(by cases hd),fun d hd=>(by cases hd)⟩)
  (fun a' w' hw' hl=>hl w' hw') _ _ _ { w with drawn:=w.drawn+1 } ⟨⟨rfl,rfl,rfl,jA9 _,fun _ _=>rfl⟩,by simp⟩ (fun i hi=>hi.elim) H
 rw [jDv,show n+(l.toArray.size - n)=l.toArray.size by omega] at this;exact this
end
theorem toExt {P:Program} {f:FuncId} {args:Array Value} {v:Value} (c:∀ w:World,Calls P f args w fun e w'=>e=.returned v∧Ext w w'):∀ w:World,Calls P f args w fun e w'=>e=.returned v∧Ext w w':=c
theorem Ext.grown {w w':World} (h:Ext w w'):∃ q os,w'=grow (w.drewN q) os:=by
 obtain ⟨p,hp⟩:=regrown_of_below h.1;refine ⟨p.d - w.drawn,p.os,?_⟩;have h2:=h.2;have e:w'.drawn=p.d:=by rw [hp];rfl
 rw [e] at h2;rw [hp];have:redrawn w p.d=w.drewN (p.d - w.drawn):=by unfold redrawn World.drewN;congr 1;omega
 rw [this]
end Go.Proofs.YtogffkimgmlilaaGreat.Dr
