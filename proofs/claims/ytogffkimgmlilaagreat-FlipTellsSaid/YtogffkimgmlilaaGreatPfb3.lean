/- Put together: Sto, ExA, Post, ExB, ExC, Many. -/
import Derived.Test.YtogffkimgmlilaaGreatPfb2
import Derived.BigQuiet
import Derived.Test.YtogffkimgmlilaaGreatPfb1
import Derived.WalkSpells
import Derived.WalkLawsBesides
import Derived.Laws.Externs
import Derived.Deep.QuietTactic
import Derived.ProofKit
import Derived.ChangeSame
import Derived.RegionTactic
set_option maxRecDepth 100000
set_option maxHeartbeats 8000000
set_option linter.all false
namespace Go.Proofs.YtogffkimgmlilaaGreat
open _root_.Go.Proofs.Tryz
section
open Go.RowKit Go.Sort
def upd (b k:Nat) (cs:List Value) (i:Nat) (v:Value):List Value:=if k=b then cs.set i v else cs
theorem upd_s {b:Nat} {cs:List Value} {i:Nat} {v:Value}:upd b b cs i v=cs.set i v:=jAc rfl
theorem upd_n {b k:Nat} {cs:List Value} {i:Nat} {v:Value} (h:k≠b):upd b k cs i v=cs:=jA0 h
theorem Box.q {w:World} {b k i:Nat} {cs:List Value} {T:TypeId} {v:Value} (h:Box w b cs T):Box (w.setCell ⟨k,i,none⟩ v) b (upd b k cs i v) T:=by
 by_cases e:k=b
 ·subst e;rw [upd_s];exact h.set i v
 ·rw [upd_n e];exact h.set_ne ⟨k,i,none⟩ v e
theorem Box.qd {w:World} {b:Nat} {cs:List Value} {T:TypeId} (h:Box w b cs T):Box w.drew b cs T:=h
theorem Box.to {w:World} {b:Nat} {cs cs':List Value} {T:TypeId} (h:Box w b cs T) (e:cs=cs'):Box w b cs' T:=e▸h
theorem sto {w W V : World} {b : Nat} {cs cs' : List Value} {T : TypeId} (_ : Box w b cs T) (hW : W = V) (h : Box V b cs' T := by
     apply Box.to
     ·repeat (first | with_reducible assumption | with_reducible apply Box.q | with_reducible apply Box.qd)
     ·simp (disch:=first | assumption | omega) only [upd_s,upd_n,jF1,jDq];try rfl):Box W b cs' T:=hW▸h
theorem stw {w w' W V:World} (hw:Below w w w') (hW:W=V) (h:w.heap.size≤w'.heap.size→Below w w V:=by intro hl;go_grown):Below w w W:=hW▸h hw.size
end
section
open Go.RowKit
attribute [local go_sem] rOper rAt rUpon cell_set sg_i64 sg_u64 alloc_cell alloc_frozen
theorem inGrid_any (n:Int) (w:World):Calls prog 158 #[n] w fun e w'=>e=.returned (.bool (inG n))∧w=w':=by
 go_enter func158,ntmps158
 go_wp2;all_goals go_ret
 all_goals exact ⟨zB9 (by simp [inG];omega),rfl⟩
theorem zHe (a b:Int) (w:World):Calls prog 89 #[a,b] w fun e w'=>e=.returned (.int .i64 (cmpN a b))∧w=w':=by
 go_enter func89,ntmps89
 go_wp2;all_goals go_ret
 ·exact ⟨zAp (by unfold cmpN sgn;rw [jAc (by omega)]),rfl⟩
 ·exact ⟨zAp (by unfold cmpN sgn;rw [jA0 (by omega),jAc (by omega)]),rfl⟩
 ·exact ⟨zAp (by unfold cmpN sgn;rw [jA0 (by omega),jA0 (by omega)]),rfl⟩
theorem zA2 (p:Pt) (w:World):Calls prog 118 #[p] w (Rt w (.bool (vld p))):=by
 have hv:vld p=(inG p.x && inG p.y):=rfl;have Hv:=hdd hv;clear hv
 go_enter func118,ntmps118
 go_wp2_with (go_at_call 158;refine (inGrid_any _ _).mono ?_;rintro e w' ⟨rfl,rfl⟩)
 all_goals go_returns
 all_goals exact ⟨zB9 (by rw [Hv.out];simp [*]),by go_grown⟩
def peqI (a b c d:Int):Bool:=decide (a=c) && decide (b=d)
theorem pt_eql (a b c d:Int) (w:World):(binOp .eql 54 (.agg #[a,b]) (.agg #[c,d])).run prog w=.ok (.bool (peqI a b c d)) w:=by
 unfold peqI;by_cases h1:a=c <;> by_cases h2:b=d <;> simp [go_sem,h1,h2]
theorem pt_neq (a b c d:Int) (w:World):(binOp .neq 54 (.agg #[a,b]) (.agg #[c,d])).run prog w=.ok (.bool (!peqI a b c d)) w:=by
 unfold peqI;by_cases h1:a=c <;> by_cases h2:b=d <;> simp [go_sem,h1,h2]
theorem zC9 {a b c d:Int}:peqI a b c d=true↔a=c∧b=d:=by simp [peqI]
end
section
open Go.RowKit Go.WideShapes Go.ChangeShapes
theorem Tryz.own:ownKnob prog.godebug=none:=by kernel_rfl
theorem zA7 {P:Program} {ops:Array Oper} {C:World→Prop} {Q:Act→Prop} {a:Act} {o:Oper} {rest:List Oper} (hg:Region.wanted o (yielded ops a.tmps)=false) (h:rWalk P ops C Q rest (a.put o.dst undef)):rWalk P ops C Q (o :: rest) a:=by
 simp only [rWalk];rw [hg,jA0 (by simp)];exact h
theorem toExt {P:Program} {f:FuncId} {args:Array Value} {v:Value} (c:∀ w:World,Calls P f args w fun e w'=>e=.returned v∧Below w w w'):∀ w:World,Calls P f args w fun e w'=>e=.returned v∧Ext w w':=c
section
variable {H:Type} {enc:TypeId×Value→H} {P:Program}
theorem post_of_below {f : Func} {s : ChangeSpec} {apart fresh handsOn again : Bool} {W W' : World} {args : Array Value} {v : Value} {ds gs : List (DataW H)} {before pa pv : List MemPlace}
    (hW:DataW.Whole enc P f.params.toList s.vars apart W args.toList ds gs before)
    (hres:∀ (b:Nat) (sp:Nat→Bool) (hd:Bool),DataW.TrodAll enc P W' b sp hd f.resultTypes.toList (v.resultList f.resultTypes.size) (s.fn H (ds ++ gs)).results [])
    (hargs:∀ sp:Nat→Bool,(∀ p∈before,sp p.block=true)→DataW.TrodAll enc P W' 0 sp true f.params.toList args.toList (s.fn H (ds ++ gs)).args pa)
    (hvars:∀ sp:Nat→Bool,(∀ p∈before,sp p.block=true)→DataW.TrodVars enc P W' sp s.vars (s.fn H (ds ++ gs)).vars pv)
    (hps:before=pa ++ pv) (hb:Below W W W')
    (hok:∀ (j:Nat) (t:TypeId) (r:Value),f.resultTypes[j]? = some t→(v.resultList f.resultTypes.size)[j]? = some r→Value.okWide P W' .any 0 t r) :
    s.post enc P f apart fresh handsOn again W args v W':=by
 have hlt:∀ p∈before,p.block < W.heap.size:=fun p hp=>hW.lt p hp;have hold:∀ p∈before,(fun b=>decide (b < W.heap.size)) p.block=true:=fun p hp=>by simpa using hlt p hp
 refine ⟨ds,gs,before,[],pa,pv,hW,hres _ _ _,hargs _ hold,hvars _ hold,World.keptBut_mono (fun p hp=>⟨hp,?_⟩) (hb.frame (· ∈ before)),fun _=>?_⟩
 ·rw [hps,jAg] at hp;exact Or.inr hp
 ·obtain ⟨_,_,_,_,_,hz,hn⟩:=hW;refine ⟨hok,_,_,([] ++ pa) ++ pv,⟨[] ++ pa,pv,trodAll_append (hargs _ (fun _ _=>rfl)) (hres _ _ _),hvars _ (fun _ _=>rfl),rfl,?_,?_⟩,?_⟩
  ·intro b off hp;have hin:MemPlace.cell b off∈before:=by rw [hps];simpa using hp
   rw [hb.frozen (hlt _ hin)];exact hz b off hin
  ·intro ha;have:=hn ha;rw [hps] at this
   simpa using this
  ·intro p hp _;rw [hps]
   simpa using hp
end
open Go.RowKit Go.Sort in
theorem toExtQ {P:Program} {f:FuncId} {args:Array Value} {v:Value} {W:World} (c:∀ d os,Calls P f args (grow (redrawn W d) os) fun e w'=>e=.returned v∧Below (grow (redrawn W d) os).heap.size (grow (redrawn W d) os) w'):∀ d os,Calls P f args (grow (redrawn W d) os) fun e w'=>e=.returned v∧Ext (grow (redrawn W d) os) w':=c
open Go.RowKit Go.Sort in
theorem wkx {P:Program} {ops:Array Oper} {A:Act} {R:Act→Prop} {C:World→Prop} {l:List Oper} {a:Act} (k:R A) (h:rWalk P ops C (fun a'=>a'=A) l a:=by
 repeat (first | (refine rWalk_skip (Eq.refl false) ?_;simp only [Act.put,sT2,sT1,sT0]) | (refine rWalk_step (fun K hK=>?_);go_simp;first | (refine hK _ ?_;clear hK K) | (apply Exists.intro;refine ⟨fun _=>?_,hK _ ?_⟩;(first | with_reducible exact toExt (by assumption) _ | with_reducible exact toExtQ (by assumption) _ _);clear hK K)))
 exact rWalk_nil rfl):rWalk P ops C R l a:=by
 have aux:∀ (L:List Oper) (b:Act) (C:World→Prop),rWalk P ops C (fun a'=>a'=A) L b→rWalk P ops C R L b:=by
  intro L;induction L with
  | nil=>intro b C h;simp only [rWalk] at h ⊢;rw [h];exact k
  | cons o rest ih=>
   intro b C h;simp only [rWalk] at h ⊢;split
   ·rename_i hw
    rw [jAc hw] at h;obtain ⟨v,h1,h2⟩:=h;exact ⟨v,h1,ih _ _ h2⟩
   ·rename_i hw
    rw [jA0 hw] at h;exact ih _ _ h
 exact aux _ _ _ h
end
section
open Go.RowKit Go.Sort
attribute [local go_sem] rOper rAt rUpon cell_set sg_i64 sg_u64 alloc_cell alloc_frozen
attribute [local irreducible] rWalk
theorem zAu (p q:Pt) (w:World):Calls prog 55 #[p,q] w (Rt w (.int .i64 (cmpP p q))):=by
 by_cases h:p.x=q.x
 ·have e1:(p.x != q.x)=false:=by simp [h]
  have e2:cmpP p q=cmpN p.y q.y:=by unfold cmpP;rw [jAc h]
  rw [e2];clear e2 h
  go_enter func55,ntmps55
  go_wp2_with (go_at_call 89;refine (zHe _ _ _).mono ?_;rintro e w' ⟨rfl,rfl⟩)
  go_returns
  exact ⟨rfl,by go_grown⟩
 ·have e1:(p.x != q.x)=true:=by simp [h]
  have e2:cmpP p q=cmpN p.x q.x:=by unfold cmpP;rw [jA0 h]
  rw [e2];clear e2 h
  go_enter func55,ntmps55
  go_wp2_with (go_at_call 89;refine (zHe _ _ _).mono ?_;rintro e w' ⟨rfl,rfl⟩)
  go_returns
  exact ⟨rfl,by go_grown⟩
def way (a b:Pt):Pt:=⟨b.x - a.x,b.y - a.y⟩
def sm (n:Int):Prop := -16777215≤n∧n≤16777215
def smP (p:Pt):Prop:=sm p.x∧sm p.y
theorem zE0 {a b:Pt} (ha:vld a=true) (hb:vld b=true):smP (way a b):=by
 rw [zAm] at ha hb;unfold smP sm way;simp only;omega
theorem zGo (a b:Pt) (ha:vld a=true) (hb:vld b=true) (w:World):Calls prog 173 #[a,b] w (Rt w (.agg #[.int .i64 (way a b).x,.int .i64 (way a b).y])):=by
 rw [zAm] at ha hb;have x1:wrap64 (b.x - a.x)=(way a b).x:=by rw [w64];unfold way;simp only;omega
 have y1:wrap64 (b.y - a.y)=(way a b).y:=by rw [w64];unfold way;simp only;omega
 have X:=hdd x1;have Y:=hdd y1;clear x1 y1 ha hb;generalize (way a b).x=u at *
 generalize (way a b).y=v at *
 go_enter func173,ntmps173
 go_wp2;refine bodyPost_ret (v:=.agg #[.int .i64 u,.int .i64 v]) (by simp [results,results173,go_sem,X.out,Y.out]) rfl ⟨rfl,by go_grown⟩
theorem zBi {a b:Int} (ha:sm a) (hb:sm b) : -281474943156225≤a * b∧a * b≤281474943156225:=by
 unfold sm at ha hb;have h1:a.natAbs≤16777215:=by omega
 have h2:b.natAbs≤16777215:=by omega
 have h3:=jF5 h1 h2;rw [←Int.natAbs_mul] at h3;generalize a * b=p at *
 omega
theorem zD7 (a:Int):0≤a * a:=by
 rcases jDp 0 a with h | h
 ·exact jA2 h h
 ·exact jBr h h
def cr (u v:Pt):Int:=u.x * v.y - u.y * v.x
def ht (u:Pt):Int:=u.x * u.x+u.y * u.y
theorem cr_bd {u v:Pt} (hu:smP u) (hv:smP v) : -562949886312450≤cr u v∧cr u v≤562949886312450:=by
 have h1:=zBi hu.1 hv.2;have h2:=zBi hu.2 hv.1;unfold cr;omega
theorem ht_bd {u:Pt} (hu:smP u):0≤ht u∧ht u≤562949886312450:=by
 have h1:=zBi hu.1 hu.1;have h2:=zBi hu.2 hu.2;have h3:=zD7 u.x;have h4:=zD7 u.y;unfold ht;omega
theorem zFw (u v:Pt) (hu:smP u) (hv:smP v) (w:World):Calls prog 172 #[u,v] w (Rt w (.int .i64 (cr u v))):=by
 have h1:=zBi hu.1 hv.2;have h2:=zBi hu.2 hv.1;have e:wrap64 (wrap64 (u.x * v.y) - wrap64 (u.y * v.x))=cr u v:=by
  simp only [w64];unfold cr;generalize u.x * v.y=p at *
  generalize u.y * v.x=q at *
  omega
 have E:=hdd e;clear e h1 h2 hu hv
 go_enter func172,ntmps172
 go_wp2
 go_ret
 exact ⟨zAp (by simpa using E.out),by go_grown⟩
theorem zGg (u:Pt) (hu:smP u) (w:World):Calls prog 178 #[u] w (Rt w (.int .i64 (ht u))):=by
 have h1:=zBi hu.1 hu.1;have h2:=zBi hu.2 hu.2;have e:wrap64 (wrap64 (u.x * u.x)+wrap64 (u.y * u.y))=ht u:=by
  simp only [w64];unfold ht;generalize u.x * u.x=p at *
  generalize u.y * u.y=q at *
  omega
 have E:=hdd e;clear e h1 h2 hu
 go_enter func178,ntmps178
 go_wp2
 go_ret
 exact ⟨zAp (by simpa using E.out),by go_grown⟩
theorem zD8 {P:Program} {f:FuncId} {args:Array Value} {E:Ending} (h:∀ w,Calls P f args w fun e w'=>e=E∧w=w') (w:World):Calls P f args w fun e w'=>e=E∧Below w w w':=
 (h w).mono fun e w' h=>⟨h.1,by rw [h.2];exact Below.refl _ _⟩
theorem orient_bad0 (a b c:Pt)  (ha:vld a=false) (w:World):Calls prog 146 #[a,b,c] w (Rt w (.int .i64 0)):=by
 have ca:=zA2 a;rw [ha] at ca;clear ha
 go_enter func146,ntmps146
 go_wp2_with fail;refine qE3 fun W1 Ba Bb Bc hw=>?_;refine qC3 (ca _) Ba Bb Bc hw fun w2 Ba Bb Bc hw F_abc=>?_;go_wp2
 go_ret
 exact ⟨rfl,hw⟩
theorem orient_bad1 (a b c:Pt) (ha:vld a=true) (hb:vld b=false) (w:World):Calls prog 146 #[a,b,c] w (Rt w (.int .i64 0)):=by
 have ca:=zA2 a;rw [ha] at ca;clear ha;have cb:=zA2 b;rw [hb] at cb;clear hb
 go_enter func146,ntmps146
 go_wp2_with fail;refine qE3 fun W1 Ba Bb Bc hw=>?_;refine qC3 (ca _) Ba Bb Bc hw fun w2 Ba Bb Bc hw F_abc=>?_;go_wp2_with fail;clear F_abc;refine qC3 (cb _) Ba Bb Bc hw fun w3 Ba Bb Bc hw F_abc=>?_;go_wp2
 go_ret
 exact ⟨rfl,hw⟩
theorem orient_bad2 (a b c:Pt) (ha:vld a=true) (hb:vld b=true) (hc:vld c=false) (w:World):Calls prog 146 #[a,b,c] w (Rt w (.int .i64 0)):=by
 have ca:=zA2 a;rw [ha] at ca;clear ha;have cb:=zA2 b;rw [hb] at cb;clear hb;have cc:=zA2 c;rw [hc] at cc;clear hc
 go_enter func146,ntmps146
 go_wp2_with fail;refine qE3 fun W1 Ba Bb Bc hw=>?_;refine qC3 (ca _) Ba Bb Bc hw fun w2 Ba Bb Bc hw F_abc=>?_;go_wp2_with fail;clear F_abc;refine qC3 (cb _) Ba Bb Bc hw fun w3 Ba Bb Bc hw F_abc=>?_;go_wp2_with fail;clear F_abc;refine qC3 (cc _) Ba Bb Bc hw fun w4 Ba Bb Bc hw F_abc=>?_;go_wp2
 go_ret
 exact ⟨rfl,hw⟩
theorem orient_ok (a b c:Pt) (ha:vld a=true) (hb:vld b=true) (hc:vld c=true) (w:World):Calls prog 146 #[a,b,c] w (Rt w (.int .i64 (sgn (det a b c)))):=by
 have ca:=zA2 a;rw [ha] at ca;have cb:=zA2 b;rw [hb] at cb;have cc:=zA2 c;rw [hc] at cc;have d1:=zGo a b ha hb;have d2:=zGo a c ha hc;have d3:=zFw (way a b) (way a c) (zE0 ha hb) (zE0 ha hc);have d4:=zD8 (zHe (cr (way a b) (way a c)) 0);have ed:cmpN (cr (way a b) (way a c)) 0=sgn (det a b c):=by
  unfold cmpN cr way det;simp only [jCi]
 rw [ed] at d4;clear ha hb hc ed;generalize way a b=u at *
 generalize way a c=v at *
 go_enter func146,ntmps146
 go_wp2_with fail;refine qE3 fun W1 Ba Bb Bc hw=>?_;refine qC3 (ca _) Ba Bb Bc hw fun w2 Ba Bb Bc hw F_abc=>?_;go_wp2_with fail;clear F_abc;refine qC3 (cb _) Ba Bb Bc hw fun w3 Ba Bb Bc hw F_abc=>?_;go_wp2_with fail;clear F_abc;refine qC3 (cc _) Ba Bb Bc hw fun w4 Ba Bb Bc hw F_abc=>?_;go_wp2;refine zA1 fun W9 hW=>?_;subst hW;clear F_abc;have g_abc:=J3 Ba.cells Bb.cells Bc.cells;refine wrt 8 (by kernel_rfl) (by kernel_rfl) ?_;simp only [tK1,tK0,dP1,dP0];refine wkx ?_;intro w5 hb;clear g_abc;obtain ⟨Ba,Bb,Bc,hw,-⟩:=qX3 Ba Bb Bc hw hb;go_wp2
 go_ret
 exact ⟨rfl,hw⟩
theorem zA5 (a b c:Pt) (w:World):Calls prog 146 #[a,b,c] w (Rt w (.int .i64 (ori a b c))):=by
 cases ha:vld a with
 | false=>rw [show ori a b c=0 by simp [ori,ha]];exact orient_bad0 a b c ha w
 | true=>cases hb:vld b with
  | false=>rw [show ori a b c=0 by simp [ori,hb]];exact orient_bad1 a b c ha hb w
  | true=>cases hc:vld c with
   | false=>rw [show ori a b c=0 by simp [ori,hc]];exact orient_bad2 a b c ha hb hc w
   | true=>rw [show ori a b c=sgn (det a b c) by simp [ori,ha,hb,hc]];exact orient_ok a b c ha hb hc w
end
section
open Go.RowKit Go.Sort
section
variable {P:Program} {ops:Array Oper} {md:Region.Mode} {C:World→Prop}
structure Lay where
 at_:Nat
 slot:Tmp
 type:TypeId
 cells:List Value
def putD (β:Tmp→Nat):List Tmp→Act→Act
 | [],a=>a
 | d :: l,a=>(putD β l a).put (some d) (.pointer (some ⟨β d,0,none⟩))
theorem zM5 {β:Tmp→Nat} {x:Option Tmp} {v:Value}:∀ {l:List Tmp} {a:Act},(∀ d,d∈l→x≠some d)→putD β l (a.put x v)=(putD β l a).put x v
 | [],_,_=>rfl
 | d :: l,a,h=>by
  simp only [putD];rw [zM5 (fun d' h'=>h d' (jAi _ h'))];exact Act.put_comm _ v _ (fun d' hd' hd=>h d jAo (by rw [hd',←hd]))
theorem zIq {β β':Tmp→Nat}:∀ {l:List Tmp} {a:Act},(∀ d,d∈l→β d=β' d)→putD β l a=putD β' l a
 | [],_,_=>rfl
 | d :: l,a,h=>by
  simp only [putD];rw [zIq (fun d' h'=>h d' (jAi _ h')),h d jAo]
theorem putD_perm {β:Tmp→Nat} {l l':List Tmp} (h:l.Perm l') (a:Act):putD β l a=putD β l' a:=by
 induction h with
 | nil=>rfl
 | cons x _ ih=>simp only [putD,ih]
 | swap x y l=>
  simp only [putD];by_cases e:x=y
  ·subst e;rfl
  ·exact Act.put_comm _ _ _ (fun d hd hd'=>e (by cases hd;cases hd';rfl))
 | trans _ _ ih1 ih2=>exact ih1.trans ih2
theorem zL7 {o:Oper} (hs:∀ cs b,o.op≠.select cs b) {β:Tmp→Nat}:∀ {l:List Tmp} {a:Act},(∀ d,d∈l→d ∉ o.looksAt ops)→execOp (putD β l a).eval o=execOp a.eval o
 | [],_,_=>rfl
 | d :: l,a,h=>by
  simp only [putD];rw [execOp_put (ops:=ops) o hs _ (some d) _ (fun d' hd'=>by cases hd';exact h d jAo),zL7 hs (fun d' h'=>h d' (jAi _ h'))]
theorem zGt {o:Oper} {β:Tmp→Nat}:∀ {l:List Tmp} {a:Act},(∀ d,d∈l→d ∉ o.looksAt ops)→Region.wanted o (yielded ops (putD β l a).tmps)=Region.wanted o (yielded ops a.tmps)
 | [],_,_=>rfl
 | d :: l,a,h=>by
  simp only [putD];rw [wanted_put o _ (some d) _ (fun d' hd'=>by cases hd';exact h d jAo),zGt (fun d' h'=>h d' (jAi _ h'))]
def setAll (K:List Lay) (listed:Array Bool):Array Bool:=K.foldr (fun e m=>m.setIfInBounds e.at_ true) listed
theorem zIk (K:List Lay) (listed:Array Bool) (i:Nat):setAll K (listed.setIfInBounds i true)=(setAll K listed).setIfInBounds i true:=by
 induction K with
 | nil=>rfl
 | cons e K ih=>
  simp only [setAll,jEw] at *;rw [ih];by_cases h:i=e.at_
  ·rw [h]
  ·rw [jBz _ _ h]
theorem setAll_ne {K:List Lay} {listed:Array Bool} {i:Nat} {d:Bool} (h:∀ e,e∈K→e.at_≠i):(setAll K listed).getD i d=listed.getD i d:=by
 induction K with
 | nil=>rfl
 | cons e K ih=>
  have h1:=h e jAo;have h2:=ih (fun e' h'=>h e' (jAi _ h'));simp only [setAll,jEw] at *;rw [getD_set_ne d h1];exact h2
theorem setAll_app (K1 K2:List Lay) (e:Lay) (listed:Array Bool):setAll (K1 ++ e :: K2) listed=setAll (K1 ++ K2) (listed.setIfInBounds e.at_ true):=by
 rw [zIk];induction K1 with
 | nil=>rfl
 | cons x K1 ih=>
  simp only [setAll,jB9,jEw] at *;rw [ih];by_cases h:e.at_=x.at_
  ·rw [h]
  ·rw [jBz _ _ h]
theorem ready_setAll {K:List Lay} {listed:Array Bool} {i:Nat} (h:i∈Region.ready md ops listed) (hne:∀ e,e∈K→e.at_≠i):i∈Region.ready md ops (setAll K listed):=by
 induction K with
 | nil=>exact h
 | cons e K ih=>
  have h2:=ih (fun e' h'=>hne e' (jAi _ h'));simp only [setAll,jEw] at *;exact ready_mono h2 (Ne.symm (hne e jAo))
structure Laid (w0:World) (J:List Lay) (done:List Tmp) (β:Tmp→Nat) (w:World):Prop where
 below:Below w0 w0 w
 box:∀ e,e∈J→e.slot∈done→w0.heap.size≤β e.slot∧Box w (β e.slot) e.cells e.type
 apart:∀ x,x∈done→∀ y,y∈done→x≠y→β x≠β y
theorem Laid.ext {w0 w w':World} {J:List Lay} {done:List Tmp} {β:Tmp→Nat} (h:Laid w0 J done β w) (hw:Ext w w'):Laid w0 J done β w':=
 ⟨Ext.trans (a:=w0) h.below hw,fun e he hd=>⟨(h.box e he hd).1,(h.box e he hd).2.ee hw⟩,h.apart⟩
def manyB (ops:Array Oper) (n:Nat) (J:List Lay):Bool:=
 J.all fun e=>decide (e.at_ < n) && (List.range n).all fun i=>i == e.at_ || match ops[i]? with
  | some o => !(o.looksAt ops).contains e.slot && o.dst != some e.slot
  | none=>true
theorem zIt {n:Nat} {J:List Lay} (h:manyB ops n J=true):∀ e,e∈J→e.at_ < n∧∀ i o,i < n→i≠e.at_→ops[i]? = some o→e.slot ∉ o.looksAt ops∧o.dst≠some e.slot:=by
 intro e he;have h1:=jCf.1 h e he;simp only [jA3,jA4] at h1;refine ⟨h1.1,fun i o hi hne ho=>?_⟩;have h2:=jCf.1 h1.2 i (jBh.2 hi);simp only [ho,jD6,beq_iff_eq,hne,false_or,jA3,jDw,jF8] at h2;exact ⟨by simpa using h2.1,h2.2⟩
theorem zHj:∀ {J:List Lay},(J.map Lay.slot).Nodup→∀ {x y:Lay},x∈J→y∈J→x.slot=y.slot→x=y
 | [],_,_,_,hx,_,_=>by cases hx
 | e :: J,h,x,y,hx,hy,hxy=>by
  obtain ⟨h1,h2⟩:=jAu.1 h;rcases jA1.1 hx with rfl | hx' <;> rcases jA1.1 hy with rfl | hy'
  ·rfl
  ·exact absurd (jAk.2 ⟨y,hy',hxy.symm⟩) h1
  ·exact absurd (jAk.2 ⟨x,hx',hxy⟩) h1
  ·exact zHj h2 hx' hy' hxy
theorem at_inj:∀ {J:List Lay},(J.map Lay.at_).Nodup→∀ {x y:Lay},x∈J→y∈J→x.at_=y.at_→x=y
 | [],_,_,_,hx,_,_=>by cases hx
 | e :: J,h,x,y,hx,hy,hxy=>by
  obtain ⟨h1,h2⟩:=jAu.1 h;rcases jA1.1 hx with rfl | hx' <;> rcases jA1.1 hy with rfl | hy'
  ·rfl
  ·exact absurd (jAk.2 ⟨y,hy',hxy.symm⟩) h1
  ·exact absurd (jAk.2 ⟨x,hx',hxy⟩) h1
  ·exact at_inj h2 hx' hy' hxy
theorem rAny_with_many {n g : Nat} {J : List Lay} {Q : Exit → Act → World → Prop} {Lq : Act → Prop} {l : List Oper} {w0 : World} (hsel : Region.noSelect ops = true)
    (hg:l.length=g) (hl:∀ k,l[k]? = ops[n+k]?)
    (hJ:∀ e,e∈J→∃ oj,ops[e.at_]? = some oj∧oj.dst=some e.slot∧oj.after=#[]∧oj.guard=none∧∀ (ρ:Operand→Value) (w:World),(execOp ρ oj).run P w=.ok (.value (.pointer (some ⟨w,0,none⟩))) (w.alloc (.cells e.cells.toArray e.type)))
    (hJs:(J.map Lay.slot).Nodup) (hJa:∀ e,e∈J→∀ e',e'∈J→e.at_=e'.at_→e=e') (hB:manyB ops n J=true)
    (hs:Region.sinkB md ops n=true) (hc:Region.chainB md ops n=true) (hn:n < ops.size)
    (hC:∀ w',Below w0 w0 w'→C w')
    (hQ:∀ a w β,Laid w0 J (J.map Lay.slot) β w→Lq a→wpList P ops Q l (putD β (J.map Lay.slot) a) w) :
    ∀ (m f:Nat) (K:List Lay) (done:List Tmp) (β:Tmp→Nat) (listed:Array Bool) (a:Act) (w:World),m=f+K.length→(∀ e,e∈K→e∈J)→(done ++ K.map Lay.slot).Perm (J.map Lay.slot) →
     (∀ e,e∈K→listed.getD e.at_ true=false)→(∀ e,e∈J→e.slot∈done→listed.getD e.at_ true=true)→(K.map Lay.slot).Nodup →
     HeadInv md ops n listed→Laid w0 J done β w →
     rAny P md ops C n (fun listed' a'=>Region.seqB md ops g n listed'=true∧Lq a') f (setAll K listed) a→wpAny P md ops Q (m+g) listed (putD β done a) w:=by
 have spec:=zIt hB;intro m;induction m with
 | zero=>
  intro f K done β listed a w hm hKJ hperm hKl hdl hKn inv hw h;have hf:f=0:=by omega
  have hK:K=[]:=jB8.1 (by omega);subst hf hK;subst hg;rw [jCa];simp only [jD0,jAs] at hperm;refine wpAny_of_seq l n listed _ w hl h.1 ?_;rw [putD_perm hperm];refine hQ a w β ⟨hw.below,fun e he hd=>hw.box e he (hperm.mem_iff.2 hd),fun x hx y hy=>hw.apart x (hperm.mem_iff.2 hx) y (hperm.mem_iff.2 hy)⟩ h.2
 | succ m ih=>
  intro f K done β listed a w hm hKJ hperm hKl hdl hKn inv hw h;rw [show m+1+g=(m+g)+1 by omega];have hnd:(done ++ K.map Lay.slot).Nodup:=hperm.nodup_iff.2 hJs
  -- who may come up now
  have hne:Region.ready md ops listed≠[]:=by
   cases K with
   | nil=>
    cases f with
    | zero=>simp at hm
    | succ f=>exact h.1
   | cons e K'=>
    obtain ⟨oj,hoj,_,haft,_⟩:=hJ e (hKJ e jAo);intro h0;have:e.at_∈Region.ready md ops listed:=mem_ready.2 ⟨hKl e jAo,oj,hoj,fun x hx=>(by rw [haft] at hx;simp at hx)⟩;rw [h0] at this;cases this
  refine ⟨fun h0=>absurd h0 hne,fun i hi=>?_⟩;have hiun:=(mem_ready.1 hi).1;by_cases hiK:∃ e,e∈K∧e.at_=i
  ·-- a block is laid
   obtain ⟨e,he,rfl⟩:=hiK;obtain ⟨K1,K2,rfl⟩:=jDb he;obtain ⟨oj,hoj,hd,haft,hgd,hrun⟩:=hJ e (hKJ e he);have hlt:=(spec e (hKJ e he)).1;unfold wpOp;simp only [hoj];have hwant:Region.wanted oj (yielded ops (putD β done a).tmps)=true:=by simp [Region.wanted,hgd]
   rw [jAc hwant];refine .inl ?_;unfold Oper.wp;rw [hrun,Oper.upon_value,hd];have hnotdone:e.slot ∉ done:=fun hin=>by
    have:=(jAz.1 hnd).2.2 e.slot hin e.slot (by simp);exact this rfl
   have e1:((putD β done a).put (some e.slot) (.pointer (some ⟨w,0,none⟩)))=putD (fun x=>if x=e.slot then w.heap.size else β x) (e.slot :: done) a:=by
    simp only [putD,jAc];rw [zIq (β:=β) (β':=fun x=>if x=e.slot then w.heap.size else β x) (fun d hdn=>(jA0 (fun hh:d=e.slot=>hnotdone (hh▸hdn))).symm)]
   rw [e1];rw [setAll_app] at h;refine ih f (K1 ++ K2) (e.slot :: done) _ _ a _ (by simp at hm ⊢;omega) (fun x hx=>hKJ x (by simp at hx ⊢;rcases hx with hx | hx <;> simp [hx])) ?_ ?_ ?_ ?_ (inv.set hi hlt) ?_ h
   ·refine List.Perm.trans ?_ hperm;simp only [jBn,jAv,jB9];rw [←jAr,←jAr];exact List.perm_middle.symm
   ·intro x hx;have hxK:x∈K1 ++ e :: K2:=by simp at hx ⊢;rcases hx with hx | hx <;> simp [hx]
    have hxe:x.at_≠e.at_:=fun hh=>by
     have hxx:=hJa x (hKJ x hxK) e (hKJ e he) hh;subst hxx;simp only [jBn,jAv] at hKn;have h3:=(jAz.1 hKn);rcases jAg.1 hx with hx | hx
     ·exact h3.2.2 x.slot (jAk.2 ⟨x,hx,rfl⟩) x.slot jAo rfl
     ·exact (jAu.1 h3.2.1).1 (jAk.2 ⟨x,hx,rfl⟩)
    rw [getD_set_ne true (Ne.symm hxe)];exact hKl x hxK
   ·intro x hx hxd;rcases jA1.1 hxd with hxs | hxs
    ·have hxx : x = e := by
       have hp:(J.map Lay.slot).Nodup:=hJs;exact zHj hp hx (hKJ e he) hxs
     subst hxx;have:x.at_ < listed.size:=by rw [inv.size];omega
     simp [this]
    ·have:=hdl x hx hxs;by_cases hxe:x.at_=e.at_
     ·rw [hxe] at this;rw [this] at hiun;cases hiun
     ·rw [getD_set_ne true (Ne.symm hxe)];exact this
   ·refine hKn.sublist ?_;simp only [jBn,jAv];exact List.Sublist.append_left (List.sublist_cons_self _ _) _
   ·refine ⟨hw.below.alloc hw.below.size _,fun x hx hxd=>?_,fun x hx y hy hxy=>?_⟩
    ·rcases jA1.1 hxd with hxs | hxs
     ·have hxx:x=e:=zHj hJs hx (hKJ e he) hxs;subst hxx;simp only [jAc];exact ⟨hw.below.size,Box.new rfl⟩
     ·have hxe:x.slot≠e.slot:=fun hh=>hnotdone (hh▸hxs);simp only [jA0 hxe];exact ⟨(hw.box x hx hxs).1,(hw.box x hx hxs).2.old _⟩
    ·have lt : ∀ z, z ∈ done → β z < w.heap.size := fun z hz => by
       have hzJ:z∈J.map Lay.slot:=hperm.mem_iff.1 (jB4 _ hz);obtain ⟨ez,hez,rfl⟩:=jAk.1 hzJ;exact (hw.box ez hez hz).2.lt
     rcases jA1.1 hx with hx | hx <;> rcases jA1.1 hy with hy | hy
     ·exact absurd (hx.trans hy.symm) hxy
     ·subst hx;simp only [jAc,jA0 (fun hh=>hxy hh.symm:¬ y=e.slot)];have:=lt y hy;omega
     ·subst hy;simp only [jAc,jA0 hxy];have:=lt x hx;omega
     ·simp only [jA0 (fun hh:x=e.slot=>hnotdone (hh▸hx)),jA0 (fun hh:y=e.slot=>hnotdone (hh▸hy))];exact hw.apart x hx y hy hxy
  ·-- another one
   have hiK':∀ e,e∈K→e.at_≠i:=fun e he hh=>hiK ⟨e,he,hh⟩;have hir:=ready_setAll (K:=K) hi hiK';cases f with
   | zero=>
    have h1:=seqB_ready h.1 i hir;cases K with
    | nil=>simp at hm
    | cons e K'=>
     exact absurd hi (tail_waits hs hc hn inv _ e.at_ rfl (spec e (hKJ e jAo)).1 (hKl e jAo) i h1)
   | succ f=>
    obtain ⟨hin,o,v,ho,hy,hK⟩:=h.2 i hir;have hnoJ:∀ e,e∈J→i≠e.at_:=fun e he hh=>by
     rcases jAg.1 (hperm.mem_iff.2 (jAk.2 ⟨e,he,rfl⟩)) with hd | hd
     ·have:=hdl e he hd;rw [←hh] at this;rw [this] at hiun;cases hiun
     ·obtain ⟨e',he',hs'⟩:=jAk.1 hd;have:=zHj hJs (hKJ e' he') he hs';subst this;exact hiK ⟨e',he',hh.symm⟩
    have hap:∀ d,d∈done→d ∉ o.looksAt ops∧o.dst≠some d:=fun d hd=>by
     have hdJ:d∈J.map Lay.slot:=hperm.mem_iff.1 (jB4 _ hd);obtain ⟨e,he,rfl⟩:=jAk.1 hdJ;exact (spec e he).2 i o hin (hnoJ e he) ho
    have hy':rYields P ops C o v (putD β done a):=hy.same (zL7 (fun cs b=>Region.noSelect_spec hsel i o cs b ho) (fun d hd=>(hap d hd).1)) (zGt (fun d hd=>(hap d hd).1));refine zB0 ho (hC w hw.below) hy' fun w' hw'=>?_;rw [←zM5 (fun d hd=>(hap d hd).2)];refine ih f K done β _ _ w' (by omega) hKJ hperm (fun e he=>by rw [getD_set_ne true (Ne.symm (hiK' e he))];exact hKl e he) (fun e he hd=>by rw [getD_set_ne true (hnoJ e he)];exact hdl e he hd) hKn (inv.set hi hin) (hw.ext hw') ?_;rw [zIk];exact hK
def dropIdx (js:List Nat):Nat→List Oper→List Oper
 | _,[]=>[]
 | i,o :: r=>if js.contains i=true then dropIdx js (i+1) r else o :: dropIdx js (i+1) r
theorem dropIdx_map (js:List Nat) (l:List Oper):∀ (n i:Nat),n=l.length - i→((List.range' i n).filter fun k => !js.contains k).map (fun k=>l.toArray[k]?)=(dropIdx js i (l.drop i)).map some:=by
 intro n;induction n with
 | zero=>intro i h;rw [jDl (by omega)];rfl
 | succ n ih=>
  intro i h;have hi:i < l.length:=by omega
  rw [jBi hi,List.range'_succ];simp only [dropIdx,List.filter_cons];have:=ih (i+1) (by omega);cases hc:js.contains i with
  | true=>simp only [Bool.not_true,jBb,jDf,jDs];exact this
  | false=>simp only [Bool.not_false,jDs,jBb,jDf,jAv,this];simp [hi]
theorem dropIdx_take (js:List Nat) (l:List Oper) (n:Nat) (hn:n≤l.length):((List.range n).filter fun k => !js.contains k).map (fun k=>l.toArray[k]?)=(dropIdx js 0 (l.take n)).map some:=by
 have h:=dropIdx_map js (l.take n) n 0 (by simp;omega);rw [jC0] at h;rw [←h,List.range_eq_range'];refine List.map_congr_left fun k hk=>?_;have:=(jAq.1 hk).1;simp at this;simp [this]
theorem zAq {id : Nat} {Q : Exit → Act → World → Prop} {a : Act} {w : World} {l : List Oper} (n : Nat) (J : List Lay)
    (hJ:∀ e,e∈J→∃ oj,l.toArray[e.at_]? = some oj∧oj.dst=some e.slot∧oj.after=#[]∧oj.guard=none∧∀ (ρ:Operand→Value) (w:World),(execOp ρ oj).run P w=.ok (.value (.pointer (some ⟨w,0,none⟩))) (w.alloc (.cells e.cells.toArray e.type)))
    (hm:P.follows .mixedOrders=true) (hJs:(J.map Lay.slot).Nodup) (hJa:(J.map Lay.at_).Nodup)
    (hB:(Region.noSelect l.toArray && decide (n < l.toArray.size) && Region.sinkB .any l.toArray n && Region.chainB .any l.toArray n && manyB l.toArray n J &&
     orderB .any l.toArray n (l.toArray.size - n) ((List.range n).filter fun i => !(J.map Lay.at_).contains i) (setAll J (Array.replicate l.toArray.size false)))=true)
    (hcount:((List.range n).filter fun i => !(J.map Lay.at_).contains i).length+J.length=n)
    (hC:∀ w',Below w w w'→C w')
    (h:rWalk P l.toArray C (fun a'=>∀ w' β,Laid w J (J.map Lay.slot) β w'→wpList P l.toArray Q (l.drop n) (putD β (J.map Lay.slot) a') w') (dropIdx (J.map Lay.at_) 0 (l.take n)) a) :
    (Code.region id l.toArray true).wp P Q a w:=by
 simp only [jA3,jA4] at hB;obtain ⟨⟨⟨⟨⟨hsel,hn⟩,hs⟩,hc⟩,hmB⟩,ho⟩:=hB;have spec:=zIt hmB;have hJa':∀ e,e∈J→∀ e',e'∈J→e.at_=e'.at_→e=e':=fun e he e' he' heq=>at_inj hJa he he' heq
 -- the laying operations may come up in any order from the start
 have inv1:∀ listed,HeadInv .any l.toArray n listed→TailWaits .any l.toArray n listed:=fun listed inv i hi hun=>tail_waits hs hc hn inv _ i rfl hi hun;have invJ:∀ K:List Lay,(∀ e,e∈K→e∈J)→(K.map Lay.at_).Nodup→HeadInv .any l.toArray n (setAll K (Array.replicate l.toArray.size false)):=by
  intro K;induction K with
  | nil=>intro _ _;exact headInv0
  | cons e K ih=>
   intro hK hnd;have hnd':=jAu.1 hnd;have:=ih (fun x hx=>hK x (jAi _ hx)) hnd'.2;obtain ⟨oj,hoj,_,haft,_⟩:=hJ e (hK e jAo);have hlt:=(spec e (hK e jAo)).1;refine this.set (mem_ready.2 ⟨?_,oj,hoj,fun x hx=>(by rw [haft] at hx;simp at hx)⟩) hlt;rw [setAll_ne (fun x hx hh=>hnd'.1 (jAk.2 ⟨x,hx,hh⟩))];exact getD_in (by simp at hn ⊢;omega) (getD_replicate_false _ _)
 have H:=zBx (md:=.any) (g:=l.toArray.size - n) hsel (HeadInv .any l.toArray n) (fun listed j inv hj hjn=>inv.set hj hjn) inv1 _ _ _ a (dropIdx_take (J.map Lay.at_) l n (by simp at hn;omega)) (invJ J (fun _ h=>h) hJa) ho h;refine wp_region_any hm ?_;have:=rAny_with_many (md:=.any) (Q:=Q) (l:=l.drop n) (w0:=w) (g:=l.toArray.size - n) hsel (by simp) (fun j=>by simp [jCr]) hJ hJs hJa' hmB hs hc hn hC
  (fun a' w' β hL hl=>hl w' β hL) _ _ J [] (fun _=>0) (Array.replicate l.toArray.size false) a { w with drawn:=w.drawn+1 } rfl (fun _ h=>h) (by simp)
  (fun e he=>getD_in (by simp;have:=(spec e he).1;simp at hn;omega) (getD_replicate_false _ _)) (fun e _ hd=>(by cases hd)) hJs headInv0
  ⟨⟨rfl,rfl,rfl,jA9 _,fun _ _=>rfl⟩,(fun e _ hd=>(by cases hd)),(fun x hx=>(by cases hx))⟩ H
 rw [hcount,show n+(l.toArray.size - n)=l.toArray.size by omega] at this;exact this
end
end
end Go.Proofs.YtogffkimgmlilaaGreat
