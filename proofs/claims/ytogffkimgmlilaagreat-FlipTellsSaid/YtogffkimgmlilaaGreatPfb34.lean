/- Put together: Stm, MesV, MesW, CdtP, CdtQ, Blt6, Trod, RowI. -/
import Derived.Test.YtogffkimgmlilaaGreatPfb33
import Derived.Lib.SmallJoins
set_option maxRecDepth 100000
set_option maxHeartbeats 8000000
set_option linter.all false
namespace Go.Proofs.YtogffkimgmlilaaGreat
open _root_.Go.Proofs.Tryz
section
open Go.RowKit Go.Sort
def eff5 (c0 c1 c2 c3 c4:Value) (b:Nat) (w:World):World:=((((w.setCell ⟨b,0,none⟩ c0).setCell ⟨b,1,none⟩ c1).setCell ⟨b,2,none⟩ c2).setCell ⟨b,3,none⟩ c3).setCell ⟨b,4,none⟩ c4
theorem eff5_spec {c0 c1 c2 c3 c4 z:Value} {T:TypeId} (w:World) (b:Nat) (h:w.heap[b]? = some (.cells [z,z,z,z,z].toArray T)):(eff5 c0 c1 c2 c3 c4 b w).heap[b]? = some (.cells [c0,c1,c2,c3,c4].toArray T)∧(∀ B,B≤b→Below B w (eff5 c0 c1 c2 c3 c4 b w)):=by
 have B0:Box w b [z,z,z,z,z] T:=h;exact ⟨((((B0.set 0 c0).set 1 c1).set 2 c2).set 3 c3).set 4 c4,fun B hB=>(((((Below.refl B w).setCell hB _).setCell hB _).setCell hB _).setCell hB _).setCell hB _⟩
theorem rgl5 {P : Program} {id : Nat} {Q : Exit → Act → World → Prop} {a A : Act} {w : World} {l r : List Oper} {c0 c1 c2 c3 c4 : Value} {T : TypeId} {oj os : Oper} (m : Nat) (d t : Tmp)
    (k:∀ w' b,Below w w w'→w.heap.size≤b→b < w'.heap.size→Box w' b [c0,c1,c2,c3,c4] T→wpList P l.toArray Q r (A.put (some d) (.pointer (some ⟨b,0,none⟩))) w')
    (hoj:l.toArray[m]? = some oj:=by rfl) (hos:l.toArray[m+1]? = some os:=by rfl) (hjd:oj.dst=some d:=by rfl) (hafter:oj.after=#[]:=by rfl) (hguard:oj.guard=none:=by rfl) (hsd:os.dst=none:=by rfl) (hsg:os.guard=none:=by rfl)
    (hdsz:d < a.tmps.size:=by simp)
    (hrun:∀ (ρ:Operand→Value) (w:World),(execOp ρ oj).run P w=.ok (.value (.pointer (some ⟨w,0,none⟩))) (w.alloc (.cells #[(),(),(),(),()] T)):=by (intro ρ W;simp [execOp,go_sem];rfl))
    (hm:P.follows .mixedOrders=true:=by kernel_rfl) (hB:lateB .any l.toArray (m+2) m (m+1) d t=true:=by as_aux_lemma=>kernel_rfl)
    (hr:l.drop (m+2)=r:=by (simp only [dP1,dP0];try rfl))
    (h:rWalk P l.toArray (fun w'=>∃ p:Regrown,w'=grow (redrawn w p.d) p.os) (fun a'=>a'=A) (l.take m) a:=by
     simp only [jBf,jCg];repeat (first | (refine zA7 (Eq.refl false) ?_;simp only [Act.put,sT2,sT1,sT0]) | (refine rWalk_step (fun K hK=>?_);go_simp;first | (refine hK _ ?_;clear hK K) | (apply Exists.intro;refine ⟨fun _=>?_,hK _ ?_⟩;(with_reducible exact toExt (by assumption) _);clear hK K)))
     exact rWalk_nil rfl)
    (he:A.eval (.tmp t)=.agg #[c0,c1,c2,c3,c4]:=by rfl)
    (hst:∀ (ρ:Operand→Value) (w:World) (b:Nat),ρ (.tmp d)=.pointer (some ⟨b,0,none⟩)→ρ (.tmp t)=.agg #[c0,c1,c2,c3,c4]→Box w b [(),(),(),(),()] T→(execOp ρ os).run P w=.ok .skip (eff5 c0 c1 c2 c3 c4 b w):=by
     (intro ρ W b e1 e2 hB;obtain ⟨x,y,_,_⟩:=hB.f;simp [execOp,go_sem,e1,e2,x,y,eff5])):(Code.region id l.toArray true).wp P Q a w:=
 zC7 m d t [c0,c1,c2,c3,c4] (zs:=[(),(),(),(),()]) (eff:=eff5 c0 c1 c2 c3 c4) eff5_spec hoj hos hjd hafter hguard hsd hsg hdsz hrun hm hB rgB
  (walk_to (A:=A) ⟨he,fun w' b h1 h2 h3 h4=>by rw [hr];exact k w' b h1 h2 h3 h4⟩ _ _ _ h) hst
attribute [local go_sem] rOper rAt rUpon cell_set sg_i64 sg_u64 alloc_cell alloc_frozen
attribute [local go_sem 10000] pt_eql pt_neq tri_eql
attribute [local irreducible] rWalk
theorem zF9 (T:Tri3) (a b:Pt) (w:World):Calls prog 116 #[T,a,b] w (Rt w (.agg #[.int .i64 (apx T a b).x,.int .i64 (apx T a b).y])):=by
 unfold apx;cases a0:peqI T.A.x T.A.y a.x a.y with
 | false=>
  cases b0:peqI T.A.x T.A.y b.x b.y with
  | false=>rw [jAc ⟨rfl,rfl⟩];exact apex_0 T a b a0 b0 w
  | true=>
   rw [jA0 (by simp)];cases a1:peqI T.B.x T.B.y a.x a.y with
   | false=>
    cases b1:peqI T.B.x T.B.y b.x b.y with
    | false=>rw [jAc ⟨rfl,rfl⟩];exact apex_20 T a b a0 b0 a1 b1 w
    | true=>rw [jA0 (by simp)];exact apex_22 T a b a0 b0 a1 b1 w
   | true=>rw [jA0 (by simp)];exact apex_21 T a b a0 b0 a1 w
 | true=>
  rw [jA0 (by simp)];cases a1:peqI T.B.x T.B.y a.x a.y with
  | false=>
   cases b1:peqI T.B.x T.B.y b.x b.y with
   | false=>rw [jAc ⟨rfl,rfl⟩];exact apex_10 T a b a0 a1 b1 w
   | true=>rw [jA0 (by simp)];exact apex_12 T a b a0 a1 b1 w
  | true=>rw [jA0 (by simp)];exact apex_11 T a b a0 a1 w
theorem replace_ok (mb b:Nat) (E:Es) (a1 a2:Option Addr) (cap1 cap2 n1 n2:Nat) (L1 L2:List Tri3) (hn1:Hid (L1.length=n1)) (hm1:n1≤1000000) (hok1:∀ T∈L1,okT T) (hn2:Hid (L2.length=n2)) (hm2:n2≤1000000) (hok2:∀ T∈L2,okT T) (h1:(takeRun E L1).1=n1) (h2:(putRun (takeRun E L1).2 L2).1=n2) (w:World) (Bm:Box w mb [.map (some b)] 81) (Hm:HoldsMap eW eT okW w b E) (Hr1:RowAt cT 6 w a1 L1) (Hr2:RowAt cT 6 w a2 L2):Calls prog 132 #[pt0 mb,.slice a1 n1 cap1,.slice a2 n2 cap2] w fun e w'=>e=.returned (.int .i64 0)∧w.grownBy w' (some b)∧HoldsMap eW eT okW w' b (putRun (takeRun E L1).2 L2).2:=by
 have c1:=zFp mb b E a1 cap1 n1 L1 hn1 hm1 hok1;rw [h1] at c1;generalize (takeRun E L1).2=F at *
 have c2:=zGa mb b F a2 cap2 n2 L2 hn2 hm2 hok2;rw [h2] at c2;generalize (putRun F L2).2=G at *
 clear h1 h2 hok1 hok2 hn1 hn2;have d1:decide ((n1:Int) < (n1:Int))=false:=by simp
 have d2:decide ((n2:Int) < (n2:Int))=false:=by simp
 go_enter func132,ntmps132
 go_wp2_with fail;refine (c1 _ Bm Hm Hr1).mono ?_;rintro e w1 ⟨rfl,hg,H1⟩;replace Bm:=Bm.turn Hm hg;replace Hr2:=Hr2.turn cT_ne Hm hg;clear Hm Hr1;go_wp2_with fail;refine (c2 _ Bm H1 Hr2).mono ?_;rintro e w2 ⟨rfl,hh,H2⟩;replace hg:=zAa hg hh;clear hh;go_wp2
 go_ret
 exact ⟨rfl,hg,H2⟩
theorem zEz {w:World} {g:Nat} {S:List Tri3} (h:Box w g (S.flatMap cT) 56):RowAt cT 6 w (some ⟨g,0,none⟩) S:=fun j x hj=>by
 have hl:=(jAj.1 hj);refine ⟨_,rfl,h.lt,fun i u hu=>?_⟩;have hi:i < 6:=(jAj.1 hu).1;rw [Addr.add_lit,Addr.add_lit,h.f.1,jCa,zB6 zIc S j i x hj hi];exact hu
theorem flip_n0 (mb b:Nat) (E:Es) (p q:Pt) (hk:okW (p,q)) (h0:getE E (p,q)=none) (w:World) (Bm:Box w mb [.map (some b)] 81) (Hm:HoldsMap eW eT okW w b E):Calls prog 90 #[pt0 mb,p,q] w (Rt w (.int .i64 16)):=by
 have cl:=zNo mb b E p q h0 hk;clear h0
 go_enter func90,ntmps90
 go_wp2_with fail;refine qE2 fun W1 Bp Bq hw=>?_;refine qC2 (cl _ (Bm.ee hw) (Hm.ee hw)) Bp Bq hw fun w2 Bp Bq hw F_pq=>?_;go_wp2
 go_ret
 exact ⟨rfl,by have hl:=hw.size;go_grown⟩
theorem flip_n1 (mb b:Nat) (E:Es) (p q:Pt) (hk:okW (p,q)) (S:Tri3) (h0:getE E (p,q)=some S) (h1:getE E (q,p)=none) (w:World) (Bm:Box w mb [.map (some b)] 81) (Hm:HoldsMap eW eT okW w b E):Calls prog 90 #[pt0 mb,p,q] w (Rt w (.int .i64 16)):=by
 have cl:=zJt mb b E p q S h0 hk;have cr:=zNo mb b E q p h1 ⟨hk.2,hk.1⟩;clear h0 h1
 go_enter func90,ntmps90
 go_wp2_with fail;refine qE2 fun W1 Bp Bq hw=>?_;refine qC2 (cl _ (Bm.ee hw) (Hm.ee hw)) Bp Bq hw fun w2 Bp Bq hw F_pq=>?_;go_wp2_with fail;clear F_pq;refine zA4 fun W3 hW=>?_;obtain ⟨bks,hbs⟩:∃ b,w2.heap.size=b:=⟨_,rfl⟩;rw [hbs];obtain ⟨lps,lqs,fs,Bs,Bp,Bq,hw⟩:=qM2 hW hbs Bp Bq hw;clear hW hbs;refine qC3 (cr _ (Bm.ee hw) (Hm.ee hw)) Bp Bq Bs hw fun w4 Bp Bq Bs hw F_pqs=>?_;go_wp2
 go_ret
 exact ⟨rfl,by have hl:=hw.size;go_grown⟩
theorem rsquare_any (W H:Int) (w:World):Calls prog 70 #[W,H] w (Rt w (.agg #[(),(),W,(),W,H,(),H])):=by
 go_enter func70,ntmps70
 go_wp2_with fail;generalize hW:w.alloc (.cells #[(),(),W,(),W,H,(),H] 122)=W1
 have Bq:Box W1 w [(),(),W,(),W,H,(),H] 122:=by rw [←hW];exact Box.new rfl
 have hw:Below w w W1:=by rw [←hW];go_grown
 clear hW;have Fq:=Bq.f;refine bodyPost_ret (v:=.agg #[(),(),W,(),W,H,(),H]) (by simp [results,results70,go_sem,Fq]) rfl ⟨rfl,hw⟩
def sqP (W H:Int) (k:Nat):Pt:=if k % 4=0 then ⟨0,0⟩ else if k % 4=1 then ⟨W,0⟩ else if k % 4=2 then ⟨W,H⟩ else ⟨0,H⟩
def sqW (W H:Int) (k:Nat):Wl:=mkW (sqP W H k) (sqP W H (k+1)) 2
theorem zCv (a b:Pt):0≤(mkW a b 2).K∧(mkW a b 2).K≤2:=by
 unfold mkW;split <;> simp
theorem round_eqC {i n:Int} (hn:0 < n) (hn2:n≤4294967296):(wrap64 (i.tmod n+n)).tmod n=i % n:=by
 have h1:0≤i % n:=jDx i (by omega);have h2:i % n < n:=jDo i hn;have h3:i.tmod n=i % n∨i.tmod n=i % n - n:=by
  have h := @Int.tmod_eq_emod i n;split at h
  ·left;omega
  ·right;rw [h];omega
 have h4:wrap64 (i.tmod n+n)=i.tmod n+n:=by rw [w64];omega
 rw [h4,jEa (by omega)];rcases h3 with h | h <;> rw [h]
 ·rw [Int.add_emod_right];exact Int.emod_eq_of_lt h1 h2
 ·rw [show i % n - n+n=i % n by omega];exact Int.emod_eq_of_lt h1 h2
theorem zNy {i n:Int} (hn:0 < n) (hn2:n≤4294967296) (w:World):Calls prog 38 #[i,n] w (Rt w (.int .i64 (i % n))):=by
 rw [←round_eqC hn hn2];have h0:(n == 0)=false:=by simp;omega
 have h1:n≠0:=by omega
 go_enter func38,ntmps38
 go_wp2;all_goals go_ret
 all_goals exact ⟨rfl,by go_grown⟩
def spt (s n:Int):Pt:=⟨n % ((s+1) * (s+1)) % (s+1),n % ((s+1) * (s+1)) / (s+1)⟩
theorem zLv {s:Int} (hs:0 < s) (n:Int):inBox s s (spt s n):=by
 have hp:0 < (s+1) * (s+1):=jAf (by omega) (by omega);have h1:=jDx n (b:=(s+1) * (s+1)) (by omega);have h2:=jDo n hp;have h3:=jDx (n % ((s+1) * (s+1))) (b:=s+1) (by omega);have h4:=jDo (n % ((s+1) * (s+1))) (b:=s+1) (by omega);have h5:0≤n % ((s+1) * (s+1)) / (s+1):=Int.ediv_nonneg h1 (by omega);have h6:n % ((s+1) * (s+1)) / (s+1) < s+1:=Int.ediv_lt_of_lt_mul (by omega) h2;unfold inBox spt;simp only;omega
theorem zHi (s n:Int) (hs:0 < s) (hs2:s≤60) (w:World):Calls prog 35 #[s,n] w (Rt w (.agg #[.int .i64 (spt s n).x,.int .i64 (spt s n).y])):=by
 have hp:0 < (s+1) * (s+1):=jAf (by omega) (by omega);have hp2:(s+1) * (s+1)≤4000:=by
  have:=Int.mul_le_mul (a:=s+1) (b:=s+1) (c:=61) (d:=61) (by omega) (by omega) (by omega) (by omega);omega
 have cr:=zNy (i:=n) (n:=(s+1) * (s+1)) hp (by omega);have hk1:=jDx n (b:=(s+1) * (s+1)) (by omega);have hk2:=jDo n hp;have hb:=zLv hs n;have HE:=hdd (show spt s n=⟨n % ((s+1) * (s+1)) % (s+1),n % ((s+1) * (s+1)) / (s+1)⟩ from rfl);have hw1:wrap64 ((s+1) * (s+1))=(s+1) * (s+1):=by rw [w64];omega
 have hk3:n % ((s+1) * (s+1)) < 4000:=by omega
 have HB:=hdd hb;generalize n % ((s+1) * (s+1))=k at *
 have ht1:Int.tmod k (s+1)=k % (s+1):=jEa hk1;have ht2:Int.tdiv k (s+1)=k / (s+1):=Int.tdiv_eq_ediv_of_nonneg hk1
 go_enter func35,ntmps35
 have h5:0≤k / (s+1):=Int.ediv_nonneg hk1 (by omega);have h6:k / (s+1)≤k:=Int.ediv_le_self _ hk1;have h7:=jDx k (b:=s+1) (by omega);have h8:=jDo k (b:=s+1) (by omega);have n0:s+1≠0:=by omega
 have n1:(s+1 == 0)=false:=by simp;omega
 have n2:(s+1=0)=False:=by simp;omega
 have a1:IntKind.i64.wrap (s+1)=s+1:=by rw [IntKind.wrap_i64];omega
 have a2:IntKind.i64.wrap (k / (s+1))=k / (s+1):=by rw [IntKind.wrap_i64];omega
 have a3:IntKind.i64.wrap (k % (s+1))=k % (s+1):=by rw [IntKind.wrap_i64];omega
 have HK:=hdd (show True from trivial);clear hb hp hp2 hk2 hk3;go_wp2_with fail;refine zA4 fun W1 hW=>?_;have Br:Box W1 w [(),()] 54:=by rw [hW];exact Box.new rfl
 have hw:Below w w W1:=by rw [hW];go_grown
 clear hW;refine (cr _).mono ?_;rintro e w2 ⟨rfl,hb⟩;have Br2:=Br.ee hb;have hw2:=(upB hw hb);clear hb Br hw cr;have Fr:=Br2.f;go_wp2_with fail;clear Fr;have gr:=Br2.cells;refine rgn 9 (fun w3 hb=>?_);clear gr;have Br3:=Br2.ee hb;have hw3:=(upB hw2 hb);clear hb Br2 hw2;have Fr:=Br3.f;go_wp2_with fail;refine bodyPost_ret (v:=.agg #[.int .i64 (k % (s+1)),.int .i64 (k / (s+1))]) (by simp [results,results35,go_sem,Fr]) rfl ⟨by rw [HE.out],by have hl:=hw3.size;go_grown⟩
def cI (x:Int):List Value:=[x]
theorem RowAt.num {w:World} {a:Option Addr} {P:List Int} (h:RowAt cI 1 w a P) {j:Nat} (hj:j < P.length):∃ ad,a=some ad∧ad.block < w.heap.size∧w.cell? (ad.add j)=some (.int .i64 P[j]):=by
 obtain ⟨ad,h1,h2,h3⟩:=h j P[j] (jA8 hj);have h4:=h3 0 (.int .i64 P[j]) rfl;rw [Nat.mul_one,show ∀ A:Addr,A.add 0=A from fun A=>by unfold Addr.add;split <;> simp_all] at h4;exact ⟨ad,h1,h2,h4⟩
def PutPt (s:Int) (P:List Int) (q:Pt):Prop:=(q=⟨0,0⟩∨q=⟨s,0⟩∨q=⟨s,s⟩∨q=⟨0,s⟩)∨∃ x∈P,q=spt s x
end
section
open Go.RowKit Go.Sort Go.ChangeShapes Go.WideShapes Go.ChangeAt
section
variable {H:Type} {enc:TypeId×Value→H} {P:Program} {w:World} {base:Nat} {spare:Nat→Bool} {held:Bool}
theorem trodAll_five {t0 t1 t2 t3 t4:TypeId} {args:Array Value} {ds:List (DataW H)} {ps:List MemPlace} (h:DataW.TrodAll enc P w base spare held [t0,t1,t2,t3,t4] args.toList ds ps):∃ v0 v1 v2 v3 v4 d0 d1 d2 d3 d4 q0 q1 q2 q3 q4,args=#[v0,v1,v2,v3,v4]∧ds=[d0,d1,d2,d3,d4]∧ps=q0 ++ (q1 ++ (q2 ++ (q3 ++ q4)))∧DataW.Trod enc P w base spare held t0 v0 d0 q0∧DataW.Trod enc P w base spare held t1 v1 d1 q1∧DataW.Trod enc P w base spare held t2 v2 d2 q2∧DataW.Trod enc P w base spare held t3 v3 d3 q3∧DataW.Trod enc P w base spare held t4 v4 d4 q4:=by
 obtain ⟨v0,vs0,d0,ds0,q0,r0,hargs,rfl,rfl,h0,k0⟩:=trodAll_cons h;obtain ⟨v1,vs1,d1,ds1,q1,r1,rfl,rfl,rfl,h1,k1⟩:=trodAll_cons k0;obtain ⟨v2,vs2,d2,ds2,q2,r2,rfl,rfl,rfl,h2,k2⟩:=trodAll_cons k1;obtain ⟨v3,vs3,d3,ds3,q3,r3,rfl,rfl,rfl,h3,k3⟩:=trodAll_cons k2;obtain ⟨v4,vs4,d4,ds4,q4,r4,rfl,rfl,rfl,h4,k4⟩:=trodAll_cons k3;obtain ⟨rfl,rfl,rfl⟩:=trodAll_nil k4;exact ⟨v0,v1,v2,v3,v4,d0,d1,d2,d3,d4,q0,q1,q2,q3,q4,by cases args;simp_all,rfl,by simp,h0,h1,h2,h3,h4⟩
theorem trodAll_mk5 {t0 t1 t2 t3 t4 : TypeId} {v0 v1 v2 v3 v4 : Value} {d0 d1 d2 d3 d4 : DataW H} {q0 q1 q2 q3 q4 : List MemPlace} (h0 : DataW.Trod enc P w base spare held t0 v0 d0 q0) (h1 : DataW.Trod enc P w base spare held t1 v1 d1 q1) (h2 : DataW.Trod enc P w base spare held t2 v2 d2 q2) (h3 : DataW.Trod enc P w base spare held t3 v3 d3 q3) (h4 : DataW.Trod enc P w base spare held t4 v4 d4 q4) :
    DataW.TrodAll enc P w base spare held [t0,t1,t2,t3,t4] [v0,v1,v2,v3,v4] [d0,d1,d2,d3,d4] (q0 ++ (q1 ++ (q2 ++ (q3 ++ q4)))):=⟨q0,_,h0,trodAll_mk4 h1 h2 h3 h4,rfl⟩
end
end
section
open Go.RowKit Go.Sort Go.ChangeShapes Go.WideShapes Go.ChangeAt
section
variable {H:Type} {enc:TypeId×Value→H} {w:World} {base:Nat→Bool} {spare:Bool}
theorem trod_num {b0:Nat} {fuel:Nat} {cs:List Value} {y:DataW H×List MemPlace} (hl:cs.length=1) (hf:DataW.trod enc prog w b0 base spare fuel 3 cs=some y):∃ x:Int,cs=cI x:=by
 match cs,hl with
 | [v],_=>
  obtain ⟨a0,h4,rfl,_⟩:=DataW.trod_int underlying3 hf;simp at h4;exact ⟨a0,by unfold cI;rw [h4]⟩
theorem open_rowI {r:Reach} {b0 b1:Nat} {v:Value} {d:DataW H} {p:List MemPlace} (hv:Value.okWide prog w r b1 22 v) (h:DataW.Trod enc prog w b0 base spare 22 v d p):∃ (a:Option Addr) (n cap:Nat) (L:List Int),v=.slice a n cap∧L.length=n∧RowAt cI 1 w a L:=by
 obtain ⟨a0,n0,k0,rfl⟩:=okWide_slice underlying22 hv;obtain ⟨fuel,hf⟩:=h;simp only [Value.cells] at hf;rcases Deep.open_slice underlying22 hf with ⟨hcs,_⟩ | ⟨a,len,cap,m,n,D,Pl,hcs,hb,hl,hm,hmm,hx,hi⟩
 ·simp only [jDy,Value.slice.injEq,jE8] at hcs;obtain ⟨rfl,rfl,rfl⟩:=hcs;exact ⟨none,0,0,[],rfl,rfl,fun j x hx=>(by simp at hx)⟩
 ·simp only [jDy,Value.slice.injEq,jE8] at hcs;obtain ⟨rfl,rfl,rfl⟩:=hcs;have hlm:n0≤m:=by rw [hmm];split <;> omega
  have each:∀ i,i < n0→∃ T:Int,∀ j u,(cI T)[j]? = some u→w.cell? ((a.add (i * 1)).add j)=some u:=fun i hin=>by
   obtain ⟨cs',h1,h2⟩:=hi i (by omega);rw [show prog.cellsOf 3=1 by kernel_rfl] at h1;obtain ⟨_,hlen,hcell⟩:=World.cells?_some h1;obtain ⟨T,rfl⟩:=trod_num hlen h2;refine ⟨T,fun j u hu=>?_⟩;rw [hcell j (by have:=(jAj.1 hu).1;rwa [hlen] at this)];exact hu
  obtain ⟨f,hf2⟩:=Deep.choose_lt each;refine ⟨some a,n0,k0,(List.range n0).map f,rfl,by simp,fun j x hx=>?_⟩;rw [jDj] at hx;obtain ⟨i,hi1,rfl⟩:=Option.map_eq_some_iff.1 hx;have hj:j < n0∧i=j:=by
   obtain ⟨h1,h2⟩:=jAj.1 hi1;simp at h1 h2;exact ⟨h1,h2.symm⟩
  obtain ⟨hj,rfl⟩:=hj;have hc:=hf2 i hj;refine ⟨a,rfl,?_,hc⟩;have h4:=hc 0 _ rfl;unfold World.cell? at h4;rw [zAo,zAo] at h4;rcases jCm a.block w.heap.size with h' | h'
  ·exact h'
  ·simp [jE2 h'] at h4
end
end
end Go.Proofs.YtogffkimgmlilaaGreat
