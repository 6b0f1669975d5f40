import Derived.Test.YtmpfadapbbjbkaaGreatPgn2
import Derived.Carry
import Derived.ProofKit
import Derived.Lib.SmallJoins
import Derived.OpenShut
set_option maxRecDepth 100000
set_option maxHeartbeats 8000000
set_option linter.all false
namespace Go.Proofs.YtmpfadapbbjbkaaGreat
open _root_.Go.Proofs.Tryz
section
open Go.RowKit Go.Sort
def eff5 (c0 c1 c2 c3 c4:Value) (b:Nat) (w:World):World:=((((w.setCell ⟨b,0,none⟩ c0).setCell ⟨b,1,none⟩ c1).setCell ⟨b,2,none⟩ c2).setCell ⟨b,3,none⟩ c3).setCell ⟨b,4,none⟩ c4
theorem eff5_spec {c0 c1 c2 c3 c4 z:Value} {T:TypeId} (w:World) (b:Nat) (h:w.heap[b]? = some (.cells [z,z,z,z,z].toArray T)):(eff5 c0 c1 c2 c3 c4 b w).heap[b]? = some (.cells [c0,c1,c2,c3,c4].toArray T)/\(∀ B,B<=b->Below B w (eff5 c0 c1 c2 c3 c4 b w)):=by
 have B0:Box w b [z,z,z,z,z] T:=h;exact ⟨((((B0.set 0 c0).set 1 c1).set 2 c2).set 3 c3).set 4 c4,λB hB=>(((((Below.refl B w).setCell hB _).setCell hB _).setCell hB _).setCell hB _).setCell hB _⟩
theorem rgl5 {P : Program} {id : Nat} {Q : Exit -> Act -> World -> Prop} {a A : Act} {w : World} {l r : List Oper} {c0 c1 c2 c3 c4 : Value} {T : TypeId} {oj os : Oper} (m : Nat) (d t : Tmp)
    (k:∀ w' b,Below w w w'->w.heap.size<=b->b < w'.heap.size->Box w' b [c0,c1,c2,c3,c4] T->wpList P l.toArray Q r (A.put (some d) (.pointer (some ⟨b,0,none⟩))) w')
    (hoj:l.toArray[m]? = some oj:=by rfl) (hos:l.toArray[m+1]? = some os:=by rfl) (hjd:oj.dst=some d:=by rfl) (hafter:oj.after=#[]:=by rfl) (hguard:oj.guard=none:=by rfl) (hsd:os.dst=none:=by rfl) (hsg:os.guard=none:=by rfl)
    (hdsz:d < a.tmps.size:=by simp)
    (hrun:∀ (ρ:Operand->Value) (w:World),(execOp ρ oj).run P w=.ok (.value (.pointer (some ⟨w,0,none⟩))) (w.alloc (.cells #[(),(),(),(),()] T)):=by (intro ρ W;simp [execOp,go_sem];rfl))
    (hm:P.follows .mixedOrders=true:=by kernel_rfl) (hB:lateB .any l.toArray (m+2) m (m+1) d t=true:=by as_aux_lemma=>kernel_rfl)
    (hr:l.drop (m+2)=r:=by (simp only [dP1,dP0];try rfl))
    (h:rWalk P l.toArray (λw'=>∃ p:Regrown,w'=grow (redrawn w p.d) p.os) (λa'=>a'=A) (l.take m) a:=by
     simp only [Jk,QQ];repeat (first | (refine zK (Eq.refl false) ?_;simp only [Act.put,sT2,sT1,sT0]) | (refine rWalk_step (λK hK=>?_);go_simp;first | (refine hK _ ?_;clear hK K) | (apply Exists.intro;refine ⟨λ_=>?_,hK _ ?_⟩;(with_reducible exact toExt (by assumption) _);clear hK K)))
     exact rWalk_nil rfl)
    (he:A.eval (.tmp t)=.agg #[c0,c1,c2,c3,c4]:=by rfl)
    (hst:∀ (ρ:Operand->Value) (w:World) (b:Nat),ρ (.tmp d)=.pointer (some ⟨b,0,none⟩)->ρ (.tmp t)=.agg #[c0,c1,c2,c3,c4]->Box w b [(),(),(),(),()] T->(execOp ρ os).run P w=.ok .skip (eff5 c0 c1 c2 c3 c4 b w):=by
     (intro ρ W b e1 e2 hB;obtain ⟨x,y,_,_⟩:=hB.f;simp [execOp,go_sem,e1,e2,x,y,eff5])):(Code.region id l.toArray true).wp P Q a w:=
 qB m d t [c0,c1,c2,c3,c4] (zs:=[(),(),(),(),()]) (eff:=eff5 c0 c1 c2 c3 c4) eff5_spec hoj hos hjd hafter hguard hsd hsg hdsz hrun hm hB rgB
  (Xt (A:=A) ⟨he,λw' b h1 h2 h3 h4=>by rw [hr];exact k w' b h1 h2 h3 h4⟩ _ _ _ h) hst
attribute [local go_sem] rOper rAt rUpon cell_set sg_i64 sg_u64 alloc_cell alloc_frozen
attribute [local go_sem 10000] pt_eql pt_neq tri_eql
attribute [local irreducible] rWalk
theorem ks (T:Tri3) (a b:Pt) (w:World):Calls prog 170 #[T,a,b] w (Rt w (.agg #[.int .i64 (apx T a b).x,.int .i64 (apx T a b).y])):=by
 unfold apx;cases a0:peqI T.A.x T.A.y a.x a.y with
 | false=>
  cases b0:peqI T.A.x T.A.y b.x b.y with
  | false=>rw [J1 ⟨rfl,rfl⟩];exact apex_0 T a b a0 b0 w
  | true=>
   rw [Kl (by simp)];cases a1:peqI T.B.x T.B.y a.x a.y with
   | false=>
    cases b1:peqI T.B.x T.B.y b.x b.y with
    | false=>rw [J1 ⟨rfl,rfl⟩];exact apex_20 T a b a0 b0 a1 b1 w
    | true=>rw [Kl (by simp)];exact apex_22 T a b a0 b0 a1 b1 w
   | true=>rw [Kl (by simp)];exact apex_21 T a b a0 b0 a1 w
 | true=>
  rw [Kl (by simp)];cases a1:peqI T.B.x T.B.y a.x a.y with
  | false=>
   cases b1:peqI T.B.x T.B.y b.x b.y with
   | false=>rw [J1 ⟨rfl,rfl⟩];exact apex_10 T a b a0 a1 b1 w
   | true=>rw [Kl (by simp)];exact apex_12 T a b a0 a1 b1 w
  | true=>rw [Kl (by simp)];exact apex_11 T a b a0 a1 w
theorem ux (mb b:Nat) (E:Es) (a1 a2:Option Addr) (cap1 cap2 n1 n2:Nat) (L1 L2:List Tri3) (hn1:Hi (L1.length=n1)) (hm1:n1<=1000000) (hok1:∀ T∈L1,okT T) (hn2:Hi (L2.length=n2)) (hm2:n2<=1000000) (hok2:∀ T∈L2,okT T) (h1:(takeRun E L1).1=n1) (h2:(putRun (takeRun E L1).2 L2).1=n2) (w:World) (Bm:Box w mb [.map (some b)] 102) (Hm:Hs w b E) (Hr1:RowAt cT 6 w a1 L1) (Hr2:RowAt cT 6 w a2 L2):Calls prog 42 #[pt0 mb,.slice a1 n1 cap1,.slice a2 n2 cap2] w λe w'=>e=.returned (.int .i64 0)/\w.grownBy w' (some b)/\Hs w' b (putRun (takeRun E L1).2 L2).2:=by
 have c1:=jF mb b E a1 cap1 n1 L1 hn1 hm1 hok1;rw [h1] at c1;generalize (takeRun E L1).2=F at *
 have c2:=jV mb b F a2 cap2 n2 L2 hn2 hm2 hok2;rw [h2] at c2;generalize (putRun F L2).2=G at *
 clear h1 h2 hok1 hok2 hn1 hn2;have d1:decide ((n1:Int) < (n1:Int))=false:=by simp
 have d2:decide ((n2:Int) < (n2:Int))=false:=by simp
 go_enter func42,ntmps42
 go_wp2_with fail;refine (c1 _ Bm Hm Hr1).mono ?_;rintro e w1 ⟨rfl,hg,H1⟩;replace Bm:=Bm.turn Hm hg;replace Hr2:=Hr2.turn cT_ne Hm hg;clear Hm Hr1;go_wp2_with fail;refine (c2 _ Bm H1 Hr2).mono ?_;rintro e w2 ⟨rfl,hh,H2⟩;replace hg:=zQ hg hh;clear hh;go_wp2
 go_ret
 exact ⟨rfl,hg,H2⟩
theorem jy {w:World} {g:Nat} {S:List Tri3} (h:Box w g (S.flatMap cT) 28):RowAt cT 6 w (some ⟨g,0,none⟩) S:=λj x hj=>by
 have hl:=(JF.1 hj);refine ⟨_,rfl,h.lt,λi u hu=>?_⟩;have hi:i < 6:=(JF.1 hu).1;rw [Addr.add_lit,Addr.add_lit,h.f.1,Q9,yL kr S j i x hj hi];exact hu
theorem flip_n0 (mb b:Nat) (E:Es) (p q:Pt) (hk:okW (p,q)) (h0:getE E (p,q)=none) (w:World) (Bm:Box w mb [.map (some b)] 102) (Hm:Hs w b E):Calls prog 135 #[pt0 mb,p,q] w (Rt w (.int .i64 16)):=by
 have cl:=Xo mb b E p q h0 hk;clear h0
 go_enter func135,ntmps135
 go_wp2_with fail;refine qE2 λW1 Bp Bq hw=>?_;refine qC2 (cl _ (Bm.ee hw) (Hm.ee hw)) Bp Bq hw λw2 Bp Bq hw FK=>?_;go_wp2
 go_ret
 exact ⟨rfl,by have hl:=hw.size;go_grown⟩
theorem flip_n1 (mb b:Nat) (E:Es) (p q:Pt) (hk:okW (p,q)) (S:Tri3) (h0:getE E (p,q)=some S) (h1:getE E (q,p)=none) (w:World) (Bm:Box w mb [.map (some b)] 102) (Hm:Hs w b E):Calls prog 135 #[pt0 mb,p,q] w (Rt w (.int .i64 16)):=by
 have cl:=Z4 mb b E p q S h0 hk;have cr:=Xo mb b E q p h1 ⟨hk.2,hk.1⟩;clear h0 h1
 go_enter func135,ntmps135
 go_wp2_with fail;refine qE2 λW1 Bp Bq hw=>?_;refine qC2 (cl _ (Bm.ee hw) (Hm.ee hw)) Bp Bq hw λw2 Bp Bq hw FK=>?_;go_wp2_with fail;clear FK;refine zI λW3 hW=>?_;obtain ⟨bks,hbs⟩:∃ b,w2.heap.size=b:=⟨_,rfl⟩;rw [hbs];obtain ⟨lps,lqs,fs,Bs,Bp,Bq,hw⟩:=qM2 hW hbs Bp Bq hw;clear hW hbs;refine qC3 (cr _ (Bm.ee hw) (Hm.ee hw)) Bp Bq Bs hw λw4 Bp Bq Bs hw Gu=>?_;go_wp2
 go_ret
 exact ⟨rfl,by have hl:=hw.size;go_grown⟩
theorem rsquare_any (W H:Int) (w:World):Calls prog 69 #[W,H] w (Rt w (.agg #[(),(),W,(),W,H,(),H])):=by
 go_enter func69,ntmps69
 go_wp2_with fail;generalize hW:w.alloc (.cells #[(),(),W,(),W,H,(),H] 115)=W1
 have Bq:Box W1 w [(),(),W,(),W,H,(),H] 115:=by rw [<-hW];exact Box.new rfl
 have hw:Below w w W1:=by rw [<-hW];go_grown
 clear hW;have Fq:=Bq.f;refine bodyPost_ret (v:=.agg #[(),(),W,(),W,H,(),H]) (by simp [results,results69,go_sem,Fq]) rfl ⟨rfl,hw⟩
def sqP (W H:Int) (k:Nat):Pt:=if k % 4=0 then ⟨0,0⟩ else if k % 4=1 then ⟨W,0⟩ else if k % 4=2 then ⟨W,H⟩ else ⟨0,H⟩
def sqW (W H:Int) (k:Nat):Wl:=mkW (sqP W H k) (sqP W H (k+1)) 2
theorem xu (a b:Pt):0<=(mkW a b 2).K/\(mkW a b 2).K<=2:=by
 unfold mkW;split <;> simp
theorem round_eqC {i n:Int} (hn:0 < n) (hn2:n<=4294967296):(wrap64 (i.tmod n+n)).tmod n=i % n:=by
 have h1:0<=i % n:=Vl i (by omega);have h2:i % n < n:=Vc i hn;have h3:i.tmod n=i % n\/i.tmod n=i % n - n:=by
  have h := @Int.tmod_eq_emod i n;split at h
  ·left;omega
  ·right;rw [h];omega
 have h4:wrap64 (i.tmod n+n)=i.tmod n+n:=by rw [w64];omega
 rw [h4,Vh (by omega)];rcases h3 with h | h <;> rw [h]
 ·rw [Int.add_emod_right];exact Int.emod_eq_of_lt h1 h2
 ·rw [show i % n - n+n=i % n by omega];exact Int.emod_eq_of_lt h1 h2
theorem round_C {i n:Int} (hn:0 < n) (hn2:n<=4294967296) (w:World):Calls prog 22 #[i,n] w (Rt w (.int .i64 (i % n))):=by
 rw [<-round_eqC hn hn2];have h0:(n == 0)=false:=by simp;omega
 have h1:n≠0:=by omega
 go_enter func22,ntmps22
 go_wp2;all_goals go_ret
 all_goals exact ⟨rfl,by go_grown⟩
def spt (s n:Int):Pt:=⟨n % ((s+1) * (s+1)) % (s+1),n % ((s+1) * (s+1)) / (s+1)⟩
theorem YS {s:Int} (hs:0 < s) (n:Int):inBox s s (spt s n):=by
 have hp:0 < (s+1) * (s+1):=JI (by omega) (by omega);have h1:=Vl n (b:=(s+1) * (s+1)) (by omega);have h2:=Vc n hp;have h3:=Vl (n % ((s+1) * (s+1))) (b:=s+1) (by omega);have h4:=Vc (n % ((s+1) * (s+1))) (b:=s+1) (by omega);have h5:0<=n % ((s+1) * (s+1)) / (s+1):=Int.ediv_nonneg h1 (by omega);have h6:n % ((s+1) * (s+1)) / (s+1) < s+1:=Int.ediv_lt_of_lt_mul (by omega) h2;unfold inBox spt;simp only;omega
theorem vu (s n:Int) (hs:0 < s) (hs2:s<=60) (w:World):Calls prog 21 #[s,n] w (Rt w (.agg #[.int .i64 (spt s n).x,.int .i64 (spt s n).y])):=by
 have hp:0 < (s+1) * (s+1):=JI (by omega) (by omega);have hp2:(s+1) * (s+1)<=4000:=by
  have:=Int.mul_le_mul (a:=s+1) (b:=s+1) (c:=61) (d:=61) (by omega) (by omega) (by omega) (by omega);omega
 have cr:=round_C (i:=n) (n:=(s+1) * (s+1)) hp (by omega);have hk1:=Vl n (b:=(s+1) * (s+1)) (by omega);have hk2:=Vc n hp;have hb:=YS hs n;have HE:=hdd (show spt s n=⟨n % ((s+1) * (s+1)) % (s+1),n % ((s+1) * (s+1)) / (s+1)⟩ from rfl);have hw1:wrap64 ((s+1) * (s+1))=(s+1) * (s+1):=by rw [w64];omega
 have hk3:n % ((s+1) * (s+1)) < 4000:=by omega
 have HB:=hdd hb;generalize n % ((s+1) * (s+1))=k at *
 have ht1:Int.tmod k (s+1)=k % (s+1):=Vh hk1;have ht2:Int.tdiv k (s+1)=k / (s+1):=Int.tdiv_eq_ediv_of_nonneg hk1
 go_enter func21,ntmps21
 have h5:0<=k / (s+1):=Int.ediv_nonneg hk1 (by omega);have h6:k / (s+1)<=k:=Int.ediv_le_self _ hk1;have h7:=Vl k (b:=s+1) (by omega);have h8:=Vc k (b:=s+1) (by omega);have n0:s+1≠0:=by omega
 have n1:(s+1 == 0)=false:=by simp;omega
 have n2:(s+1=0)=False:=by simp;omega
 have a1:IntKind.i64.wrap (s+1)=s+1:=by rw [IntKind.wrap_i64];omega
 have a2:IntKind.i64.wrap (k / (s+1))=k / (s+1):=by rw [IntKind.wrap_i64];omega
 have a3:IntKind.i64.wrap (k % (s+1))=k % (s+1):=by rw [IntKind.wrap_i64];omega
 have HK:=hdd (show True from trivial);clear hb hp hp2 hk2 hk3;go_wp2_with fail;refine zI λW1 hW=>?_;have Br:Box W1 w [(),()] 26:=by rw [hW];exact Box.new rfl
 have hw:Below w w W1:=by rw [hW];go_grown
 clear hW;refine (cr _).mono ?_;rintro e w2 ⟨rfl,hb⟩;have Br2:=Br.ee hb;have hw2:=(upB hw hb);clear hb Br hw cr;have Fr:=Br2.f;go_wp2_with fail;clear Fr;have gr:=Br2.cells;refine rgn 9 (λw3 hb=>?_);clear gr;have Br3:=Br2.ee hb;have hw3:=(upB hw2 hb);clear hb Br2 hw2;have Fr:=Br3.f;go_wp2_with fail;refine bodyPost_ret (v:=.agg #[.int .i64 (k % (s+1)),.int .i64 (k / (s+1))]) (by simp [results,results21,go_sem,Fr]) rfl ⟨by rw [HE.o],by have hl:=hw3.size;go_grown⟩
def cI (x:Int):List Value:=[x]
theorem RowAt.num {w:World} {a:Option Addr} {P:List Int} (h:RowAt cI 1 w a P) {j:Nat} (hj:j < P.length):∃ ad,a=some ad/\ad.block < w.heap.size/\w.cell? (ad.add j)=some (.int .i64 P[j]):=by
 obtain ⟨ad,h1,h2,h3⟩:=h j P[j] (JC hj);have h4:=h3 0 (.int .i64 P[j]) rfl;rw [Nat.mul_one,show ∀ A:Addr,A.add 0=A from λA=>by unfold Addr.add;split <;> simp_all] at h4;exact ⟨ad,h1,h2,h4⟩
def PutPt (s:Int) (P:List Int) (q:Pt):Prop:=(q=⟨0,0⟩\/q=⟨s,0⟩\/q=⟨s,s⟩\/q=⟨0,s⟩)\/∃ x∈P,q=spt s x
section
open Go.ChangeShapes Go.WideShapes Go.ChangeAt
section
variable {H:Type} {enc:TypeId×Value->H} {w:World} {base:Nat->Bool} {spare:Bool}
theorem trod_num {b0:Nat} {fuel:Nat} {cs:List Value} {y:DataW H×List MemPlace} (hl:cs.length=1) (hf:DataW.trod enc prog w b0 base spare fuel 3 cs=some y):∃ x:Int,cs=cI x:=by
 match cs,hl with
 | [v],_=>
  obtain ⟨a0,h4,rfl,_⟩:=DataW.trod_int underlying3 hf;simp at h4;exact ⟨a0,by unfold cI;rw [h4]⟩
theorem open_rowI {r:Reach} {b0 b1:Nat} {v:Value} {d:DataW H} {p:List MemPlace} (hv:Value.okWide prog w r b1 22 v) (h:DataW.Trod enc prog w b0 base spare 22 v d p):∃ (a:Option Addr) (n cap:Nat) (L:List Int),v=.slice a n cap/\L.length=n/\RowAt cI 1 w a L:=by
 obtain ⟨a0,n0,k0,rfl⟩:=okWide_slice underlying22 hv;obtain ⟨fuel,hf⟩:=h;simp only [Value.cells] at hf;rcases Deep.open_slice underlying22 hf with ⟨hcs,_⟩ | ⟨a,len,cap,m,n,D,Pl,hcs,hb,hl,hm,hmm,hx,hi⟩
 ·simp only [V1,Value.slice.injEq,Va] at hcs;obtain ⟨rfl,rfl,rfl⟩:=hcs;exact ⟨none,0,0,[],rfl,rfl,λj x hx=>(by simp at hx)⟩
 ·simp only [V1,Value.slice.injEq,Va] at hcs;obtain ⟨rfl,rfl,rfl⟩:=hcs;have hlm:n0<=m:=by rw [hmm];split <;> omega
  have each:∀ i,i < n0->∃ T:Int,∀ j u,(cI T)[j]? = some u->w.cell? ((a.add (i * 1)).add j)=some u:=λi hin=>by
   obtain ⟨cs',h1,h2⟩:=hi i (by omega);rw [show prog.cellsOf 3=1 by kernel_rfl] at h1;obtain ⟨_,hlen,hcell⟩:=World.cells?_some h1;obtain ⟨T,rfl⟩:=trod_num hlen h2;refine ⟨T,λj u hu=>?_⟩;rw [hcell j (by have:=(JF.1 hu).1;rwa [hlen] at this)];exact hu
  obtain ⟨f,hf2⟩:=Deep.choose_lt each;refine ⟨some a,n0,k0,(List.range n0).map f,rfl,by simp,λj x hx=>?_⟩;rw [Qv] at hx;obtain ⟨i,hi1,rfl⟩:=Vm.1 hx;have hj:j < n0/\i=j:=by
   obtain ⟨h1,h2⟩:=JF.1 hi1;simp at h1 h2;exact ⟨h1,h2.symm⟩
  obtain ⟨hj,rfl⟩:=hj;have hc:=hf2 i hj;refine ⟨a,rfl,?_,hc⟩;have h4:=hc 0 _ rfl;unfold World.cell? at h4;rw [zi,zi] at h4;rcases QS a.block w.heap.size with h' | h'
  ·exact h'
  ·simp [VG h'] at h4
end
end
section
open Go.ChangeShapes Go.WideShapes Go.ChangeAt
section
variable {H:Type} {enc:TypeId×Value->H} {w:World} {base:Nat->Bool} {spare:Bool}
theorem trod_two {b0:Nat} {fuel:Nat} {cs:List Value} {y:DataW H×List MemPlace} (hl:cs.length=2) (hf:DataW.trod enc prog w b0 base spare fuel 74 cs=some y):∃ x:Pt,cs=cP x:=by
 match cs,hl with
 | [v0,v1],_=>
  obtain ⟨xs,m,rfl,_,_,hx,hi⟩:=DataW.trod_array underlying74 hf;have e1:prog.cellsOf 3=1:=by kernel_rfl
  have h0:=hi 0 (by omega);have h1:=hi 1 (by omega);rw [e1] at h0 h1;simp at h0 h1;rw [JC (by omega)] at h0 h1;obtain ⟨a0,k0,_⟩:=DataW.trod_int underlying3 h0;obtain ⟨a1,k1,_⟩:=DataW.trod_int underlying3 h1;simp at k0 k1;exact ⟨⟨a0,a1⟩,by unfold cP;rw [k0,k1]⟩
theorem open_rowP2 {r:Reach} {b0 b1:Nat} {v:Value} {d:DataW H} {p:List MemPlace} (hv:Value.okWide prog w r b1 23 v) (h:DataW.Trod enc prog w b0 base spare 23 v d p):∃ (a:Option Addr) (n cap:Nat) (L:List Pt),v=.slice a n cap/\L.length=n/\RowAt cP 2 w a L:=by
 obtain ⟨a0,n0,k0,rfl⟩:=okWide_slice underlying23 hv;obtain ⟨fuel,hf⟩:=h;simp only [Value.cells] at hf;rcases Deep.open_slice underlying23 hf with ⟨hcs,_⟩ | ⟨a,len,cap,m,n,D,Pl,hcs,hb,hl,hm,hmm,hx,hi⟩
 ·simp only [V1,Value.slice.injEq,Va] at hcs;obtain ⟨rfl,rfl,rfl⟩:=hcs;exact ⟨none,0,0,[],rfl,rfl,λj x hx=>(by simp at hx)⟩
 ·simp only [V1,Value.slice.injEq,Va] at hcs;obtain ⟨rfl,rfl,rfl⟩:=hcs;have hlm:n0<=m:=by rw [hmm];split <;> omega
  have each:∀ i,i < n0->∃ T:Pt,∀ j u,(cP T)[j]? = some u->w.cell? ((a.add (i * 2)).add j)=some u:=λi hin=>by
   obtain ⟨cs',h1,h2⟩:=hi i (by omega);rw [show prog.cellsOf 74=2 by kernel_rfl] at h1;obtain ⟨_,hlen,hcell⟩:=World.cells?_some h1;obtain ⟨T,rfl⟩:=trod_two hlen h2;refine ⟨T,λj u hu=>?_⟩;rw [hcell j (by have:=(JF.1 hu).1;rwa [hlen] at this)];exact hu
  obtain ⟨f,hf2⟩:=Deep.choose_lt each;refine ⟨some a,n0,k0,(List.range n0).map f,rfl,by simp,λj x hx=>?_⟩;rw [Qv] at hx;obtain ⟨i,hi1,rfl⟩:=Vm.1 hx;have hj:j < n0/\i=j:=by
   obtain ⟨h1,h2⟩:=JF.1 hi1;simp at h1 h2;exact ⟨h1,h2.symm⟩
  obtain ⟨hj,rfl⟩:=hj;have hc:=hf2 i hj;refine ⟨a,rfl,?_,hc⟩;have h4:=hc 0 _ rfl;unfold World.cell? at h4;rw [zi,zi] at h4;rcases QS a.block w.heap.size with h' | h'
  ·exact h'
  ·simp [VG h'] at h4
end
end
attribute [local go_sem] rmap_nil
theorem rmhas_1H (mb b:Nat) (E:Es) (T:Tri3) (S:Tri3) (hg:getE E (T.A,T.B)=some S) (hk:okT T) (w:World) (Bm:Box w mb [.map (some b)] 93) (Hm:Hs w b E):Calls prog 30 #[pt0 mb,T] w (Rt w (.bool (teq S T))):=by
 go_enter func30,ntmps30
 go_wp2_with fail;refine qD1 λW1 Bt hw=>?_;have BM:Box W1 (mb) [.map (some b)] 93:=Bm.ee hw;have hl:∀ d os,(Instr.lookup 91 (.map (some b)) (.agg #[T.A.x,T.A.y,T.B.x,T.B.y]) true).run prog (grow (redrawn W1 d) os)=.ok (.tuple #[S,.bool true]) (grow (redrawn W1 d) os):=λd os=>((Hm.ee hw).ext (below_regrown W1 d os) rfl).look_some kvR yA (okT_w hk).1 hg;clear hg;have Kz:=J2 Bt.cells BM.cells;refine rgl 13 5 18 (λw2 bks hb h1b h2b Bs=>?_);have lts:=Bt.lt;have lMs:=BM.lt;have hw0z:=hw.size;clear Kz;obtain ⟨Bt,BM,hw,-⟩:=qX2 Bt BM hw hb;have fs:=h1b;have hwz:w.heap.size<=W1.heap.size:=hw0z;clear hb h1b h2b hw0z;simp only [Act.put];clear hl hk;have Ru:=J3 Bt.f BM.f Bs.f;go_wp2
 go_ret
 exact ⟨rfl,by have hl:=hw.size;go_grown⟩
theorem rmhas_0H (mb b:Nat) (E:Es) (T:Tri3) (hg:getE E (T.A,T.B)=none) (hk:okT T) (w:World) (Bm:Box w mb [.map (some b)] 93) (Hm:Hs w b E):Calls prog 30 #[pt0 mb,T] w (Rt w (.bool false)):=by
 go_enter func30,ntmps30
 go_wp2_with fail;refine qD1 λW1 Bt hw=>?_;have BM:Box W1 (mb) [.map (some b)] 93:=Bm.ee hw;have hl:∀ d os,(Instr.lookup 91 (.map (some b)) (.agg #[T.A.x,T.A.y,T.B.x,T.B.y]) true).run prog (grow (redrawn W1 d) os)=.ok (.tuple #[.agg #[(),(),(),(),(),()],.bool false]) (grow (redrawn W1 d) os):=λd os=>((Hm.ee hw).ext (below_regrown W1 d os) rfl).look_none kvR yA (okT_w hk).1 hg;clear hg;have Kz:=J2 Bt.cells BM.cells;refine rgl 13 5 18 (λw2 bks hb h1b h2b Bs=>?_);have lts:=Bt.lt;have lMs:=BM.lt;have hw0z:=hw.size;clear Kz;obtain ⟨Bt,BM,hw,-⟩:=qX2 Bt BM hw hb;have fs:=h1b;have hwz:w.heap.size<=W1.heap.size:=hw0z;clear hb h1b h2b hw0z;simp only [Act.put];clear hl hk;have Ru:=J3 Bt.f BM.f Bs.f;go_wp2
 go_ret
 exact ⟨rfl,by have hl:=hw.size;go_grown⟩
theorem rmhas_anyH (mb b:Nat) (E:Es) (T:Tri3) (hk:okT T) (w:World) (Bm:Box w mb [.map (some b)] 93) (Hm:Hs w b E):Calls prog 30 #[pt0 mb,T] w (Rt w (.bool (hasE E T))):=by
 cases h:getE E (T.A,T.B) with
 | none=>rw [show hasE E T=false by unfold hasE;rw [h]];exact rmhas_0H mb b E T h hk w Bm Hm
 | some S=>rw [show hasE E T=teq S T by unfold hasE;rw [h]];exact rmhas_1H mb b E T S h hk w Bm Hm
theorem scale_leH {E x y D:Int} (hE:0 < E) (hD:0 < D) (h:E * x=y * D):0<=x↔0<=y:=by
 have:=jB hE h;rw [sgn_p hD,Int.mul_one] at this;have h1:=zL x;have h2:=zL y;omega
theorem seg_iffH {a b c p:Pt} (va:vld a=true) (vb:vld b=true) (vp:vld p=true) (hD:0 < det a b c) (h:det a b p=0):onR p a b=true↔0<=det b c p/\0<=det c a p:=by
 have hab:a≠b:=by
  intro e;subst e;have:det a a c=0:=by unfold det;grind
  omega
 have hE:=ZF hab;obtain ⟨c1,c2⟩:=coll h;obtain ⟨c3,c4⟩:=coll2 h;have hb:=btw_k hab h;have e1:EE a b * det b c p=(EE a b - kk a b p) * det a b c:=by
  generalize EE a b=E at *
  generalize kk a b p=k at *
  unfold det at *;grind
 have e2:EE a b * det c a p=kk a b p * det a b c:=by
  generalize EE a b=E at *
  generalize kk a b p=k at *
  unfold det at *;grind
 have s1:=scale_leH hE hD e1;have s2:=scale_leH hE hD e2;unfold onR;rw [vp,va,vb,h,Qi rfl,Qj,Qj,Qj,Qj,hb];omega
theorem on_detH {p a b:Pt} (h:onR p a b=true):det a b p=0:=by
 unfold onR at h;simp only [Ko,Kn] at h;exact h.2.2.2.1
theorem on_vldH {p a b:Pt} (h:onR p a b=true):vld p=true:=by
 unfold onR at h;simp only [Ko] at h;exact h.1
theorem seg_onH {a b c p:Pt} (va:vld a=true) (vb:vld b=true) (vp:vld p=true) (hD:0 < det a b c):onR p a b=true↔det a b p=0/\0<=det b c p/\0<=det c a p:=by
 constructor
 ·intro h;exact ⟨on_detH h,(seg_iffH va vb vp hD (on_detH h)).1 h⟩
 ·intro ⟨h,k⟩;exact (seg_iffH va vb vp hD h).2 k
attribute [local go_sem 10000] tri_neq
theorem rflip_n0 (mb b:Nat) (E:Es) (p q:Pt) (hk:okW (p,q)) (h0:getE E (p,q)=none) (w:World) (Bm:Box w mb [.map (some b)] 93) (Hm:Hs w b E):Calls prog 94 #[pt0 mb,p,q] w (Rt w (.int .i64 16)):=by
 have cl:=zZ mb b E p q hk;have cr:=zZ mb b E q p ⟨hk.2,hk.1⟩;rw [yV h0] at cl;generalize lftE E q p=Z at cr
 obtain ⟨Y,y⟩:=Z;dsimp only at cr;clear h0
 go_enter func94,ntmps94
 go_wp2_with fail;refine qE2 λW1 Bp Bq hw=>?_;refine qC2 (cl _ (Bm.ee hw) (Hm.ee hw)) Bp Bq hw λw2 Bp Bq hw FK=>?_;go_wp2_with fail;clear FK;refine zI λW3 hW=>?_;obtain ⟨bks,hbs⟩:∃ b,w2.heap.size=b:=⟨_,rfl⟩;rw [hbs];obtain ⟨lps,lqs,fs,Bs,Bp,Bq,hw⟩:=qM2 hW hbs Bp Bq hw;clear hW hbs;refine qC3 (cr _ (Bm.ee hw) (Hm.ee hw)) Bp Bq Bs hw λw4 Bp Bq Bs hw Gu=>?_;go_wp2
 go_ret
 exact ⟨rfl,by have hl:=hw.size;go_grown⟩
theorem rflip_n1 (mb b:Nat) (E:Es) (p q:Pt) (hk:okW (p,q)) (S:Tri3) (h0:getE E (p,q)=some S) (h1:getE E (q,p)=none) (w:World) (Bm:Box w mb [.map (some b)] 93) (Hm:Hs w b E):Calls prog 94 #[pt0 mb,p,q] w (Rt w (.int .i64 16)):=by
 have cl:=zZ mb b E p q hk;have cr:=zZ mb b E q p ⟨hk.2,hk.1⟩;rw [zf h0] at cl;rw [yV h1] at cr;clear h0 h1
 go_enter func94,ntmps94
 go_wp2_with fail;refine qE2 λW1 Bp Bq hw=>?_;refine qC2 (cl _ (Bm.ee hw) (Hm.ee hw)) Bp Bq hw λw2 Bp Bq hw FK=>?_;go_wp2_with fail;clear FK;refine zI λW3 hW=>?_;obtain ⟨bks,hbs⟩:∃ b,w2.heap.size=b:=⟨_,rfl⟩;rw [hbs];obtain ⟨lps,lqs,fs,Bs,Bp,Bq,hw⟩:=qM2 hW hbs Bp Bq hw;clear hW hbs;refine qC3 (cr _ (Bm.ee hw) (Hm.ee hw)) Bp Bq Bs hw λw4 Bp Bq Bs hw Gu=>?_;go_wp2
 go_ret
 exact ⟨rfl,by have hl:=hw.size;go_grown⟩
theorem rflip_o1 (mb b:Nat) (E:Es) (p q:Pt) (hk:okW (p,q)) (S R:Tri3) (C D:Pt) (h0:getE E (p,q)=some S) (h1:getE E (q,p)=some R) (hC:apx S p q=C) (hD:apx R p q=D) (o1:decide (ori p D C<=0)=true) (w:World) (Bm:Box w mb [.map (some b)] 93) (Hm:Hs w b E):Calls prog 94 #[pt0 mb,p,q] w (Rt w (.int .i64 2)):=by
 have cl:=zZ mb b E p q hk;have cr:=zZ mb b E q p ⟨hk.2,hk.1⟩;rw [zf h0] at cl;rw [zf h1] at cr;clear h0 h1;have ca:=x9 S p q;have cb:=x9 R p q;have c1:=zH p D C;have c2:=zH D q C;rw [hC] at ca;rw [hD] at cb;clear hC hD
 go_enter func94,ntmps94
 go_wp2_with fail;refine qE2 λW1 Bp Bq hw=>?_;refine qC2 (cl _ (Bm.ee hw) (Hm.ee hw)) Bp Bq hw λw2 Bp Bq hw FK=>?_;go_wp2_with fail;clear FK;refine zI λW3 hW=>?_;obtain ⟨bks,hbs⟩:∃ b,w2.heap.size=b:=⟨_,rfl⟩;rw [hbs];obtain ⟨lps,lqs,fs,Bs,Bp,Bq,hw⟩:=qM2 hW hbs Bp Bq hw;clear hW hbs;refine qC3 (cr _ (Bm.ee hw) (Hm.ee hw)) Bp Bq Bs hw λw4 Bp Bq Bs hw Gu=>?_;go_wp2_with fail;clear Gu;refine zG λW5 hW=>?_;obtain ⟨bkr,hbr⟩:∃ b,w4.heap.size=b:=⟨_,rfl⟩;rw [hbr];obtain ⟨lpr,lqr,lsr,fr,Br,Bp,Bq,Bs,hw⟩:=qM3 hW hbr Bp Bq Bs hw;clear hW hbr;have Gt:=J4 Bp.cells Bq.cells Bs.cells Br.cells;refine zl 10 [⟨8,11,26,[(),()]⟩,⟨9,12,26,[(),()]⟩] ?_ (by kernel_rfl) (by decide) (by decide) (by kernel_rfl) (by decide) (C:=λw'=>∃ p:Regrown,w'=grow (redrawn W5 p.d) p.os) rgB ?_
 ·simp only [QM];refine ⟨⟨_,rfl,rfl,rfl,rfl,λρ W=>by simp [execOp,go_sem]⟩,⟨_,rfl,rfl,rfl,rfl,λρ W=>by simp [execOp,go_sem]⟩,λ_ h=>(by cases h)⟩
 simp only [Jk,QQ,Jc,Qy,dropIdx,QW,Qa,Nat.reduceBEq,Nat.reduceAdd,Qx,V4,V5,Jw,VS,VL];refine wkx ?_;intro w6 β hL;simp only [putD,Q7,QC];have qc:=hL.box ⟨8,11,26,[(),()]⟩ (by simp) (by simp);simp only at qc;have qd:=hL.box ⟨9,12,26,[(),()]⟩ (by simp) (by simp);simp only at qd;have ncd:=hL.apart 11 (by simp) 12 (by simp) (by decide);have ndc:=hL.apart 12 (by simp) 11 (by simp) (by decide);have hb:=hL.below;have lp:=Bp.lt;have lq:=Bq.lt;have ls:=Bs.lt;have lr:=Br.lt;clear Gt;replace Bp:=Bp.ee hb;replace Bq:=Bq.ee hb;replace Bs:=Bs.ee hb;replace Br:=Br.ee hb;have hw0:=hw.size;replace hw:=upB hw hb;clear hb hL;generalize β 11=bkc at *
 generalize β 12=bkd at *
 clear β;obtain ⟨fc,Bc⟩:=qc;obtain ⟨fd,Bd⟩:=qd;simp only [Act.put];have Fc:=Bc.f;have Fd:=Bd.f;have Fp:=Bp.f;have Fq:=Bq.f;have Fs:=Bs.f;have Fr:=Br.f;have epbkc:(w.heap.size=bkc)=False:=by simp;omega
 have epbkc':(bkc=w.heap.size)=False:=by simp;omega
 have epbkd:(w.heap.size=bkd)=False:=by simp;omega
 have epbkd':(bkd=w.heap.size)=False:=by simp;omega
 have eqbkc:(w.heap.size+1=bkc)=False:=by simp;omega
 have eqbkc':(bkc=w.heap.size+1)=False:=by simp;omega
 have eqbkd:(w.heap.size+1=bkd)=False:=by simp;omega
 have eqbkd':(bkd=w.heap.size+1)=False:=by simp;omega
 have esbkc:(bks=bkc)=False:=by simp;omega
 have esbkc':(bkc=bks)=False:=by simp;omega
 have esbkd:(bks=bkd)=False:=by simp;omega
 have esbkd':(bkd=bks)=False:=by simp;omega
 have erbkc:(bkr=bkc)=False:=by simp;omega
 have erbkc':(bkc=bkr)=False:=by simp;omega
 have erbkd:(bkr=bkd)=False:=by simp;omega
 have erbkd':(bkd=bkr)=False:=by simp;omega
 have ebkcbkd:(bkc=bkd)=False:=by simp;omega
 have ebkdbkc:(bkd=bkc)=False:=by simp;omega
 go_wp2_with fail;refine zI λW7 hW=>?_;replace Bp:=sto Bp hW;replace Bq:=sto Bq hW;replace Bs:=sto Bs hW;replace Br:=sto Br hW;replace Bc:=sto Bc hW;replace Bd:=sto Bd hW;replace hw:=stw hw hW;clear Fc Fd;clear Fp Fq Fs Fr epbkc epbkc' epbkd epbkd' eqbkc eqbkc' eqbkd eqbkd' esbkc esbkc' esbkd esbkd' erbkc erbkc' erbkd erbkd' ebkcbkd ebkdbkc;clear hW;refine qK6 (c1 _) Bp Bq Bs Br Bc Bd hw λw8 Bp Bq Bs Br Bc Bd hw=>?_;have Fp:=Bp.f;have Fq:=Bq.f;have Fs:=Bs.f;have Fr:=Br.f;have Fc:=Bc.f;have Fd:=Bd.f;go_wp2
 go_ret
 exact ⟨rfl,by have hl:=hw.size;go_grown⟩
theorem rflip_o2 (mb b:Nat) (E:Es) (p q:Pt) (hk:okW (p,q)) (S R:Tri3) (C D:Pt) (h0:getE E (p,q)=some S) (h1:getE E (q,p)=some R) (hC:apx S p q=C) (hD:apx R p q=D) (o1:decide (ori p D C<=0)=false) (o2:decide (ori D q C<=0)=true) (w:World) (Bm:Box w mb [.map (some b)] 93) (Hm:Hs w b E):Calls prog 94 #[pt0 mb,p,q] w (Rt w (.int .i64 2)):=by
 have cl:=zZ mb b E p q hk;have cr:=zZ mb b E q p ⟨hk.2,hk.1⟩;rw [zf h0] at cl;rw [zf h1] at cr;clear h0 h1;have ca:=x9 S p q;have cb:=x9 R p q;have c1:=zH p D C;have c2:=zH D q C;rw [hC] at ca;rw [hD] at cb;clear hC hD
 go_enter func94,ntmps94
 go_wp2_with fail;refine qE2 λW1 Bp Bq hw=>?_;refine qC2 (cl _ (Bm.ee hw) (Hm.ee hw)) Bp Bq hw λw2 Bp Bq hw FK=>?_;go_wp2_with fail;clear FK;refine zI λW3 hW=>?_;obtain ⟨bks,hbs⟩:∃ b,w2.heap.size=b:=⟨_,rfl⟩;rw [hbs];obtain ⟨lps,lqs,fs,Bs,Bp,Bq,hw⟩:=qM2 hW hbs Bp Bq hw;clear hW hbs;refine qC3 (cr _ (Bm.ee hw) (Hm.ee hw)) Bp Bq Bs hw λw4 Bp Bq Bs hw Gu=>?_;go_wp2_with fail;clear Gu;refine zG λW5 hW=>?_;obtain ⟨bkr,hbr⟩:∃ b,w4.heap.size=b:=⟨_,rfl⟩;rw [hbr];obtain ⟨lpr,lqr,lsr,fr,Br,Bp,Bq,Bs,hw⟩:=qM3 hW hbr Bp Bq Bs hw;clear hW hbr;have Gt:=J4 Bp.cells Bq.cells Bs.cells Br.cells;refine zl 10 [⟨8,11,26,[(),()]⟩,⟨9,12,26,[(),()]⟩] ?_ (by kernel_rfl) (by decide) (by decide) (by kernel_rfl) (by decide) (C:=λw'=>∃ p:Regrown,w'=grow (redrawn W5 p.d) p.os) rgB ?_
 ·simp only [QM];refine ⟨⟨_,rfl,rfl,rfl,rfl,λρ W=>by simp [execOp,go_sem]⟩,⟨_,rfl,rfl,rfl,rfl,λρ W=>by simp [execOp,go_sem]⟩,λ_ h=>(by cases h)⟩
 simp only [Jk,QQ,Jc,Qy,dropIdx,QW,Qa,Nat.reduceBEq,Nat.reduceAdd,Qx,V4,V5,Jw,VS,VL];refine wkx ?_;intro w6 β hL;simp only [putD,Q7,QC];have qc:=hL.box ⟨8,11,26,[(),()]⟩ (by simp) (by simp);simp only at qc;have qd:=hL.box ⟨9,12,26,[(),()]⟩ (by simp) (by simp);simp only at qd;have ncd:=hL.apart 11 (by simp) 12 (by simp) (by decide);have ndc:=hL.apart 12 (by simp) 11 (by simp) (by decide);have hb:=hL.below;have lp:=Bp.lt;have lq:=Bq.lt;have ls:=Bs.lt;have lr:=Br.lt;clear Gt;replace Bp:=Bp.ee hb;replace Bq:=Bq.ee hb;replace Bs:=Bs.ee hb;replace Br:=Br.ee hb;have hw0:=hw.size;replace hw:=upB hw hb;clear hb hL;generalize β 11=bkc at *
 generalize β 12=bkd at *
 clear β;obtain ⟨fc,Bc⟩:=qc;obtain ⟨fd,Bd⟩:=qd;simp only [Act.put];have Fc:=Bc.f;have Fd:=Bd.f;have Fp:=Bp.f;have Fq:=Bq.f;have Fs:=Bs.f;have Fr:=Br.f;have epbkc:(w.heap.size=bkc)=False:=by simp;omega
 have epbkc':(bkc=w.heap.size)=False:=by simp;omega
 have epbkd:(w.heap.size=bkd)=False:=by simp;omega
 have epbkd':(bkd=w.heap.size)=False:=by simp;omega
 have eqbkc:(w.heap.size+1=bkc)=False:=by simp;omega
 have eqbkc':(bkc=w.heap.size+1)=False:=by simp;omega
 have eqbkd:(w.heap.size+1=bkd)=False:=by simp;omega
 have eqbkd':(bkd=w.heap.size+1)=False:=by simp;omega
 have esbkc:(bks=bkc)=False:=by simp;omega
 have esbkc':(bkc=bks)=False:=by simp;omega
 have esbkd:(bks=bkd)=False:=by simp;omega
 have esbkd':(bkd=bks)=False:=by simp;omega
 have erbkc:(bkr=bkc)=False:=by simp;omega
 have erbkc':(bkc=bkr)=False:=by simp;omega
 have erbkd:(bkr=bkd)=False:=by simp;omega
 have erbkd':(bkd=bkr)=False:=by simp;omega
 have ebkcbkd:(bkc=bkd)=False:=by simp;omega
 have ebkdbkc:(bkd=bkc)=False:=by simp;omega
 go_wp2_with fail;refine zI λW7 hW=>?_;replace Bp:=sto Bp hW;replace Bq:=sto Bq hW;replace Bs:=sto Bs hW;replace Br:=sto Br hW;replace Bc:=sto Bc hW;replace Bd:=sto Bd hW;replace hw:=stw hw hW;clear Fc Fd;clear Fp Fq Fs Fr epbkc epbkc' epbkd epbkd' eqbkc eqbkc' eqbkd eqbkd' esbkc esbkc' esbkd esbkd' erbkc erbkc' erbkd erbkd' ebkcbkd ebkdbkc;clear hW;refine qC6 (c1 _) Bp Bq Bs Br Bc Bd hw λw8 Bp Bq Bs Br Bc Bd hw Gq=>?_;go_wp2_with fail;clear Gq;refine qK6 (c2 _) Bp Bq Bs Br Bc Bd hw λw9 Bp Bq Bs Br Bc Bd hw=>?_;have Fp:=Bp.f;have Fq:=Bq.f;have Fs:=Bs.f;have Fr:=Br.f;have Fc:=Bc.f;have Fd:=Bd.f;go_wp2
 go_ret
 exact ⟨rfl,by have hl:=hw.size;go_grown⟩
theorem rflip_c1 (mb b:Nat) (E:Es) (p q:Pt) (hk:okW (p,q)) (S R:Tri3) (C D:Pt) (h0:getE E (p,q)=some S) (h1:getE E (q,p)=some R) (hC:apx S p q=C) (hD:apx R p q=D) (o1:decide (ori p D C<=0)=false) (o2:decide (ori D q C<=0)=false) (hc:okW (C,D)) (O:Tri3) (he:getE E (D,C)=some O) (n1:teq O S=false) (n2:teq O R=false) (w:World) (Bm:Box w mb [.map (some b)] 93) (Hm:Hs w b E):Calls prog 94 #[pt0 mb,p,q] w (Rt w (.int .i64 2)):=by
 have cl:=zZ mb b E p q hk;have cr:=zZ mb b E q p ⟨hk.2,hk.1⟩;rw [zf h0] at cl;rw [zf h1] at cr;clear h0 h1;have ca:=x9 S p q;have cb:=x9 R p q;have c1:=zH p D C;have c2:=zH D q C;rw [hC] at ca;rw [hD] at cb;have cu:=yS p D C;have cv:=yS D q C;generalize mk p D C=U at *
 generalize mk D q C=V at *
 have ce:=zZ mb b E D C ⟨hc.2,hc.1⟩;have cf:=zZ mb b E C D hc;rw [zf he] at ce;generalize lftE E C D=Z at cf
 obtain ⟨Y,y⟩:=Z;dsimp only at cf;clear hC hD hc he
 go_enter func94,ntmps94
 go_wp2_with fail;refine qE2 λW1 Bp Bq hw=>?_;refine qC2 (cl _ (Bm.ee hw) (Hm.ee hw)) Bp Bq hw λw2 Bp Bq hw FK=>?_;go_wp2_with fail;clear FK;refine zI λW3 hW=>?_;obtain ⟨bks,hbs⟩:∃ b,w2.heap.size=b:=⟨_,rfl⟩;rw [hbs];obtain ⟨lps,lqs,fs,Bs,Bp,Bq,hw⟩:=qM2 hW hbs Bp Bq hw;clear hW hbs;refine qC3 (cr _ (Bm.ee hw) (Hm.ee hw)) Bp Bq Bs hw λw4 Bp Bq Bs hw Gu=>?_;go_wp2_with fail;clear Gu;refine zG λW5 hW=>?_;obtain ⟨bkr,hbr⟩:∃ b,w4.heap.size=b:=⟨_,rfl⟩;rw [hbr];obtain ⟨lpr,lqr,lsr,fr,Br,Bp,Bq,Bs,hw⟩:=qM3 hW hbr Bp Bq Bs hw;clear hW hbr;have Gt:=J4 Bp.cells Bq.cells Bs.cells Br.cells;refine zl 10 [⟨8,11,26,[(),()]⟩,⟨9,12,26,[(),()]⟩] ?_ (by kernel_rfl) (by decide) (by decide) (by kernel_rfl) (by decide) (C:=λw'=>∃ p:Regrown,w'=grow (redrawn W5 p.d) p.os) rgB ?_
 ·simp only [QM];refine ⟨⟨_,rfl,rfl,rfl,rfl,λρ W=>by simp [execOp,go_sem]⟩,⟨_,rfl,rfl,rfl,rfl,λρ W=>by simp [execOp,go_sem]⟩,λ_ h=>(by cases h)⟩
 simp only [Jk,QQ,Jc,Qy,dropIdx,QW,Qa,Nat.reduceBEq,Nat.reduceAdd,Qx,V4,V5,Jw,VS,VL];refine wkx ?_;intro w6 β hL;simp only [putD,Q7,QC];have qc:=hL.box ⟨8,11,26,[(),()]⟩ (by simp) (by simp);simp only at qc;have qd:=hL.box ⟨9,12,26,[(),()]⟩ (by simp) (by simp);simp only at qd;have ncd:=hL.apart 11 (by simp) 12 (by simp) (by decide);have ndc:=hL.apart 12 (by simp) 11 (by simp) (by decide);have hb:=hL.below;have lp:=Bp.lt;have lq:=Bq.lt;have ls:=Bs.lt;have lr:=Br.lt;clear Gt;replace Bp:=Bp.ee hb;replace Bq:=Bq.ee hb;replace Bs:=Bs.ee hb;replace Br:=Br.ee hb;have hw0:=hw.size;replace hw:=upB hw hb;clear hb hL;generalize β 11=bkc at *
 generalize β 12=bkd at *
 clear β;obtain ⟨fc,Bc⟩:=qc;obtain ⟨fd,Bd⟩:=qd;simp only [Act.put];have Fc:=Bc.f;have Fd:=Bd.f;have Fp:=Bp.f;have Fq:=Bq.f;have Fs:=Bs.f;have Fr:=Br.f;have epbkc:(w.heap.size=bkc)=False:=by simp;omega
 have epbkc':(bkc=w.heap.size)=False:=by simp;omega
 have epbkd:(w.heap.size=bkd)=False:=by simp;omega
 have epbkd':(bkd=w.heap.size)=False:=by simp;omega
 have eqbkc:(w.heap.size+1=bkc)=False:=by simp;omega
 have eqbkc':(bkc=w.heap.size+1)=False:=by simp;omega
 have eqbkd:(w.heap.size+1=bkd)=False:=by simp;omega
 have eqbkd':(bkd=w.heap.size+1)=False:=by simp;omega
 have esbkc:(bks=bkc)=False:=by simp;omega
 have esbkc':(bkc=bks)=False:=by simp;omega
 have esbkd:(bks=bkd)=False:=by simp;omega
 have esbkd':(bkd=bks)=False:=by simp;omega
 have erbkc:(bkr=bkc)=False:=by simp;omega
 have erbkc':(bkc=bkr)=False:=by simp;omega
 have erbkd:(bkr=bkd)=False:=by simp;omega
 have erbkd':(bkd=bkr)=False:=by simp;omega
 have ebkcbkd:(bkc=bkd)=False:=by simp;omega
 have ebkdbkc:(bkd=bkc)=False:=by simp;omega
 go_wp2_with fail;refine zI λW7 hW=>?_;replace Bp:=sto Bp hW;replace Bq:=sto Bq hW;replace Bs:=sto Bs hW;replace Br:=sto Br hW;replace Bc:=sto Bc hW;replace Bd:=sto Bd hW;replace hw:=stw hw hW;clear Fc Fd;clear Fp Fq Fs Fr epbkc epbkc' epbkd epbkd' eqbkc eqbkc' eqbkd eqbkd' esbkc esbkc' esbkd esbkd' erbkc erbkc' erbkd erbkd' ebkcbkd ebkdbkc;clear hW;refine qC6 (c1 _) Bp Bq Bs Br Bc Bd hw λw8 Bp Bq Bs Br Bc Bd hw Gq=>?_;go_wp2_with fail;clear Gq;refine qC6 (c2 _) Bp Bq Bs Br Bc Bd hw λw9 Bp Bq Bs Br Bc Bd hw Gq=>?_;go_wp2_with fail;clear Gq;refine qC6 (cu _) Bp Bq Bs Br Bc Bd hw λw10 Bp Bq Bs Br Bc Bd hw Gq=>?_;go_wp2_with fail;clear Gq;refine zI λW11 hW=>?_;obtain ⟨bku,hbu⟩:∃ b,w10.heap.size=b:=⟨_,rfl⟩;rw [hbu];have lpu:=Bp.lt;rw [hbu] at lpu;have lqu:=Bq.lt;rw [hbu] at lqu;have lsu:=Bs.lt;rw [hbu] at lsu;have lru:=Br.lt;rw [hbu] at lru;have lcu:=Bc.lt;rw [hbu] at lcu;have ldu:=Bd.lt;rw [hbu] at ldu;have fu:=hw.size;rw [hbu] at fu;have Bu:Box W11 bku [U.A.x,U.A.y,U.B.x,U.B.y,U.C.x,U.C.y] 28:=by rw [hW];exact Box.new hbu.symm
 replace Bp:Box W11 w [p.x,p.y] 26:=by rw [hW];exact Bp.old _
 replace Bq:Box W11 (w+1) [q.x,q.y] 26:=by rw [hW];exact Bq.old _
 replace Bs:Box W11 (bks) [S.A.x,S.A.y,S.B.x,S.B.y,S.C.x,S.C.y] 28:=by rw [hW];exact Bs.old _
 replace Br:Box W11 (bkr) [R.A.x,R.A.y,R.B.x,R.B.y,R.C.x,R.C.y] 28:=by rw [hW];exact Br.old _
 replace Bc:Box W11 (bkc) [C.x,C.y] 26:=by rw [hW];exact Bc.old _
 replace Bd:Box W11 (bkd) [D.x,D.y] 26:=by rw [hW];exact Bd.old _
 replace hw:Below w w W11:=by have hl:=hw.size;rw [hW];go_grown
 clear hW hbu;refine (cv _).mono ?_;rintro e w12 ⟨rfl,hb⟩;replace Bp:=Bp.ee hb;obtain ⟨Bq,Bs,Br,Bc,Bd,Bu,hw,-⟩:=qX6 Bq Bs Br Bc Bd Bu hw hb;clear hb;have Kq:=J7 Bp.f Bq.f Bs.f Br.f Bc.f Bd.f Bu.f;go_wp2_with fail;clear Kq;refine zI λW13 hW=>?_;obtain ⟨bkv,hbv⟩:∃ b,w12.heap.size=b:=⟨_,rfl⟩;rw [hbv];have lpv:=Bp.lt;rw [hbv] at lpv;have lqv:=Bq.lt;rw [hbv] at lqv;have lsv:=Bs.lt;rw [hbv] at lsv;have lrv:=Br.lt;rw [hbv] at lrv;have lcv:=Bc.lt;rw [hbv] at lcv;have ldv:=Bd.lt;rw [hbv] at ldv;have luv:=Bu.lt;rw [hbv] at luv;have fv:=hw.size;rw [hbv] at fv;have Bv:Box W13 bkv [V.A.x,V.A.y,V.B.x,V.B.y,V.C.x,V.C.y] 28:=by rw [hW];exact Box.new hbv.symm
 replace Bp:Box W13 w [p.x,p.y] 26:=by rw [hW];exact Bp.old _
 replace Bq:Box W13 (w+1) [q.x,q.y] 26:=by rw [hW];exact Bq.old _
 replace Bs:Box W13 (bks) [S.A.x,S.A.y,S.B.x,S.B.y,S.C.x,S.C.y] 28:=by rw [hW];exact Bs.old _
 replace Br:Box W13 (bkr) [R.A.x,R.A.y,R.B.x,R.B.y,R.C.x,R.C.y] 28:=by rw [hW];exact Br.old _
 replace Bc:Box W13 (bkc) [C.x,C.y] 26:=by rw [hW];exact Bc.old _
 replace Bd:Box W13 (bkd) [D.x,D.y] 26:=by rw [hW];exact Bd.old _
 replace Bu:Box W13 (bku) [U.A.x,U.A.y,U.B.x,U.B.y,U.C.x,U.C.y] 28:=by rw [hW];exact Bu.old _
 replace hw:Below w w W13:=by have hl:=hw.size;rw [hW];go_grown
 clear hW hbv;refine (ce _ (Bm.ee hw) (Hm.ee hw)).mono ?_;rintro e w14 ⟨rfl,hb⟩;replace Bp:=Bp.ee hb;replace Bq:=Bq.ee hb;obtain ⟨Bs,Br,Bc,Bd,Bu,Bv,hw,-⟩:=qX6 Bs Br Bc Bd Bu Bv hw hb;clear hb;have Kv:=J8 Bp.f Bq.f Bs.f Br.f Bc.f Bd.f Bu.f Bv.f;go_wp2_with fail;clear Kv;refine zI λW15 hW=>?_;obtain ⟨bko,hbo⟩:∃ b,w14.heap.size=b:=⟨_,rfl⟩;rw [hbo];have lpo:=Bp.lt;rw [hbo] at lpo;have lqo:=Bq.lt;rw [hbo] at lqo;have lso:=Bs.lt;rw [hbo] at lso;have lro:=Br.lt;rw [hbo] at lro;have lco:=Bc.lt;rw [hbo] at lco;have ldo:=Bd.lt;rw [hbo] at ldo;have luo:=Bu.lt;rw [hbo] at luo;have lvo:=Bv.lt;rw [hbo] at lvo;have fo:=hw.size;rw [hbo] at fo;have Bo:Box W15 bko [O.A.x,O.A.y,O.B.x,O.B.y,O.C.x,O.C.y] 28:=by rw [hW];exact Box.new hbo.symm
 replace Bp:Box W15 w [p.x,p.y] 26:=by rw [hW];exact Bp.old _
 replace Bq:Box W15 (w+1) [q.x,q.y] 26:=by rw [hW];exact Bq.old _
 replace Bs:Box W15 (bks) [S.A.x,S.A.y,S.B.x,S.B.y,S.C.x,S.C.y] 28:=by rw [hW];exact Bs.old _
 replace Br:Box W15 (bkr) [R.A.x,R.A.y,R.B.x,R.B.y,R.C.x,R.C.y] 28:=by rw [hW];exact Br.old _
 replace Bc:Box W15 (bkc) [C.x,C.y] 26:=by rw [hW];exact Bc.old _
 replace Bd:Box W15 (bkd) [D.x,D.y] 26:=by rw [hW];exact Bd.old _
 replace Bu:Box W15 (bku) [U.A.x,U.A.y,U.B.x,U.B.y,U.C.x,U.C.y] 28:=by rw [hW];exact Bu.old _
 replace Bv:Box W15 (bkv) [V.A.x,V.A.y,V.B.x,V.B.y,V.C.x,V.C.y] 28:=by rw [hW];exact Bv.old _
 replace hw:Below w w W15:=by have hl:=hw.size;rw [hW];go_grown
 clear hW hbo;refine (cf _ (Bm.ee hw) (Hm.ee hw)).mono ?_;rintro e w16 ⟨rfl,hb⟩;replace Bp:=Bp.ee hb;replace Bq:=Bq.ee hb;replace Bs:=Bs.ee hb;obtain ⟨Br,Bc,Bd,Bu,Bv,Bo,hw,-⟩:=qX6 Br Bc Bd Bu Bv Bo hw hb;clear hb;have Fp:=Bp.f;have Fq:=Bq.f;have Fs:=Bs.f;have Fr:=Br.f;have Fc:=Bc.f;have Fd:=Bd.f;have Fu:=Bu.f;have Fv:=Bv.f;have Fo:=Bo.f;go_wp2
 go_ret
 exact ⟨rfl,by have hl:=hw.size;go_grown⟩
theorem rflip_c2 (mb b:Nat) (E:Es) (p q:Pt) (hk:okW (p,q)) (S R:Tri3) (C D:Pt) (h0:getE E (p,q)=some S) (h1:getE E (q,p)=some R) (hC:apx S p q=C) (hD:apx R p q=D) (o1:decide (ori p D C<=0)=false) (o2:decide (ori D q C<=0)=false) (hc:okW (C,D)) (O:Tri3) (he:getE E (D,C)=none) (hf:getE E (C,D)=some O) (n1:teq O S=false) (n2:teq O R=false) (w:World) (Bm:Box w mb [.map (some b)] 93) (Hm:Hs w b E):Calls prog 94 #[pt0 mb,p,q] w (Rt w (.int .i64 2)):=by
 have cl:=zZ mb b E p q hk;have cr:=zZ mb b E q p ⟨hk.2,hk.1⟩;rw [zf h0] at cl;rw [zf h1] at cr;clear h0 h1;have ca:=x9 S p q;have cb:=x9 R p q;have c1:=zH p D C;have c2:=zH D q C;rw [hC] at ca;rw [hD] at cb;have cu:=yS p D C;have cv:=yS D q C;generalize mk p D C=U at *
 generalize mk D q C=V at *
 have ce:=zZ mb b E D C ⟨hc.2,hc.1⟩;have cf:=zZ mb b E C D hc;rw [yV he] at ce;rw [zf hf] at cf;clear hC hD hc he hf
 go_enter func94,ntmps94
 go_wp2_with fail;refine qE2 λW1 Bp Bq hw=>?_;refine qC2 (cl _ (Bm.ee hw) (Hm.ee hw)) Bp Bq hw λw2 Bp Bq hw FK=>?_;go_wp2_with fail;clear FK;refine zI λW3 hW=>?_;obtain ⟨bks,hbs⟩:∃ b,w2.heap.size=b:=⟨_,rfl⟩;rw [hbs];obtain ⟨lps,lqs,fs,Bs,Bp,Bq,hw⟩:=qM2 hW hbs Bp Bq hw;clear hW hbs;refine qC3 (cr _ (Bm.ee hw) (Hm.ee hw)) Bp Bq Bs hw λw4 Bp Bq Bs hw Gu=>?_;go_wp2_with fail;clear Gu;refine zG λW5 hW=>?_;obtain ⟨bkr,hbr⟩:∃ b,w4.heap.size=b:=⟨_,rfl⟩;rw [hbr];obtain ⟨lpr,lqr,lsr,fr,Br,Bp,Bq,Bs,hw⟩:=qM3 hW hbr Bp Bq Bs hw;clear hW hbr;have Gt:=J4 Bp.cells Bq.cells Bs.cells Br.cells;refine zl 10 [⟨8,11,26,[(),()]⟩,⟨9,12,26,[(),()]⟩] ?_ (by kernel_rfl) (by decide) (by decide) (by kernel_rfl) (by decide) (C:=λw'=>∃ p:Regrown,w'=grow (redrawn W5 p.d) p.os) rgB ?_
 ·simp only [QM];refine ⟨⟨_,rfl,rfl,rfl,rfl,λρ W=>by simp [execOp,go_sem]⟩,⟨_,rfl,rfl,rfl,rfl,λρ W=>by simp [execOp,go_sem]⟩,λ_ h=>(by cases h)⟩
 simp only [Jk,QQ,Jc,Qy,dropIdx,QW,Qa,Nat.reduceBEq,Nat.reduceAdd,Qx,V4,V5,Jw,VS,VL];refine wkx ?_;intro w6 β hL;simp only [putD,Q7,QC];have qc:=hL.box ⟨8,11,26,[(),()]⟩ (by simp) (by simp);simp only at qc;have qd:=hL.box ⟨9,12,26,[(),()]⟩ (by simp) (by simp);simp only at qd;have ncd:=hL.apart 11 (by simp) 12 (by simp) (by decide);have ndc:=hL.apart 12 (by simp) 11 (by simp) (by decide);have hb:=hL.below;have lp:=Bp.lt;have lq:=Bq.lt;have ls:=Bs.lt;have lr:=Br.lt;clear Gt;replace Bp:=Bp.ee hb;replace Bq:=Bq.ee hb;replace Bs:=Bs.ee hb;replace Br:=Br.ee hb;have hw0:=hw.size;replace hw:=upB hw hb;clear hb hL;generalize β 11=bkc at *
 generalize β 12=bkd at *
 clear β;obtain ⟨fc,Bc⟩:=qc;obtain ⟨fd,Bd⟩:=qd;simp only [Act.put];have Fc:=Bc.f;have Fd:=Bd.f;have Fp:=Bp.f;have Fq:=Bq.f;have Fs:=Bs.f;have Fr:=Br.f;have epbkc:(w.heap.size=bkc)=False:=by simp;omega
 have epbkc':(bkc=w.heap.size)=False:=by simp;omega
 have epbkd:(w.heap.size=bkd)=False:=by simp;omega
 have epbkd':(bkd=w.heap.size)=False:=by simp;omega
 have eqbkc:(w.heap.size+1=bkc)=False:=by simp;omega
 have eqbkc':(bkc=w.heap.size+1)=False:=by simp;omega
 have eqbkd:(w.heap.size+1=bkd)=False:=by simp;omega
 have eqbkd':(bkd=w.heap.size+1)=False:=by simp;omega
 have esbkc:(bks=bkc)=False:=by simp;omega
 have esbkc':(bkc=bks)=False:=by simp;omega
 have esbkd:(bks=bkd)=False:=by simp;omega
 have esbkd':(bkd=bks)=False:=by simp;omega
 have erbkc:(bkr=bkc)=False:=by simp;omega
 have erbkc':(bkc=bkr)=False:=by simp;omega
 have erbkd:(bkr=bkd)=False:=by simp;omega
 have erbkd':(bkd=bkr)=False:=by simp;omega
 have ebkcbkd:(bkc=bkd)=False:=by simp;omega
 have ebkdbkc:(bkd=bkc)=False:=by simp;omega
 go_wp2_with fail;refine zI λW7 hW=>?_;replace Bp:=sto Bp hW;replace Bq:=sto Bq hW;replace Bs:=sto Bs hW;replace Br:=sto Br hW;replace Bc:=sto Bc hW;replace Bd:=sto Bd hW;replace hw:=stw hw hW;clear Fc Fd;clear Fp Fq Fs Fr epbkc epbkc' epbkd epbkd' eqbkc eqbkc' eqbkd eqbkd' esbkc esbkc' esbkd esbkd' erbkc erbkc' erbkd erbkd' ebkcbkd ebkdbkc;clear hW;refine qC6 (c1 _) Bp Bq Bs Br Bc Bd hw λw8 Bp Bq Bs Br Bc Bd hw Gq=>?_;go_wp2_with fail;clear Gq;refine qC6 (c2 _) Bp Bq Bs Br Bc Bd hw λw9 Bp Bq Bs Br Bc Bd hw Gq=>?_;go_wp2_with fail;clear Gq;refine qC6 (cu _) Bp Bq Bs Br Bc Bd hw λw10 Bp Bq Bs Br Bc Bd hw Gq=>?_;go_wp2_with fail;clear Gq;refine zI λW11 hW=>?_;obtain ⟨bku,hbu⟩:∃ b,w10.heap.size=b:=⟨_,rfl⟩;rw [hbu];have lpu:=Bp.lt;rw [hbu] at lpu;have lqu:=Bq.lt;rw [hbu] at lqu;have lsu:=Bs.lt;rw [hbu] at lsu;have lru:=Br.lt;rw [hbu] at lru;have lcu:=Bc.lt;rw [hbu] at lcu;have ldu:=Bd.lt;rw [hbu] at ldu;have fu:=hw.size;rw [hbu] at fu;have Bu:Box W11 bku [U.A.x,U.A.y,U.B.x,U.B.y,U.C.x,U.C.y] 28:=by rw [hW];exact Box.new hbu.symm
 replace Bp:Box W11 w [p.x,p.y] 26:=by rw [hW];exact Bp.old _
 replace Bq:Box W11 (w+1) [q.x,q.y] 26:=by rw [hW];exact Bq.old _
 replace Bs:Box W11 (bks) [S.A.x,S.A.y,S.B.x,S.B.y,S.C.x,S.C.y] 28:=by rw [hW];exact Bs.old _
 replace Br:Box W11 (bkr) [R.A.x,R.A.y,R.B.x,R.B.y,R.C.x,R.C.y] 28:=by rw [hW];exact Br.old _
 replace Bc:Box W11 (bkc) [C.x,C.y] 26:=by rw [hW];exact Bc.old _
 replace Bd:Box W11 (bkd) [D.x,D.y] 26:=by rw [hW];exact Bd.old _
 replace hw:Below w w W11:=by have hl:=hw.size;rw [hW];go_grown
 clear hW hbu;refine (cv _).mono ?_;rintro e w12 ⟨rfl,hb⟩;replace Bp:=Bp.ee hb;obtain ⟨Bq,Bs,Br,Bc,Bd,Bu,hw,-⟩:=qX6 Bq Bs Br Bc Bd Bu hw hb;clear hb;have Kq:=J7 Bp.f Bq.f Bs.f Br.f Bc.f Bd.f Bu.f;go_wp2_with fail;clear Kq;refine zI λW13 hW=>?_;obtain ⟨bkv,hbv⟩:∃ b,w12.heap.size=b:=⟨_,rfl⟩;rw [hbv];have lpv:=Bp.lt;rw [hbv] at lpv;have lqv:=Bq.lt;rw [hbv] at lqv;have lsv:=Bs.lt;rw [hbv] at lsv;have lrv:=Br.lt;rw [hbv] at lrv;have lcv:=Bc.lt;rw [hbv] at lcv;have ldv:=Bd.lt;rw [hbv] at ldv;have luv:=Bu.lt;rw [hbv] at luv;have fv:=hw.size;rw [hbv] at fv;have Bv:Box W13 bkv [V.A.x,V.A.y,V.B.x,V.B.y,V.C.x,V.C.y] 28:=by rw [hW];exact Box.new hbv.symm
 replace Bp:Box W13 w [p.x,p.y] 26:=by rw [hW];exact Bp.old _
 replace Bq:Box W13 (w+1) [q.x,q.y] 26:=by rw [hW];exact Bq.old _
 replace Bs:Box W13 (bks) [S.A.x,S.A.y,S.B.x,S.B.y,S.C.x,S.C.y] 28:=by rw [hW];exact Bs.old _
 replace Br:Box W13 (bkr) [R.A.x,R.A.y,R.B.x,R.B.y,R.C.x,R.C.y] 28:=by rw [hW];exact Br.old _
 replace Bc:Box W13 (bkc) [C.x,C.y] 26:=by rw [hW];exact Bc.old _
 replace Bd:Box W13 (bkd) [D.x,D.y] 26:=by rw [hW];exact Bd.old _
 replace Bu:Box W13 (bku) [U.A.x,U.A.y,U.B.x,U.B.y,U.C.x,U.C.y] 28:=by rw [hW];exact Bu.old _
 replace hw:Below w w W13:=by have hl:=hw.size;rw [hW];go_grown
 clear hW hbv;refine (ce _ (Bm.ee hw) (Hm.ee hw)).mono ?_;rintro e w14 ⟨rfl,hb⟩;replace Bp:=Bp.ee hb;replace Bq:=Bq.ee hb;obtain ⟨Bs,Br,Bc,Bd,Bu,Bv,hw,-⟩:=qX6 Bs Br Bc Bd Bu Bv hw hb;clear hb;have Kv:=J8 Bp.f Bq.f Bs.f Br.f Bc.f Bd.f Bu.f Bv.f;go_wp2_with fail;clear Kv;refine zI λW15 hW=>?_;obtain ⟨bko,hbo⟩:∃ b,w14.heap.size=b:=⟨_,rfl⟩;rw [hbo];have lpo:=Bp.lt;rw [hbo] at lpo;have lqo:=Bq.lt;rw [hbo] at lqo;have lso:=Bs.lt;rw [hbo] at lso;have lro:=Br.lt;rw [hbo] at lro;have lco:=Bc.lt;rw [hbo] at lco;have ldo:=Bd.lt;rw [hbo] at ldo;have luo:=Bu.lt;rw [hbo] at luo;have lvo:=Bv.lt;rw [hbo] at lvo;have fo:=hw.size;rw [hbo] at fo;have Bo:Box W15 bko [(),(),(),(),(),()] 28:=by rw [hW];exact Box.new hbo.symm
 replace Bp:Box W15 w [p.x,p.y] 26:=by rw [hW];exact Bp.old _
 replace Bq:Box W15 (w+1) [q.x,q.y] 26:=by rw [hW];exact Bq.old _
 replace Bs:Box W15 (bks) [S.A.x,S.A.y,S.B.x,S.B.y,S.C.x,S.C.y] 28:=by rw [hW];exact Bs.old _
 replace Br:Box W15 (bkr) [R.A.x,R.A.y,R.B.x,R.B.y,R.C.x,R.C.y] 28:=by rw [hW];exact Br.old _
 replace Bc:Box W15 (bkc) [C.x,C.y] 26:=by rw [hW];exact Bc.old _
 replace Bd:Box W15 (bkd) [D.x,D.y] 26:=by rw [hW];exact Bd.old _
 replace Bu:Box W15 (bku) [U.A.x,U.A.y,U.B.x,U.B.y,U.C.x,U.C.y] 28:=by rw [hW];exact Bu.old _
 replace Bv:Box W15 (bkv) [V.A.x,V.A.y,V.B.x,V.B.y,V.C.x,V.C.y] 28:=by rw [hW];exact Bv.old _
 replace hw:Below w w W15:=by have hl:=hw.size;rw [hW];go_grown
 clear hW hbo;refine (cf _ (Bm.ee hw) (Hm.ee hw)).mono ?_;rintro e w16 ⟨rfl,hb⟩;replace Bp:=Bp.ee hb;replace Bq:=Bq.ee hb;replace Bs:=Bs.ee hb;obtain ⟨Br,Bc,Bd,Bu,Bv,Bo,hw,-⟩:=qX6 Br Bc Bd Bu Bv Bo hw hb;clear hb;have Fp:=Bp.f;have Fq:=Bq.f;have Fs:=Bs.f;have Fr:=Br.f;have Fc:=Bc.f;have Fd:=Bd.f;have Fu:=Bu.f;have Fv:=Bv.f;have Fo:=Bo.f;go_wp2
 go_ret
 exact ⟨rfl,by have hl:=hw.size;go_grown⟩
def flipD (E:Es) (p q:Pt):Int×Es:=
 match getE E (p,q),getE E (q,p) with
 | some S,some R=>
  if 0 < ori p (apx R p q) (apx S p q)/\0 < ori (apx R p q) q (apx S p q)/\getE E (apx R p q,apx S p q)=none/\getE E (apx S p q,apx R p q)=none
  then (0,flipE E S R (mk p (apx R p q) (apx S p q)) (mk (apx R p q) q (apx S p q))) else (2,E)
 | _,_=>(16,E)
theorem yn {E:Es} {p q:Pt} (h:getE E (p,q)=none\/getE E (q,p)=none):flipD E p q=(16,E):=by
 unfold flipD;rcases h with h | h
 ·rw [h]
 ·rw [h];cases getE E (p,q) <;> rfl
theorem xL {E:Es} {p q:Pt} {S R:Tri3} (h0:getE E (p,q)=some S) (h1:getE E (q,p)=some R):flipD E p q=if 0 < ori p (apx R p q) (apx S p q)/\0 < ori (apx R p q) q (apx S p q)/\getE E (apx R p q,apx S p q)=none/\getE E (apx S p q,apx R p q)=none then (0,flipE E S R (mk p (apx R p q) (apx S p q)) (mk (apx R p q) q (apx S p q))) else (2,E):=by
 unfold flipD;rw [h0,h1]
theorem Xv {T:Tri3} (h:valT T=true):0 < det T.A T.B T.C/\vld T.A=true/\vld T.B=true/\vld T.C=true:=by
 obtain ⟨va,vb,vc,hD⟩:=qW h;exact ⟨hD,va,vb,vc⟩
theorem qQ {E:Es} {L:List Tri3} (g:Good E L) {p q:Pt} {S R:Tri3} (h0:getE E (p,q)=some S) (h1:getE E (q,p)=some R):(S∈L/\R∈L)/\(Cyc S p q (apx S p q)/\Cyc R q p (apx R p q))/\(0 < det p q (apx S p q)/\0 < det q p (apx R p q))/\(vld p=true/\vld q=true/\vld (apx S p q)=true/\vld (apx R p q)=true):=by
 obtain ⟨mS,wS⟩:=g.get.1 h0;obtain ⟨mR,wR⟩:=g.get.1 h1;obtain ⟨c,cS⟩:=yZ wS;obtain ⟨d,cR⟩:=yZ wR;obtain ⟨pS,v1,v2,v3⟩:=Xv (g.val S mS);obtain ⟨pR,v4,v5,v6⟩:=Xv (g.val R mR);have p1:0 < det p q c:=by rw [cS.det];exact pS
 have p2:0 < det q p d:=by rw [cR.det];exact pR
 obtain ⟨n1,n2,n3⟩:=zP p1;obtain ⟨m1,m2,m3⟩:=zP p2;have e1:apx S p q=c:=(q9 cS n1 n2 n3).1;have e2:apx R p q=d:=(q9 cR m1 m2 m3).2;rw [e1,e2];have vv:∀ {T:Tri3} {a b c:Pt},Cyc T a b c->vld T.A=true->vld T.B=true->vld T.C=true->vld a=true/\vld b=true/\vld c=true:=by
  intro T a b c h x y z;rcases h with ⟨rfl,rfl,rfl⟩ | ⟨rfl,rfl,rfl⟩ | ⟨rfl,rfl,rfl⟩
  ·exact ⟨x,y,z⟩
  ·exact ⟨y,z,x⟩
  ·exact ⟨z,x,y⟩
 obtain ⟨k1,k2,k3⟩:=vv cS v1 v2 v3;obtain ⟨_,_,k4⟩:=vv cR v4 v5 v6;exact ⟨⟨mS,mR⟩,⟨cS,cR⟩,⟨p1,p2⟩,k1,k2,k3,k4⟩
theorem qJ {a b c:Pt} (va:vld a=true) (vb:vld b=true) (vc:vld c=true):0 < ori a b c↔0 < det a b c:=by
 rw [ori_v va vb vc];have:=zL (det a b c);omega
theorem xc {E:Es} {L:List Tri3} (g:Good E L) {p q:Pt} {S R:Tri3} {C D:Pt} (h0:getE E (p,q)=some S) (h1:getE E (q,p)=some R) (hC:apx S p q=C) (hD:apx R p q=D) (o1:0 < ori p D C) (o2:0 < ori D q C) (he:getE E (D,C)=none) (hf:getE E (C,D)=none):Flips E p q S R (mk p D C) (mk D q C) C D/\∃ M,L.Perm (S :: R :: M)/\Good (flipE E S R (mk p D C) (mk D q C)) (mk p D C :: mk D q C :: M):=by
 obtain ⟨⟨mS,mR⟩,⟨cS,cR⟩,⟨p1,p2⟩,vp,vq,vc,vd⟩:=qQ g h0 h1;rw [hC] at cS p1 vc;rw [hD] at cR p2 vd;have d1:=(qJ vp vd vc).1 o1;have d2:=(qJ vd vq vc).1 o2;obtain ⟨n1,n2,n3⟩:=zP p1;obtain ⟨m1,m2,m3⟩:=zP p2;obtain ⟨x1,x2,x3⟩:=zP d1;obtain ⟨y1,y2,y3⟩:=zP d2;have hne:S≠R:=by
  rintro rfl;have:=cS.ways.mem_iff.1 cR.way;simp only [Km,Ji,JB,Jj] at this;rcases this with ⟨k,_⟩ | ⟨_,k⟩ | ⟨k,_⟩
  ·exact n1 k.symm
  ·exact n3 k.symm
  ·exact n2 k
 obtain ⟨M,hM⟩:=k6 mS mR hne;have nd:=(zq hM).nodup_iff.1 g.once;rw [Ks,Ks,Jb] at nd;obtain ⟨_,nd2,nd1⟩:=nd;rw [Jb] at nd2;obtain ⟨_,_,nd2⟩:=nd2;have inM:∀ w,w∈M.flatMap ways->w ∉ ways S/\w ∉ ways R/\w∈L.flatMap ways:=λw hw=>
  ⟨λk=>nd1 w k w (Jp _ hw) rfl,λk=>nd2 w k w hw rfl,(zq hM).mem_iff.2 (by rw [Ks,Ks];simp [hw])⟩
 obtain ⟨cU,vU⟩:=yG vp vd vc d1;obtain ⟨cV,vV⟩:=yG vd vq vc d2;have a1:=(Good.take (E:=E) (T:=S) (M:=R :: M) (g.order hM)).2;have a2:=(Good.take (E:=takeT E S) (T:=R) (M:=M) a1).2;obtain ⟨f1,g1⟩:=Good.put (T:=mk p D C) a2 vU (λw hw k=>by
  obtain ⟨k1,k2,k3⟩:=inM w k;have:=cU.ways.mem_iff.1 hw;simp only [Km,JB,Jj] at this;rcases this with rfl | rfl | rfl
  ·exact k2 cR.turn.way
  ·exact g.get_none.1 he k3
  ·exact k1 cS.turn.turn.way)
 obtain ⟨f2,g2⟩:=Good.put (T:=mk D q C) g1 vV (λw hw k=>by
  have h:=cV.ways.mem_iff.1 hw;simp only [Km,JB,Jj] at h;rw [Ks,JG] at k;rcases k with k | k
  ·have k:=cU.ways.mem_iff.1 k;simp only [Km,JB,Jj] at k;rcases h with rfl | rfl | rfl
   ·simp only [Ji] at k;rcases k with ⟨k,_⟩ | ⟨_,k⟩ | ⟨k,_⟩
    ·exact x1 k.symm
    ·exact y2 k
    ·exact x2 k
   ·simp only [Ji] at k;rcases k with ⟨_,k⟩ | ⟨k,_⟩ | ⟨_,k⟩
    ·exact x2 k.symm
    ·exact y1 k.symm
    ·exact x3 k
   ·simp only [Ji] at k;rcases k with ⟨k,_⟩ | ⟨k,_⟩ | ⟨_,k⟩
    ·exact x3 k
    ·exact x2 k.symm
    ·exact x1 k.symm
  ·obtain ⟨k1,k2,k3⟩:=inM w k;rcases h with rfl | rfl | rfl
   ·exact k2 cR.turn.turn.way
   ·exact k1 cS.turn.way
   ·exact g.get_none.1 hf k3)
 refine ⟨⟨h0,h1,hC,hD,QY (by omega),QY (by omega),rfl,rfl,he,hf,⟨yW vc,yW vd⟩,ye (g.val _ mS),ye (g.val _ mR),ye vU,ye vV,xK f1,xK f2⟩,M,hM,g2.order (List.Perm.swap _ _ _)⟩
theorem jb {E:Es} {L:List Tri3} (g:Good E L) {p q:Pt} {S R O:Tri3} {C D:Pt} (h0:getE E (p,q)=some S) (h1:getE E (q,p)=some R) (hC:apx S p q=C) (hD:apx R p q=D) (hdc:D≠C) (ho:(D,C)∈ways O\/(C,D)∈ways O):teq O S=false/\teq O R=false:=by
 obtain ⟨_,⟨cS,cR⟩,⟨p1,p2⟩,_⟩:=qQ g h0 h1;rw [hC] at cS p1;rw [hD] at cR p2;obtain ⟨n1,n2,n3⟩:=zP p1;obtain ⟨m1,m2,m3⟩:=zP p2;have tf:∀ {X Y:Tri3},X≠Y->teq X Y=false:=λ{X Y} h=>by
  rw [<-QF];intro k;exact h (k7.1 k)
 constructor
 ·refine tf ?_;rintro rfl;rcases ho with ho | ho
  ·have:=cS.ways.mem_iff.1 ho;simp only [Km,Ji,JB,Jj] at this;rcases this with ⟨k,_⟩ | ⟨k,_⟩ | ⟨k,_⟩
   ·exact m2 k.symm
   ·exact m3 k
   ·exact hdc k
  ·have:=cS.ways.mem_iff.1 ho;simp only [Km,Ji,JB,Jj] at this;rcases this with ⟨k,_⟩ | ⟨k,_⟩ | ⟨_,k⟩
   ·exact n3 k
   ·exact n2 k.symm
   ·exact m2 k.symm
 ·refine tf ?_;rintro rfl;rcases ho with ho | ho
  ·have:=cR.ways.mem_iff.1 ho;simp only [Km,Ji,JB,Jj] at this;rcases this with ⟨k,_⟩ | ⟨k,_⟩ | ⟨_,k⟩
   ·exact m3 k
   ·exact m2 k.symm
   ·exact n2 k.symm
  ·have:=cR.ways.mem_iff.1 ho;simp only [Km,Ji,JB,Jj] at this;rcases this with ⟨k,_⟩ | ⟨k,_⟩ | ⟨k,_⟩
   ·exact n2 k.symm
   ·exact n3 k
   ·exact hdc k.symm
theorem rflip_any (mb b:Nat) (E:Es) (L:List Tri3) (g:Good E L) (p q:Pt) (hk:okW (p,q)) (w:World) (Bm:Box w mb [.map (some b)] 93) (Hm:Hs w b E):Calls prog 94 #[pt0 mb,p,q] w λe w'=>e=.returned (.int .i64 (flipD E p q).1)/\w.grownBy w' (some b)/\Hs w' b (flipD E p q).2:=by
 have no:∀ {r:Int} {e:Ending} {w':World},flipD E p q=(r,E)->e=.returned (.int .i64 r)/\Below w w w'->e=.returned (.int .i64 (flipD E p q).1)/\w.grownBy w' (some b)/\Hs w' b (flipD E p q).2:=λh ⟨k1,k2⟩=>by
  rw [h];exact ⟨k1,zM k2 _,Hm.ee k2⟩
 cases h0:getE E (p,q) with
 | none=>exact (rflip_n0 mb b E p q hk h0 w Bm Hm).mono λe w' h=>no (yn (.inl h0)) h
 | some S=>
  cases h1:getE E (q,p) with
  | none=>exact (rflip_n1 mb b E p q hk S h0 h1 w Bm Hm).mono λe w' h=>no (yn (.inr h1)) h
  | some R=>
   obtain ⟨_,_,_,vp,vq,vc,vd⟩:=qQ g h0 h1;have hs:=xL h0 h1;obtain ⟨C,hC⟩:∃ C,apx S p q=C:=⟨_,rfl⟩;obtain ⟨D,hD⟩:∃ D,apx R p q=D:=⟨_,rfl⟩;rw [hC] at hs vc;rw [hD] at hs vd;have hc:okW (C,D):=⟨yW vc,yW vd⟩;by_cases o1:0 < ori p D C
   ·by_cases o2:0 < ori D q C
    ·have hdc : D ≠ C := λe => by rw [e] at o1; have := (qJ vp vc vc).1 o1; have z : det p C C = 0 := by unfold det; grind
                                  omega
     cases he:getE E (D,C) with
     | some O=>
      obtain ⟨t1,t2⟩:=jb g h0 h1 hC hD hdc (.inl (g.get.1 he).2);refine (rflip_c1 mb b E p q hk S R C D h0 h1 hC hD (QY (by omega)) (QY (by omega)) hc O he t1 t2 w Bm Hm).mono λe w' h=>no ?_ h;rw [hs,Kl (by rw [he];simp)]
     | none=>
      cases hf:getE E (C,D) with
      | some O=>
       obtain ⟨t1,t2⟩:=jb g h0 h1 hC hD hdc (.inr (g.get.1 hf).2);refine (rflip_c2 mb b E p q hk S R C D h0 h1 hC hD (QY (by omega)) (QY (by omega)) hc O he hf t1 t2 w Bm Hm).mono λe w' h=>no ?_ h;rw [hs,Kl (by rw [hf];simp)]
      | none=>
       obtain ⟨fl,_⟩:=xc g h0 h1 hC hD o1 o2 he hf;rw [hs,J1 ⟨o1,o2,he,hf⟩];exact YY mb b E p q hk S R _ _ C D fl.h0 fl.h1 fl.hC fl.hD fl.o1 fl.o2 fl.hU fl.hV fl.he fl.hf fl.hc fl.hS fl.hR fl.hu fl.hv fl.f1 fl.f2 w Bm Hm
    ·refine (rflip_o2 mb b E p q hk S R C D h0 h1 hC hD (QY (by omega)) (Qi (by omega)) w Bm Hm).mono λe w' h=>no ?_ h;rw [hs,Kl (λk=>o2 k.2.1)]
   ·refine (rflip_o1 mb b E p q hk S R C D h0 h1 hC hD (Qi (by omega)) w Bm Hm).mono λe w' h=>no ?_ h;rw [hs,Kl (λk=>o1 k.1)]
theorem good_flipD {E:Es} {L:List Tri3} (g:Good E L) (p q:Pt):∃ L',Good (flipD E p q).2 L':=by
 cases h0:getE E (p,q) with
 | none=>rw [yn (.inl h0)];exact ⟨L,g⟩
 | some S=>
  cases h1:getE E (q,p) with
  | none=>rw [yn (.inr h1)];exact ⟨L,g⟩
  | some R=>
   rw [xL h0 h1];split
   ·rename_i k
    obtain ⟨_,M,_,g'⟩:=xc g h0 h1 rfl rfl k.1 k.2.1 k.2.2.1 k.2.2.2;exact ⟨_,g'⟩
   ·exact ⟨L,g⟩
section
theorem qM:∀ (M N:List Pt),M.Nodup->(∀ p∈M,p∈N)->M.length<=N.length
 | [],_,_,_=>JZ _
 | p :: M,N,hn,h=>by
  have hp:=h p (by simp);have ih:=qM M (N.erase p) (JX.1 hn).2 (λq hq=>(Vy (λe=>(JX.1 hn).1 (by rw [<-e];exact hq))).2 (h q (by simp [hq])));rw [List.length_erase_of_mem hp] at ih;have:=VZ hp;simp only [JO];omega
theorem alloc_cellA (w:World) (o:Obj) (A:Addr) (h:(A.block=w.heap.size)=False):(w.alloc o).cell? A=w.cell? A:=by
 have h':A.block≠w.heap.size:=λe=>h.mp e;unfold World.alloc World.cell?;simp only [U1,Kl h']
attribute [local go_sem] alloc_cellA
end
end
section
open Go.RowKit Go.Sort
attribute [local go_sem] rOper rAt rUpon cell_set sg_i64 sg_u64 alloc_cell alloc_frozen
attribute [local go_sem 10000] pt_eql pt_neq tri_eql
attribute [local irreducible] rWalk
def onE (E:Es) (p q:Pt):List Pt:=(froms E).filter λx=>onR x p q
theorem tE (E F:Es) (p q:Pt):onE (E ++ F) p q=onE E p q ++ onE F p q:=by unfold onE froms;rw [QA,QV]
theorem onE_yes {u x p q:Pt} {T:Tri3} (h:onR u p q=true):onE [((u,x),T)] p q=[u]:=by simp [onE,froms,h]
theorem onE_no {u x p q:Pt} {T:Tri3} (h:onR u p q=false):onE [((u,x),T)] p q=[]:=by simp [onE,froms,h]
theorem Yj (E:Es) (p q:Pt):(onE E p q).length<=E.length:=by unfold onE froms;exact JQ (Qe _ _) (by simp)
theorem onE_perm {E F:Es} (h:E.Perm F) (p q:Pt):(onE E p q).Perm (onE F p q):=(h.map _).filter _
def PartsL (E:Es) (p q:Pt) (M:List Pt):Prop:=(∀ x,x∈M↔x∈onE E p q)/\((Rising cmpP M/\M.head? = some p)\/(Rising cmpP M.reverse/\M.reverse.head? ≠ some p))
def PartsPost (E:Es) (p q:Pt) (w:World) (e:Ending) (w':World):Prop:=
 ∃ M a cap,e=.returned (.tuple #[.slice a M.length cap,()])/\RowAt cP 2 w' a M/\PartsL E p q M/\Below w w w'
theorem rparts_b0 (mb b:Nat) (E:Es) (p q:Pt) (h0:peqI p.x p.y q.x q.y=true) (w:World) (_Bm:Box w mb [.map (some b)] 93) (_Hm:Hs w b E):Calls prog 114 #[pt0 mb,p,q] w (Rt w (.tuple #[.slice none 0 0,.int .i64 2])):=by
 go_enter func114,ntmps114
 go_wp2;refine bodyPost_ret (v:=.tuple #[.slice none 0 0,.int .i64 2]) (by simp [results,results114,go_sem]) rfl ⟨rfl,by go_grown⟩
theorem rparts_b1 (mb b:Nat) (E:Es) (p q:Pt) (h0:peqI p.x p.y q.x q.y=false) (h1:vld p=false) (w:World) (_Bm:Box w mb [.map (some b)] 93) (_Hm:Hs w b E):Calls prog 114 #[pt0 mb,p,q] w (Rt w (.tuple #[.slice none 0 0,.int .i64 2])):=by
 have kp:=z7 p;rw [h1] at kp
 go_enter func114,ntmps114
 go_wp2_with fail;refine qE2 λW1 Bp Bq hw=>?_;refine qC2 (kp _) Bp Bq hw λw2 Bp Bq hw FK=>?_;go_wp2;refine bodyPost_ret (v:=.tuple #[.slice none 0 0,.int .i64 2]) (by simp [results,results114,go_sem]) rfl ⟨rfl,by have hl:=hw.size;go_grown⟩
theorem rparts_b2 (mb b:Nat) (E:Es) (p q:Pt) (h0:peqI p.x p.y q.x q.y=false) (h1:vld p=true) (h2:vld q=false) (w:World) (_Bm:Box w mb [.map (some b)] 93) (_Hm:Hs w b E):Calls prog 114 #[pt0 mb,p,q] w (Rt w (.tuple #[.slice none 0 0,.int .i64 2])):=by
 have kp:=z7 p;rw [h1] at kp;have kq:=z7 q;rw [h2] at kq
 go_enter func114,ntmps114
 go_wp2_with fail;refine qE2 λW1 Bp Bq hw=>?_;refine qC2 (kp _) Bp Bq hw λw2 Bp Bq hw FK=>?_;go_wp2_with fail;clear FK;refine qC2 (kq _) Bp Bq hw λw3 Bp Bq hw FK=>?_;go_wp2;refine bodyPost_ret (v:=.tuple #[.slice none 0 0,.int .i64 2]) (by simp [results,results114,go_sem]) rfl ⟨rfl,by have hl:=hw.size;go_grown⟩
theorem rparts_n1 (mb b:Nat) (E:Es) (p q:Pt) (hE:E.length<=500000) (h0:peqI p.x p.y q.x q.y=false) (h1:vld p=true) (h2:vld q=true) (s1:starE p E=[]) (w:World) (Bm:Box w mb [.map (some b)] 93) (Hm:Hs w b E):Calls prog 114 #[pt0 mb,p,q] w (Rt w (.tuple #[.slice none 0 0,.int .i64 16])):=by
 have kp:=z7 p;rw [h1] at kp;have kq:=z7 q;rw [h2] at kq;have cS:=λw0 B1 H1=>xA mb b E p (by omega) w0 B1 H1;have cT:=λw0 B1 H1=>xA mb b E q (by omega) w0 B1 H1;obtain ⟨n,hn⟩:∃ n,(srt cmpT (starE p E)).length=n:=⟨_,rfl⟩;obtain ⟨m,hm⟩:∃ m,(srt cmpT (starE q E)).length=m:=⟨_,rfl⟩;rw [hn] at cS;rw [hm] at cT;have hn0:n=0:=by rw [<-hn,(zS _).length_eq,s1];rfl
 subst hn0
 go_enter func114,ntmps114
 go_wp2_with fail;refine qE2 λW1 Bp Bq hw=>?_;refine qC2 (kp _) Bp Bq hw λw2 Bp Bq hw FK=>?_;go_wp2_with fail;clear FK;refine qC2 (kq _) Bp Bq hw λw3 Bp Bq hw FK=>?_;go_wp2_with fail;refine (cS _ (Bm.ee hw) (Hm.ee hw)).mono ?_;rintro e w4 ⟨as1,cs1,rfl,hr1,hb⟩;clear FK;obtain ⟨Bp,Bq,hw,-⟩:=qX2 Bp Bq hw hb;clear hb hr1;have FK:=J2 Bp.f Bq.f;go_wp2;refine bodyPost_ret (v:=.tuple #[.slice none 0 0,.int .i64 16]) (by simp [results,results114,go_sem]) rfl ⟨rfl,by have hl:=hw.size;go_grown⟩
theorem rparts_n2 (mb b:Nat) (E:Es) (p q:Pt) (hE:E.length<=500000) (h0:peqI p.x p.y q.x q.y=false) (h1:vld p=true) (h2:vld q=true) (s1:starE p E≠[]) (s2:starE q E=[]) (w:World) (Bm:Box w mb [.map (some b)] 93) (Hm:Hs w b E):Calls prog 114 #[pt0 mb,p,q] w (Rt w (.tuple #[.slice none 0 0,.int .i64 16])):=by
 have kp:=z7 p;rw [h1] at kp;have kq:=z7 q;rw [h2] at kq;have cS:=λw0 B1 H1=>xA mb b E p (by omega) w0 B1 H1;have cT:=λw0 B1 H1=>xA mb b E q (by omega) w0 B1 H1;obtain ⟨n,hn⟩:∃ n,(srt cmpT (starE p E)).length=n:=⟨_,rfl⟩;obtain ⟨m,hm⟩:∃ m,(srt cmpT (starE q E)).length=m:=⟨_,rfl⟩;rw [hn] at cS;rw [hm] at cT;have hn0:((n:Int) == 0)=false:=by
  have:n≠0:=λe=>s1 (Je.1 (by rw [<-(zS (c:=cmpT) (starE p E)).length_eq,hn,e]));simp;omega
 have hm0:m=0:=by rw [<-hm,(zS _).length_eq,s2];rfl
 subst hm0
 go_enter func114,ntmps114
 go_wp2_with fail;refine qE2 λW1 Bp Bq hw=>?_;refine qC2 (kp _) Bp Bq hw λw2 Bp Bq hw FK=>?_;go_wp2_with fail;clear FK;refine qC2 (kq _) Bp Bq hw λw3 Bp Bq hw FK=>?_;go_wp2_with fail;refine (cS _ (Bm.ee hw) (Hm.ee hw)).mono ?_;rintro e w4 ⟨as1,cs1,rfl,hr1,hb⟩;clear FK;obtain ⟨Bp,Bq,hw,-⟩:=qX2 Bp Bq hw hb;clear hb hr1;have FK:=J2 Bp.f Bq.f;go_wp2_with fail;refine (cT _ (Bm.ee hw) (Hm.ee hw)).mono ?_;rintro e w5 ⟨as2,cs2,rfl,hr2,hb⟩;clear FK;obtain ⟨Bp,Bq,hw,-⟩:=qX2 Bp Bq hw hb;clear hb hr2;have FK:=J2 Bp.f Bq.f;go_wp2;refine bodyPost_ret (v:=.tuple #[.slice none 0 0,.int .i64 16]) (by simp [results,results114,go_sem]) rfl ⟨rfl,by have hl:=hw.size;go_grown⟩
theorem rparts_ok (mb b:Nat) (E:Es) (p q:Pt) (hE:E.length<=500000) (h0:peqI p.x p.y q.x q.y=false) (h1:vld p=true) (h2:vld q=true) (s1:starE p E≠[]) (s2:starE q E≠[]) (w:World) (Bm:Box w mb [.map (some b)] 93) (Hm:Hs w b E):Calls prog 114 #[pt0 mb,p,q] w (PartsPost E p q w):=by
 have kp:=z7 p;rw [h1] at kp;have kq:=z7 q;rw [h2] at kq;have cS:=λw0 B1 H1=>xA mb b E p (by omega) w0 B1 H1;have cT:=λw0 B1 H1=>xA mb b E q (by omega) w0 B1 H1;obtain ⟨n,hn⟩:∃ n,(srt cmpT (starE p E)).length=n:=⟨_,rfl⟩;obtain ⟨m,hm⟩:∃ m,(srt cmpT (starE q E)).length=m:=⟨_,rfl⟩;rw [hn] at cS;rw [hm] at cT;have hn0:((n:Int) == 0)=false:=by
  have:n≠0:=λe=>s1 (Je.1 (by rw [<-(zS (c:=cmpT) (starE p E)).length_eq,hn,e]));simp;omega
 have hm0:((m:Int) == 0)=false:=by
  have:m≠0:=λe=>s2 (Je.1 (by rw [<-(zS (c:=cmpT) (starE q E)).length_eq,hm,e]));simp;omega
 go_enter func114,ntmps114
 go_wp2_with fail;refine qE2 λW1 Bp Bq hw=>?_;refine qC2 (kp _) Bp Bq hw λw2 Bp Bq hw FK=>?_;go_wp2_with fail;clear FK;refine qK2 (kq _) Bp Bq hw λw3 Bp Bq hw=>?_;have Fp:=Bp.f;have Fq:=Bq.f;go_wp2_with fail;refine (cS _ (Bm.ee hw) (Hm.ee hw)).mono ?_;rintro e w4 ⟨as1,cs1,rfl,hr1,hb⟩;clear Fp Fq;obtain ⟨Bp,Bq,hw,-⟩:=qX2 Bp Bq hw hb;clear hb hr1;have Fp:=Bp.f;have Fq:=Bq.f;go_wp2_with fail;refine (cT _ (Bm.ee hw) (Hm.ee hw)).mono ?_;rintro e w5 ⟨as2,cs2,rfl,hr2,hb⟩;clear Fp Fq;obtain ⟨Bp,Bq,hw,-⟩:=qX2 Bp Bq hw hb;clear hb hr2;have B1:=Bm.ee hw;have H1:=Hm.ee hw;have Fm:=B1.f;have Fp:=Bp.f;have Fq:=Bq.f;have HPE:=hdd (show p∈onE E p q by
  have:starE p E≠[]:=s1;obtain ⟨T,hT⟩:=VR _ this;unfold starE at hT;obtain ⟨e,he,_⟩:=JN.1 hT;obtain ⟨he,hp⟩:=JS.1 he;have hp:e.1.1=p:=by simpa using hp
  unfold onE froms;refine JS.2 ⟨JN.2 ⟨e,he,hp⟩,?_⟩;unfold onR btw;have z:det p q p=0:=by unfold det;grind
  have k1:min p.x q.x<=p.x/\p.x<=max p.x q.x:=by omega
  have k2:min p.y q.y<=p.y/\p.y<=max p.y q.y:=by omega
  rw [h1,h2,z,Qi k1,Qi k2];rfl)
 clear s1 s2 hn hm h0 cS cT kp kq Bm Hm;go_wp2_with (at_range;refine yJ _ rfl _ rfl kvR rfl H1 ?_)
 intro w20 HR0 hw20 hs20;generalize hit:w5.heap.size=it at HR0 ⊢
 have hwz:=hw.size;have hiz:=hdd (show w.heap.size+2<=it by have:=Bq.lt;omega);have Bp0:Box w20 w [p.x,p.y] 26:=Bp.ext hw20 (by first | rfl | simp);have Bq0:Box w20 (w+1) [q.x,q.y] 26:=Bq.ext hw20 (by first | rfl | simp);replace hw:=upB hw hw20;clear Fp Fq Fm Bp Bq hw20 hs20 B1 H1 hit hwz hn0 hm0;go_wp2
 go_loopw [8] (λv wr=>∃ D R:Es,Hi ((D ++ R).Perm E)/\wr.ownsRow (w.heap.size+2) 26 2 v (onE D p q).length ((onE D p q).flatMap cP)/\Ranging eW eT okW wr b it E R/\Box wr w [p.x,p.y] 26/\Box wr (w+1) [q.x,q.y] 26/\Below w w wr) (λ_ wr=>wr.rangeLeft b it)
 case atStart=>exact ⟨[],E,hdd (by simp),World.ownsRow_nil _ _ _ _,by simpa using HR0,Bp0,Bq0,hw⟩
 case round=>
  clear HR0 hw Bp0 Bq0;obtain ⟨D,R,hD,hown,HR,Bp,Bq,hw⟩:=hrel;go_wp2_with (at_next;refine yN _ rfl _ rfl rfl HR ?_ ?_)
  ·intro hR;subst hR;have hp0:(onE D p q).Perm (onE E p q):=onE_perm (by simpa using hD.o) p q;have hle:(onE D p q).length<=500000:=by have:=hp0.length_eq;have:=Yj E p q;omega
   have HPM:=hdd hp0;clear hp0;obtain ⟨a1,c1,rfl,hc1,hr1⟩:=zw ta hown;go_wp2_with fail;refine (rsortP_any _ _ _ _ (hdd rfl) hle _ hr1).mono ?_;rintro e w2 ⟨M,aM,cM,rfl,hrM,hriM,hmM,hb⟩;have HRI:=hdd hriM;have HMM:=hdd (show ∀ x,x∈M↔x∈onE E p q from λx=>by rw [hmM x,HPM.o.mem_iff]);have hM0:0 < M.length:=VZ ((HMM.o p).2 HPE.o);have hMl:=hdd (show M.length<=500000 from JQ (qM M (onE E p q) (hriM.imp λ{x y} h e=>by subst e;have:=(zY (p:=x) (q:=x)).2 rfl;omega) (λx hx=>(HMM.o x).1 hx)) (by rw [<-HPM.o.length_eq];exact hle));have Bp2:=Bp.ee hb;have HZ2:=hdd (show w.heap.size+2<=w2.heap.size by have:=Bq.lt;have:=hb.size;omega);have hw2:=(upB hw hb);clear hown HR Bp Bq hw hb hr1 hriM hmM hc1 HPM;obtain ⟨ad,A,ea,eA,hA⟩:=hrM.two hM0;have HH:=hdd (show M.head? = some M[0] from List.head?_eq_getElem? ▸ JC hM0);generalize M[0]=x at *
   obtain ⟨n,hnM⟩:∃ n,M.length=n:=⟨_,rfl⟩;have HN:=hdd hnM;rw [hnM] at hM0 hMl;rw [hnM];clear hnM;have q0:(0:Int) < (n:Int):=by omega
   have gp:=Bp2.cells;obtain ⟨s0,s1⟩:=hA.cells;have ea2:=hdd ea;subst ea;go_wp2_with fail;refine rgn 4 (λw3 hb3=>?_);clear gp s0 s1;have r3:=hrM.ee hb3;have hw3:=(upB hw2 hb3);have HZ3:=hdd (show w.heap.size+2<=w3.heap.size by have:=HZ2.o;have:=hb3.size;omega);have HAD:=hdd (show ad.block < w3.heap.size by have hs:=hb3.size;have h1:=hA.1;rw [<-eA,zi] at h1;omega);clear hA hrM Bp2 hw2 hb3 HZ2;cases hx:peqI x.x x.y p.x p.y with
   | true=>
    have HR:=hdd (show PartsL E p q M from ⟨HMM.o,.inl ⟨HRI.o,by rw [HH.o,yw.1 hx]⟩⟩);go_wp2;refine bodyPost_ret (v:=.tuple #[.slice (some ad) n cM,()]) (by simp [results,results114,go_sem]) rfl ?_;exact ⟨M,some ad,cM,by rw [HN.o],r3,HR.o,hw3⟩
   | false=>
    have HR:=hdd (show PartsL E p q M.reverse from ⟨λy=>by rw [List.mem_reverse];exact HMM.o y,.inr ⟨by rw [List.reverse_reverse];exact HRI.o,by rw [List.reverse_reverse,HH.o];intro e;rw [JL e] at hx;rw [yw.2 rfl] at hx;cases hx⟩⟩);have r4:RowAt cP 2 w3 (some ad) M:=r3;have e1:=hdd (show wrap64 ((n:Int) - 1)=(n:Int) - 1 by rw [w64];have:=hMl.o;omega);clear HPE HRI HMM HH r3;go_wp2
    go_loopw [10,11] (λvo vi wr=>∃ (j:Nat) (z:Int),vi=.int .i64 z/\z=(j:Int) - 1/\j<=n/\wr.ownsRow w3.heap.size 26 2 vo (M.drop j).reverse.length ((M.drop j).reverse.flatMap cP)/\RowAt cP 2 wr (some ad) M/\Hi (w3.heap.size<=wr.heap.size)/\Below w w wr) (λ_ vi _=>(intOf vi+1).toNat)
    case atStart=>exact ⟨n,_,rfl,by first | rfl | exact e1.o,JA _,by rw [List.drop_of_length_le (by rw [HN.o];omega)];exact World.ownsRow_nil _ _ _ _,r4,hdd (JA _),hw3⟩
    case round=>
     clear r4 hw3;obtain ⟨j,z,rfl,hz,hj,hown,r4,hz3,hw3⟩:=hrel;cases j with
     | zero=>
      have q2:decide ((0:Int)<=z)=false:=by simp;omega
      clear hz hj;obtain ⟨a1,c1,rfl,hc1,hr1⟩:=zw ta hown;rw [QC] at hr1;have HL0:=hdd (show (M.drop 0).reverse.length=M.reverse.length from rfl);go_wp2;refine bodyPost_ret (v:=.tuple #[.slice a1 (M.drop 0).reverse.length c1,()]) (by simp [results,results114,go_sem]) rfl ?_;exact ⟨M.reverse,a1,c1,by rw [<-HL0.o],hr1,HR.o,hw3⟩
     | succ j=>
      obtain rfl:z=(j:Int):=by omega
      have hjM:j < M.length:=by rw [HN.o];omega
      obtain ⟨ad2,A2,ea3,eA2,hA2⟩:=r4.two hjM;obtain rfl:ad=ad2:=JL ea3;have HT:=hdd (show (M.drop j).reverse=(M.drop (j+1)).reverse ++ [M[j]] by rw [Jv hjM,List.reverse_cons]);have hle2:(M.drop (j+1)).reverse.length<=1000000:=by rw [List.length_reverse,JR,HN.o];have:=hMl.o;omega
      generalize M[j]=y at *
      have q2:decide ((0:Int)<=(j:Int))=true:=by simp
      have q3:(j:Int) < (n:Int):=by omega
      have q4:(0:Int)<=(j:Int):=by omega
      have e2:=hdd (show wrap64 ((j:Int) - 1)=(j:Int) - 1 by rw [w64];have:=hMl.o;omega);have hjn:=hdd (show j<=n by omega);obtain ⟨z1,t0,t1⟩:=hA2.f;have hbw:=hz3.o;have hsz:=hdd (show w3.heap.size<=wr.heap.size from hbw);clear hj hz ea3 hA2 hbw;go_wp2_with (at_builtin;refine td rfl _ _ rfl w3.heap.size _ (M.drop (j+1)).reverse rfl (hown.alloc _) wr.heap.size y rfl (Box.new rfl) hle2 (by have:=hsz.o;simp;omega) ?_;intro w4 v4 hown4 hg4 hn4)
      have hlt:=λk hk=>((hown.alloc (.cells (cP y).toArray 26)).lt k hk).1;have hw4:=(hw3.alloc (by have:=hsz.o;have:=HZ3.o;omega) (.cells (cP y).toArray 26)).grown hg4 (by have:=hsz.o;have:=HZ3.o;simp;omega) (λk hk=>by have:=hlt k hk;have:=HZ3.o;omega);have r5:=(r4.ext (w':=wr.alloc (.cells (cP y).toArray 26)) (by go_grown) rfl);have r6:RowAt cP 2 w4 (some ad) M:=r5.kept hg4 (λad' e k=>by cases e;have:=hlt _ k.symm;have:=HAD.o;omega);clear z1 t0 t1 hlt
      go_roundw
      case rel=>exact ⟨j,_,rfl,by first | rfl | exact e2.o,hjn.o,by rw [HT.o];exact hown4,r6,hdd (by have:=hg4.size;have:=hsz.o;simp at *;omega),hw4⟩
      case measure=>simp [intOf];have:=e2.o;omega
  ·intro u x T R' w1 hperm HR1 hg1 hs1 hen;have hD2:=hdd (show ((D ++ [((u,x),T)]) ++ R').Perm E by have:=(hperm.append_left D).symm.trans hD.o;simpa using this);have own1:=hown.kept hg1 (.inr (λe=>zv hown HR e.symm));have hzi:=hiz.o;have Bp1:=Bp.grown2 hg1 (λk hk=>by cases hk;omega);have Bq1:=Bq.grown2 hg1 (λk hk=>by cases hk;omega);have hw1:=hw.grown hg1 hw.size (λk hk=>by cases hk;omega);have HL:=hdd (show w1.rangeLeft b it < wr.rangeLeft b it by rw [zT HR1,zT HR,hperm.length_eq];simp);have hen2:(Instr.entry (.pointer (some ⟨it,0,none⟩))).run prog w1=.ok (.tuple #[.agg #[u.x,u.y,x.x,x.y],T]) w1:=hen;have hle:(onE D p q).length<=1000000:=by have:=hD2.o.length_eq;have:=Yj D p q;simp at *;omega
   have HB:=hdd hw1.size;have HQ:=hdd Bq1.lt;clear hown HR hg1 hs1 hen hperm hw Bp Bq hzi;have Fp:=Bp1.f;have Fq:=Bq1.f;have con:=λw0=>vA u p q w0;have hb2:Below w1 w1 (w1.alloc (.cells #[u.x,u.y,x.x,x.y] 95)):=by go_grown
   go_wp2_with fail;refine zI λW2 hW=>?_;have Be:Box W2 w1 [u.x,u.y,x.x,x.y] 95:=by rw [hW];exact Box.new rfl
   have hw2:Below w1 w1 W2:=by rw [hW];go_grown
   clear hW hb2;refine (con _).mono ?_;rintro e w3 ⟨rfl,hb⟩;have hb3:=(upB hw2 hb);have Be3:=Be.ee hb;have Bp3:=Bp1.ee hb3;have Bq3:=Bq1.ee hb3;have own3:=yo own1 hb3;have HR3:=HR1.ee hb3;have hw3:=(upB hw1 hb3);have HL3:=hdd (show w3.rangeLeft b it < wr.rangeLeft b it by rw [zT HR3,<-zT HR1];exact HL.o);have HB3:=hdd (show w.heap.size+2<=w3.heap.size by have:=HQ.o;have:=hb3.size;omega);clear con hb hb3 hw2 Be Bp1 Bq1 own1 HR1 hw1 HL HB HQ hen2 Fp Fq;have Fe:=Be3.f;cases hon:onR u p q with
   | true=>
    have HH:=hdd (show onE (D ++ [((u,x),T)]) p q=onE D p q ++ [u] by rw [tE,onE_yes hon]);clear hon;go_wp2_with (at_builtin;refine td rfl _ _ rfl (w.heap.size+2) _ (onE D p q) rfl (own3.alloc _) w3.heap.size u rfl (Box.new rfl) hle (by have:=HB3.o;simp;omega) ?_;intro w4 v4 hown4 hg4 hn4)
    have hR3:=HR3.kept (World.grownBy_alloc _ (.cells (cP u).toArray 26) none) (by simp) (by simp);have hR4:=hR3.kept hg4 (yF (own3.alloc _) hR3.holds) (zv (own3.alloc _) hR3);have hlt:=λk hk=>((own3.alloc (.cells (cP u).toArray 26)).lt k hk).1;have hw4:=(hw3.alloc (by have:=HB3.o;omega) (.cells (cP u).toArray 26)).grown hg4 (by have:=HB3.o;simp;omega) (λk hk=>by have:=hlt k hk;omega);have Bp4:=(Bp3.old _).grown2 hg4 (λk hk=>by have:=hlt k hk;omega);have Bq4:=(Bq3.old _).grown2 hg4 (λk hk=>by have:=hlt k hk;omega);clear Fe hlt
    go_roundw
    case rel=>exact ⟨D ++ [((u,x),T)],R',hD2,by rw [HH.o];exact hown4,hR4,Bp4,Bq4,hw4⟩
    case measure=>rw [zT hR4,<-zT HR3];exact HL3.o
   | false=>
    have HH:=hdd (show onE (D ++ [((u,x),T)]) p q=onE D p q by rw [tE,onE_no hon,Jf]);clear hon;go_wp2
    go_roundw
    case rel=>exact ⟨D ++ [((u,x),T)],R',hD2,by rw [HH.o];exact own3,HR3,Bp3,Bq3,hw3⟩
    case measure=>exact HL3.o
section
def crossD (a b:Pt) (D:Es):List Wl:=D.filterMap λe=>if decide (cmpP e.1.1 e.1.2 < 0) && decide (meetR a b e.1.1 e.1.2=1) then some ⟨e.1.1,e.1.2,0⟩ else none
theorem qT (a b:Pt) (D F:Es):crossD a b (D ++ F)=crossD a b D ++ crossD a b F:=by unfold crossD;rw [List.filterMap_append]
theorem jj (a b u x:Pt) (T:Tri3):crossD a b [((u,x),T)]=if (decide (cmpP u x < 0) && decide (meetR a b u x=1))=true then [⟨u,x,0⟩] else []:=by
 unfold crossD;simp only [List.filterMap_cons,List.filterMap_nil];generalize (decide (cmpP u x < 0) && decide (meetR a b u x=1))=c
 cases c <;> rfl
theorem tW (a b:Pt) (D:Es):(crossD a b D).length<=D.length:=List.length_filterMap_le _ _
theorem crossD_perm (a b:Pt) {D F:Es} (h:D.Perm F):(crossD a b D).Perm (crossD a b F):=h.filterMap _
theorem qS {a b:Pt} {D:Es} {x:Wl} (h:x∈crossD a b D):x.K=0/\cmpP x.A x.B < 0/\meetR a b x.A x.B=1/\∃ T,((x.A,x.B),T)∈D:=by
 unfold crossD at h;rw [VP] at h;obtain ⟨e,he,hx⟩:=h;split at hx
 ·rename_i hc
  simp only [Ko,Kn] at hc;simp only [Qb] at hx;rw [<-hx];exact ⟨rfl,hc.1,hc.2,e.2,he⟩
 ·cases hx
def fstep (a b:Pt) (E:Es) (x:Wl) (Q:List Wl):Es×List Wl:=
 match getE E (x.A,x.B),getE E (x.B,x.A) with
 | some S,some R=>
  if (flipD E x.A x.B).1≠0 then ((flipD E x.A x.B).2,Q ++ [x])
  else if meetR a b (apx S x.A x.B) (apx R x.A x.B)=1 then ((flipD E x.A x.B).2,Q ++ [⟨rl (apx S x.A x.B) (apx R x.A x.B),rg (apx S x.A x.B) (apx R x.A x.B),0⟩]) else ((flipD E x.A x.B).2,Q)
 | _,_=>(E,Q)
def forceR (a b:Pt):Nat->Es->List Wl->Es×List Wl
 | 0,E,Q=>(E,Q)
 | _+1,E,[]=>(E,[])
 | n+1,E,x :: Q=>forceR a b n (fstep a b E x Q).1 (fstep a b E x Q).2
theorem forceR_nil (a b:Pt) (E:Es):∀ n,forceR a b n E []=(E,[])
 | 0=>rfl
 | _+1=>rfl
def capN:Nat:=1000000
theorem xf {a b:Pt} {E:Es} {x:Wl} {Q:List Wl} (h:getE E (x.A,x.B)=none\/getE E (x.B,x.A)=none):fstep a b E x Q=(E,Q):=by
 unfold fstep;rcases h with h | h
 ·rw [h]
 ·rw [h];cases getE E (x.A,x.B) <;> rfl
theorem kJ {a b:Pt} {E:Es} {x:Wl} {Q:List Wl} {S R:Tri3} (h0:getE E (x.A,x.B)=some S) (h1:getE E (x.B,x.A)=some R):fstep a b E x Q=if (flipD E x.A x.B).1≠0 then ((flipD E x.A x.B).2,Q ++ [x]) else if meetR a b (apx S x.A x.B) (apx R x.A x.B)=1 then ((flipD E x.A x.B).2,Q ++ [⟨rl (apx S x.A x.B) (apx R x.A x.B),rg (apx S x.A x.B) (apx R x.A x.B),0⟩]) else ((flipD E x.A x.B).2,Q):=by
 unfold fstep;rw [h0,h1]
theorem append_wls {w:World} {ops:Array Oper} {rest:List Oper} {o:Oper} {a:Act} {Q:Exit->Act->World->Prop} (hgd:o.guard=none) (s x:Operand) (ho:o.op=.call { callee:=.builtin .append,args:=#[s,x],argTypes:=#[48,48] }) (B:Nat) (v:Value) (L:List Wl) (hs:a.eval s=v) (hown:WRow w B v L) (ad:Option Addr) (n c:Nat) (M:List Wl) (hx:a.eval x=.slice ad n c) (hM:M.length=n) (hrow:RowAt cW 5 w ad M) (hfl:Flat ad) (hnn:ad≠none) (hn:L.length+n<=1000000) (hbase:B<=w.heap.size) (h:∀ w' v',WRow w' B v' (L ++ M)->w.grownBy w' v.ownBlock->wpList prog ops Q rest (a.put o.dst v') w'):wpList prog ops Q (o :: rest) a w:=by
 obtain ⟨i0,hi,hz0,hz1,hz2⟩:=info_parts xR;cases ad with
 | none=>exact absurd rfl hnn
 | some A=>
  have hA:A=⟨A.block,A.off,none⟩:=by have:=hfl A rfl;cases A;simp_all
  rw [hA] at hx hrow;refine wpList_append_own w hgd s x 48 ho B 57 i0 _ 5 40 underlying48 hi hz0 hz1 hz2 rfl (by decide) v L.length _ hs hown ⟨A.block,A.off,none⟩ n c (M.flatMap cW) hx (by rw [zR yR,hM]) (λj u hu=>by rw [Addr.add_lit];exact (hrow.flat j u hu).2) (λu hu=>by
   obtain ⟨y,_,hy⟩:=JH.1 hu;exact j0 y u hy) (by unfold maxLen;omega) (by omega) hbase ?_
  intro v' w' hown' hg _;refine h w' v' ?_ hg;unfold WRow;rw [Kp,JW,hM];exact hown'
theorem uR {w w' w2:World} {b:Nat} {r:Option Nat} (h:w.grownBy w' (some b)) (hg:w'.grownBy w2 r) (hr:∀ k,r=some k->w.heap.size<=k):w.grownBy w2 (some b):=
 ⟨hg.os.trans h.os,hg.tape.trans h.tape,hg.output.trans h.output,JQ h.size hg.size,λk hk hn=>(hg.block k (QI hk h.size) (λe=>by have:=hr k e.symm;omega)).trans (h.block k hk hn)⟩
theorem made_row2 (w:World) (o:Obj):WRow ((w.alloc o).alloc (.cells #[] 57)) w.heap.size (.slice (some ⟨w+1,0,none⟩) 0 0) []:=by
 have h:=ki (w.alloc o) w.heap.size (by simp)
 simpa using h
def tl1 (ad:Addr) (cap:Nat):Addr:=if cap=1 then ad else ad.add 5
theorem run_tail_wal (ad:Addr) (n cap:Nat) (w:World):(Instr.slice 48 (.slice (some ad) (n+1) cap) (some (.int .i64 1)) none none).run prog w=.ok (.slice (some (tl1 ad cap)) n (cap - 1)) w:=by
 have h:=jQ (some ad) (n+1) cap 1 (by omega) w;refine (show _=_ from h).trans ?_;unfold tl1;split <;> simp
attribute [local go_sem ↓ 10000] run_tail_wal
def ForcePost (b:Nat) (E:Es) (a b0:Pt) (w:World) (e:Ending) (w':World):Prop:=
 e=.returned (.tuple #[])/\∃ Q0:List Wl,Q0.Perm (crossD a b0 E)/\w.grownBy w' (some b)/\Hs w' b (forceR a b0 capN E Q0).1
theorem rforce_any (mb b:Nat) (E:Es) (L:List Tri3) (hE:E.length<=100000) (g:Good E L) (a b0:Pt) (w:World) (Bm:Box w mb [.map (some b)] 93) (Hm:Hs w b E):Calls prog 116 #[pt0 mb,a,b0] w (ForcePost b E a b0 w):=by
 have hok:∀ e∈E,okW e.1:=Z8 g;have HG:=hdd g;clear g;have Fm:=Bm.f;have e1:(mb=w.heap.size+1)=False:=by have:=Bm.lt;simp;omega
 have e2:(mb=w.heap.size+1+1)=False:=by have:=Bm.lt;simp;omega
 go_enter func116,ntmps116
 go_wp2_with (at_range;refine yJ _ rfl _ rfl kvR rfl (((Hm.alloc _).alloc _).alloc _) ?_)
 intro w0 HR0 hw0 hs0;have Ba0:Box w0 w [a.x,a.y] 26:=(((Box.new rfl).old _).old _).ext hw0 (by simp);have Bb0:Box w0 (w+1) [b0.x,b0.y] 26:=((Box.new (by simp)).old _).ext hw0 (by simp);have So0:DocAt w0 (w.heap.size+1+1) (.slice none 0 0) []:=⟨(Box.new (by simp)).ext hw0 (by simp),World.ownsRow_nil _ _ _ _,by simp [Value.ownBlock],by simp⟩;replace hw0:Below w w w0:=((((Below.refl w.heap.size w).alloc (JA _) _).alloc (by simp) _).alloc (by simp;omega) _).trans (hw0.mono (by omega));clear Fm hs0 e1 e2;go_wp2
 go_loopw [] (λwr=>∃ (D R:Es) (v:Value) (L:List Wl),Hi ((D ++ R).Perm E)/\Hi (L.Perm (crossD a b0 D))/\DocAt wr (w.heap.size+1+1) v L/\Hi (∀ k,v.ownBlock=some k->w.heap.size+3<=k)/\Ranging eW eT okW wr b (w.heap.size+1+1+1) E R/\Box wr w [a.x,a.y] 26/\Box wr (w+1) [b0.x,b0.y] 26/\Below w w wr) (λwr=>wr.rangeLeft b (w.heap.size+1+1+1))
 case atStart=>exact ⟨[],E,_,[],hdd (by simp),hdd (.refl _),So0,hdd (by simp [Value.ownBlock]),by simpa using HR0,Ba0,Bb0,hw0⟩
 case round=>
  clear HR0 hw0 So0 Ba0 Bb0;obtain ⟨D,R,v,L,hD,hL,So,hB,HR,Ba,Bb,hw⟩:=hrel;go_wp2_with (at_next;refine yN _ rfl _ rfl rfl HR ?_ ?_)
  ·intro hR;subst hR;have hp0:=hdd (show L.Perm (crossD a b0 E) from hL.o.trans (crossD_perm a b0 (by simpa using hD.o)));have hlE:=hdd (show L.length<=100000 by rw [hp0.o.length_eq];exact JQ (tW a b0 E) hE);obtain ⟨a1,c',rfl,Dr,hz⟩:=So.rd;have Fo:=Dr.box.f;have hown:WRow wr (w.heap.size+2) (.slice a1 L.length c') L:=by
    rcases So.row.box with ⟨e1,e2⟩ | ⟨g,cap,tl,e1,_,k1,k2,k3,k4⟩
    ·rw [e1,e2];exact WRow.nil0 _ _
    ·rw [e1];exact WRow.of_box (by have:=hB.o g (by rw [e1];rfl);omega) k1 k2 k3 k4
   have HK0:=hdd (show ∀ x∈L,okW (x.A,x.B) from λx hx=>by
    obtain ⟨_,_,_,T,hT⟩:=qS (hp0.o.mem_iff.1 hx);exact hok _ hT)
   have Hb:=HR.holds;have HQ0:=hdd (show ∃ L1,Good E L1 from ⟨_,HG.o⟩);have HP0:=hdd (show forceR a b0 (capN - 0) E L=forceR a b0 capN E L by rw [Nat.sub_zero]);have hg0:w.grownBy wr (some b):=zM hw _;clear So Dr hz HR hw hB hL hD HG;go_wp2
   go_loopw [8,9] (λv8 v9 wr=>∃ (k:Nat) (E1:Es) (Q:List Wl),v9=.int .i64 k/\k<=1000000/\WRow wr (w.heap.size+2) v8 Q/\Hi (Q.length<=100000)/\Hi (∀ x∈Q,okW (x.A,x.B))/\Hs wr b E1/\Hi (∃ L1,Good E1 L1)/\Hi (forceR a b0 (capN - k) E1 Q=forceR a b0 capN E L)/\Box wr w [a.x,a.y] 26/\Box wr (w+1) [b0.x,b0.y] 26/\w.grownBy wr (some b)) (λ_ v9 _=>1000000 - (intOf v9).toNat)
   case atStart=>exact ⟨0,E,L,rfl,JZ _,hown,hlE,HK0,Hb,HQ0,HP0,Ba,Bb,hg0⟩
   case round=>
    clear hown hlE Hb HQ0 HP0 Ba Bb hg0 HK0 Fo;obtain ⟨k,E1,Q,rfl,hk,hown,hlE,HK0,Hb,HQ0,HP0,Ba,Bb,hg0⟩:=hrel;cases Q with
    | nil=>
     obtain ⟨a8,c8,rfl,_,_⟩:=hown.row;have HE:=hdd (show (forceR a b0 capN E L).1=E1 by rw [<-HP0.o,forceR_nil]);go_wp2;exact bodyPost_end (results_none rfl _ _ _) rfl ⟨rfl,L,hp0.o,hg0,by rw [HE.o];exact Hb⟩
    | cons x Q=>
     by_cases hlt:k < 1000000
     case neg=>
      obtain ⟨a8,c8,rfl,_,_⟩:=hown.row;have q1:decide ((k:Int) < 1000000)=false:=by simp;omega
      have q2:decide (0 < (Q.length:Int)+1)=true:=Qi (by omega);have HE:=hdd (show (forceR a b0 capN E L).1=E1 by rw [<-HP0.o,show capN - k=0 by unfold capN;omega];rfl);clear hlt;go_wp2;exact bodyPost_end (results_none rfl _ _ _) rfl ⟨rfl,L,hp0.o,hg0,by rw [HE.o];exact Hb⟩
     case pos=>
      have q1:decide ((k:Int) < 1000000)=true:=by simp;omega
      have HF:=hdd (show forceR a b0 (capN - (k+1)) (fstep a b0 E1 x Q).1 (fstep a b0 E1 x Q).2=forceR a b0 capN E L by
       rw [<-HP0.o,show capN - k=capN - (k+1)+1 by unfold capN;omega];rfl)
      clear HP0;obtain ⟨a8,c8,rfl,hr8,hf8⟩:=hown.row;obtain ⟨m,hm⟩:∃ m,Q.length=m:=⟨_,rfl⟩;have HM:=hdd hm;have hn8:(x :: Q).length=m+1:=by rw [JO,hm]
      have hnc:m+1<=c8:=by
       rcases hown.box with ⟨e1,e2⟩ | ⟨g,cap,tl,e1,_,_,k2,_⟩
       ·cases e2
       ·simp only [Value.slice.injEq] at e1;omega
      obtain ⟨ad,A,ea,eA,hA⟩:=hr8.five (j:=0) (by simp);subst ea;obtain ⟨ad1,hd1,hr1,hf1,hz1⟩:=jL (k:=1) hr8 hn8 hnc hf8 (by omega) (λe=>by cases e);have e1:ad1=some (tl1 ad c8):=by rw [<-hd1];unfold tl1;split <;> simp
      rw [e1] at hr1 hf1;have hnn:some (tl1 ad c8)≠none:=by simp
      rw [hn8];have q2:decide (0 < (m:Int)+1)=true:=Qi (by omega);simp only [dP1,dP0] at hr1;have hA:Five wr A x:=hA;have hAb:=hA.1;obtain ⟨zA,d0,d1,d2,d3,d4⟩:=hA.f;have hle2:([]:List Wl).length+m<=1000000:=by have:=hlE.o;rw [JO,hm] at this;simp;omega
      clear e1 hd1 hz1 hown hf8 hr8 hnc hn8 hA hk;go_wp2_with (
       at_builtin
       (refine append_wls rfl _ _ rfl wr.heap.size (.slice (some ⟨wr+1,0,none⟩) 0 0) [] rfl (made_row2 wr _) _ m (c8 - 1) Q rfl HM.o ((hr1.old _).old _) hf1 hnn hle2 (by simp;omega) ?_)
       intro w4 v4 hown4 hg4;have hne:∀ k,(Value.slice (some ⟨wr+1,0,none⟩) 0 0).ownBlock=some k->k=wr.heap.size+1:=λk hk=>by have hk':some (wr.heap.size+1)=some k:=hk;cases hk';rfl
       have lA:=Ba.lt;have lB:=Bb.lt;have Bw:Box w4 wr [x.A.x,x.A.y,x.B.x,x.B.y,x.K] 57:=((Box.new rfl).old _).grown2 hg4 (λk hk=>by have:=hne k hk;omega);have Ba4:=((Ba.old _).old _).grown2 hg4 (λk hk=>by have:=hne k hk;omega);have Bb4:=((Bb.old _).old _).grown2 hg4 (λk hk=>by have:=hne k hk;omega);have hw:Below wr wr w4:=(((Below.refl wr.heap.size wr).alloc (JA _) _).alloc (by simp) _).grown hg4 (by simp;omega) (λk hk=>by have:=hne k hk;omega);rw [Js] at hown4;have hwr2:=hdd (show w.heap.size+1 < wr.heap.size from lB);clear hne lA lB Ba Bb hg4 zA d0 d1 d2 d3 d4 hr1;have Fw:=Bw.f;have Fa:=Ba4.f;have Fb:=Bb4.f)
      have hkx:okW (x.A,x.B):=HK0.o x (by simp);have HKQ:=hdd (show ∀ y∈Q,okW (y.A,y.B) from λy hy=>HK0.o y (JK _ hy));have HXK:=hdd hkx;have hl2:=hdd (show Q.length+1<=100000 by have:=hlE.o;rw [JO] at this;exact this);have B4:Box w4 mb [.map (some b)] 93:=(Bm.turn Hm hg0).ee hw;have H4:=Hb.ee hw;have hg4:=zO hg0 hw;have hrz:=hdd (show w.heap.size+2<=wr.heap.size by have:=hwr2.o;omega);have own4:=hown4.base (show w.heap.size+2<=wr.heap.size from hrz.o);have Ba:=Ba4;have Bb:=Bb4;clear hw Hb hg0 HK0 hlE hnn hf1 Ba4 Bb4;have hw:Below w4 w4 w4:=Below.refl _ _;have cl:=zZ mb b E1 x.A x.B hkx;have cr:=zZ mb b E1 x.B x.A ⟨hkx.2,hkx.1⟩;clear hkx;cases h0:getE E1 (x.A,x.B) with
      | none=>
       have HFN:=hdd (show forceR a b0 (capN - (k+1)) E1 Q=forceR a b0 capN E L by rw [<-HF.o,xf (.inl h0)]);rw [yV h0] at cl;generalize lftE E1 x.B x.A=Z at cr
       obtain ⟨Y,y⟩:=Z;dsimp only at cr;clear HF h0;clear Fw Fa Fb;refine qC3 (cl _ (B4.ee hw) (H4.ee hw)) Bw Ba Bb hw λw51 Bw Ba Bb hw Ku=>?_;go_wp2_with fail;clear Ku;refine zI λW52 hW=>?_;obtain ⟨bks,hbs⟩:∃ b,w51.heap.size=b:=⟨_,rfl⟩;rw [hbs];obtain ⟨lws,las,lbs,fs,Bs,Bw,Ba,Bb,hw⟩:=qM3 hW hbs Bw Ba Bb hw;clear hW hbs;refine qK4 (cr _ (B4.ee hw) (H4.ee hw)) Bw Ba Bb Bs hw λw53 Bw Ba Bb Bs hw=>?_;have Fw:=Bw.f;have Fa:=Ba.f;have Fb:=Bb.f;have Fs:=Bs.f;go_wp2
       go_roundw
       case rel=>exact ⟨k+1,E1,Q,by go_num,by omega,own4.ext (by have hl:=hw.size;go_grown) rfl,hdd (by have:=hl2.o;omega),HKQ,H4.ext (by have hl:=hw.size;go_grown) rfl,HQ0,HFN,Ba.ext (by have hl:=hw.size;go_grown) rfl,Bb.ext (by have hl:=hw.size;go_grown) rfl,zO hg4 (by have hl:=hw.size;go_grown)⟩
       case measure=>simp [intOf];omega
      | some S=>
       rw [zf h0] at cl;cases h1:getE E1 (x.B,x.A) with
       | none=>
        have HFN:=hdd (show forceR a b0 (capN - (k+1)) E1 Q=forceR a b0 capN E L by rw [<-HF.o,xf (.inr h1)]);rw [yV h1] at cr;clear HF h0 h1;clear Fw Fa Fb;refine qC3 (cl _ (B4.ee hw) (H4.ee hw)) Bw Ba Bb hw λw51 Bw Ba Bb hw Ku=>?_;go_wp2_with fail;clear Ku;refine zI λW52 hW=>?_;obtain ⟨bks,hbs⟩:∃ b,w51.heap.size=b:=⟨_,rfl⟩;rw [hbs];obtain ⟨lws,las,lbs,fs,Bs,Bw,Ba,Bb,hw⟩:=qM3 hW hbs Bw Ba Bb hw;clear hW hbs;refine qK4 (cr _ (B4.ee hw) (H4.ee hw)) Bw Ba Bb Bs hw λw53 Bw Ba Bb Bs hw=>?_;have Fw:=Bw.f;have Fa:=Ba.f;have Fb:=Bb.f;have Fs:=Bs.f;go_wp2
        go_roundw
        case rel=>exact ⟨k+1,E1,Q,by go_num,by omega,own4.ext (by have hl:=hw.size;go_grown) rfl,hdd (by have:=hl2.o;omega),HKQ,H4.ext (by have hl:=hw.size;go_grown) rfl,HQ0,HFN,Ba.ext (by have hl:=hw.size;go_grown) rfl,Bb.ext (by have hl:=hw.size;go_grown) rfl,zO hg4 (by have hl:=hw.size;go_grown)⟩
        case measure=>simp [intOf];omega
       | some R=>
        rw [zf h1] at cr;have HS:=hdd (kJ (a:=a) (b:=b0) (Q:=Q) h0 h1);have HGD:=hdd (show ∃ L1,Good (flipD E1 x.A x.B).2 L1 from by obtain ⟨L1,g1⟩:=HQ0.o;exact good_flipD g1 _ _);have HVC:=hdd (show vld (apx S x.A x.B)=true/\vld (apx R x.A x.B)=true from by obtain ⟨L1,g1⟩:=HQ0.o;obtain ⟨_,_,_,_,_,v1,v2⟩:=qQ g1 h0 h1;exact ⟨v1,v2⟩);obtain ⟨L1,g1⟩:=HQ0.o;have cf:=λw0 B1 H1=>rflip_any mb b E1 L1 g1 x.A x.B HXK.o w0 B1 H1;clear g1 HQ0 L1;have k1:=x9 S x.A x.B;have k2:=x9 R x.A x.B;generalize apx S x.A x.B=C at *
        generalize apx R x.A x.B=D at *
        generalize flipD E1 x.A x.B=RE at *
        obtain ⟨r,E2⟩:=RE;dsimp only at cf HS HGD;clear h0 h1;clear Fw Fa Fb;refine qC3 (cl _ (B4.ee hw) (H4.ee hw)) Bw Ba Bb hw λw51 Bw Ba Bb hw Ku=>?_;go_wp2_with fail;clear Ku;refine zI λW52 hW=>?_;obtain ⟨bks,hbs⟩:∃ b,w51.heap.size=b:=⟨_,rfl⟩;rw [hbs];obtain ⟨lws,las,lbs,fs,Bs,Bw,Ba,Bb,hw⟩:=qM3 hW hbs Bw Ba Bb hw;clear hW hbs;refine qC4 (cr _ (B4.ee hw) (H4.ee hw)) Bw Ba Bb Bs hw λw53 Bw Ba Bb Bs hw Rw=>?_;go_wp2_with fail;clear Rw;refine zG λW54 hW=>?_;obtain ⟨bkt,hbt⟩:∃ b,w53.heap.size=b:=⟨_,rfl⟩;rw [hbt];obtain ⟨lwt,lat,lbt,lst,ft,Bt,Bw,Ba,Bb,Bs,hw⟩:=qM4 hW hbt Bw Ba Bb Bs hw;clear hW hbt;have gw:=Bw.cells;have ga:=Ba.cells;have gb:=Bb.cells;have gs:=Bs.cells;have gt:=Bt.cells;refine zl 14 [⟨12,15,26,[(),()]⟩,⟨13,16,26,[(),()]⟩] ?_ (by kernel_rfl) (by decide) (by decide) (by kernel_rfl) (by decide) (C:=λw'=>∃ p:Regrown,w'=grow (redrawn W54 p.d) p.os) rgB ?_
        ·simp only [QM];refine ⟨⟨_,rfl,rfl,rfl,rfl,λρ W=>by simp [execOp,go_sem]⟩,⟨_,rfl,rfl,rfl,rfl,λρ W=>by simp [execOp,go_sem]⟩,λ_ h=>(by cases h)⟩
        simp only [Jk,QQ,Jc,Qy,dropIdx,QW,Qa,Nat.reduceBEq,Nat.reduceAdd,Qx,V4,V5,Jw,VS,VL];refine wkx ?_;intro w55 β hL;simp only [putD,Q7,QC];have qc:=hL.box ⟨12,15,26,[(),()]⟩ (by simp) (by simp);simp only at qc;have qd:=hL.box ⟨13,16,26,[(),()]⟩ (by simp) (by simp);simp only at qd;have ncd:=hL.apart 15 (by simp) 16 (by simp) (by decide);have ndc:=hL.apart 16 (by simp) 15 (by simp) (by decide);have hb:=hL.below;have lw:=Bw.lt;have la:=Ba.lt;have lb:=Bb.lt;have ls:=Bs.lt;have lt:=Bt.lt;clear gw ga gb gs gt;replace Bw:=Bw.ee hb;replace Ba:=Ba.ee hb;replace Bb:=Bb.ee hb;replace Bs:=Bs.ee hb;replace Bt:=Bt.ee hb;have hw0:=hw.size;replace hw:=upB hw hb;clear hb hL;generalize β 15=bkc at *
        generalize β 16=bkd at *
        clear β;obtain ⟨fc,Bc⟩:=qc;obtain ⟨fd,Bd⟩:=qd;simp only [Act.put];have Fc:=Bc.f;have Fd:=Bd.f;have Fw:=Bw.f;have Fa:=Ba.f;have Fb:=Bb.f;have Fs:=Bs.f;have Ft:=Bt.f;have ewbkc:(wr.heap.size=bkc)=False:=by simp;omega
        have ewbkc':(bkc=wr.heap.size)=False:=by simp;omega
        have ewbkd:(wr.heap.size=bkd)=False:=by simp;omega
        have ewbkd':(bkd=wr.heap.size)=False:=by simp;omega
        have eabkc:(w.heap.size=bkc)=False:=by simp;omega
        have eabkc':(bkc=w.heap.size)=False:=by simp;omega
        have eabkd:(w.heap.size=bkd)=False:=by simp;omega
        have eabkd':(bkd=w.heap.size)=False:=by simp;omega
        have ebbkc:(w.heap.size+1=bkc)=False:=by simp;omega
        have ebbkc':(bkc=w.heap.size+1)=False:=by simp;omega
        have ebbkd:(w.heap.size+1=bkd)=False:=by simp;omega
        have ebbkd':(bkd=w.heap.size+1)=False:=by simp;omega
        have esbkc:(bks=bkc)=False:=by simp;omega
        have esbkc':(bkc=bks)=False:=by simp;omega
        have esbkd:(bks=bkd)=False:=by simp;omega
        have esbkd':(bkd=bks)=False:=by simp;omega
        have etbkc:(bkt=bkc)=False:=by simp;omega
        have etbkc':(bkc=bkt)=False:=by simp;omega
        have etbkd:(bkt=bkd)=False:=by simp;omega
        have etbkd':(bkd=bkt)=False:=by simp;omega
        have ebkcbkd:(bkc=bkd)=False:=by simp;omega
        have ebkdbkc:(bkd=bkc)=False:=by simp;omega
        go_wp2_with fail;refine zI λW56 hW=>?_;replace Bw:=sto Bw hW;replace Ba:=sto Ba hW;replace Bb:=sto Bb hW;replace Bs:=sto Bs hW;replace Bt:=sto Bt hW;replace Bc:=sto Bc hW;replace Bd:=sto Bd hW;replace hw:=stw hw hW;clear Fc Fd;clear Fw Fa Fb Fs Ft ewbkc ewbkc' ewbkd ewbkd' eabkc eabkc' eabkd eabkd' ebbkc ebbkc' ebbkd ebbkd' esbkc esbkc' esbkd esbkd' etbkc etbkc' etbkd etbkd' ebkcbkd ebkdbkc;clear hW;refine (cf _ (B4.ee hw) (H4.ee hw)).mono ?_;rintro e w90 ⟨rfl,hh,H6⟩;have HX:=H4.ee hw;replace Bw:=Bw.turn HX hh;replace Ba:=Ba.turn HX hh;replace Bb:=Bb.turn HX hh;replace Bs:=Bs.turn HX hh;replace Bt:=Bt.turn HX hh;replace Bc:=Bc.turn HX hh;replace Bd:=Bd.turn HX hh;have own6:=(own4.ee hw).kept hh (.inr (λe=>yF (own4.ee hw) HX e.symm));have hg6:=zQ (zO hg4 hw) hh;clear hw hh HX own4 H4 B4 hg4 cf k1 k2;have hw:Below w90 w90 w90:=Below.refl _ _;have hle:Q.length<=1000000:=by have:=hl2.o;omega
        by_cases hr:r=0
        case neg=>
         have hr1:(r != 0)=true:=by simp;exact hr
         have HFN:=hdd (show forceR a b0 (capN - (k+1)) E2 (Q ++ [x])=forceR a b0 capN E L by rw [<-HF.o,HS.o,J1 hr]);have hbz:w.heap.size+2<=w90.heap.size:=by have:=Bb.lt;omega
         clear HF HS hr;have Fw:=Bw.f;have Fa:=Ba.f;have Fb:=Bb.f;have Fs:=Bs.f;have Ft:=Bt.f;have Fc:=Bc.f;have Fd:=Bd.f;go_wp2_with (at_builtin;refine jN rfl _ _ rfl (w.heap.size+2) _ Q rfl (own6.alloc _) w90.heap.size x rfl (Box.new rfl) hle (by simp;omega) ?_;intro w91 v91 own8 hg8 hn8)
         clear Fw Fa Fb Fs Ft Fc Fd;have hlt:=λq hq=>(((own6.ee hw).alloc (.cells (cW x).toArray 57)).lt q hq).1;have hla:Below w90 w90 (w90.alloc (.cells (cW x).toArray 57)):=by have hl:=hw.size;go_grown
         have H7:=(H6.ee hla).kept hg8 (yF ((own6.ee hw).alloc (.cells (cW x).toArray 57)) (H6.ee hla));have Ba7:=(Ba.old _).grown2 hg8 (λq hq=>by have:=hlt q hq;omega);have Bb7:=(Bb.old _).grown2 hg8 (λq hq=>by have:=hlt q hq;omega);have hg7:=uR (zO hg6 hla) hg8 (λq hq=>by have:=hlt q hq;omega);clear hlt hla hg8 hn8 H6 own6 hg6 Ba Bb hw
         go_roundw
         case rel=>exact ⟨k+1,E2,Q ++ [x],by go_num,by omega,own8,hdd (by have:=hl2.o;simp;omega),hdd (λy hy=>by rcases JG.1 hy with h | h;exact HKQ.o y h;rw [QX.1 h];exact HXK.o),H7,HGD,HFN,Ba7,Bb7,hg7⟩
         case measure=>simp [intOf];omega
        case pos=>
         subst hr;have cm:=uC a b0 C D;have Fw:=Bw.f;have Fa:=Ba.f;have Fb:=Bb.f;have Fs:=Bs.f;have Ft:=Bt.f;have Fc:=Bc.f;have Fd:=Bd.f;go_wp2_with fail;refine (cm _).mono ?_;rintro e w57 ⟨rfl,hb⟩;clear Fw Fa Fb Fs Ft Fc Fd;replace Bw:=Bw.ee hb;obtain ⟨Ba,Bb,Bs,Bt,Bc,Bd,hw,-⟩:=qX6 Ba Bb Bs Bt Bc Bd hw hb;clear hb;cases hm:decide (meetR a b0 C D=1)
         case false=>
          have hm1:(meetR a b0 C D == 1)=false:=by simpa using hm
          have HFN:=hdd (show forceR a b0 (capN - (k+1)) E2 Q=forceR a b0 capN E L by rw [<-HF.o,HS.o,Kl (by simp),Kl (by simpa using hm)]);clear HF HS hm;have Fw:=Bw.f;have Fa:=Ba.f;have Fb:=Bb.f;have Fs:=Bs.f;have Ft:=Bt.f;have Fc:=Bc.f;have Fd:=Bd.f;go_wp2
          go_roundw
          case rel=>exact ⟨k+1,E2,Q,by go_num,by omega,own6.ext (by have hl:=hw.size;go_grown) rfl,hdd (by have:=hl2.o;omega),HKQ,H6.ext (by have hl:=hw.size;go_grown) rfl,HGD,HFN,Ba.ext (Below.refl _ _) rfl,Bb.ext (Below.refl _ _) rfl,zO hg6 (by have hl:=hw.size;go_grown)⟩
          case measure=>simp [intOf];omega
         case true=>
          have hm1:(meetR a b0 C D == 1)=true:=by simpa using hm
          have HFN:=hdd (show forceR a b0 (capN - (k+1)) E2 (Q ++ [⟨rl C D,rg C D,0⟩])=forceR a b0 capN E L by rw [<-HF.o,HS.o,Kl (by simp),J1 (by simpa using hm)]);have HKN:=hdd (show okW (rl C D,rg C D) from by
           unfold rl rg;split
           ·exact ⟨yW HVC.o.1,yW HVC.o.2⟩
           ·exact ⟨yW HVC.o.2,yW HVC.o.1⟩)
          have k3:=jp C D;have k4:=jq C D;generalize rl C D=U at *
          generalize rg C D=V at *
          clear HF HS hm;have Fw:=Bw.f;have Fa:=Ba.f;have Fb:=Bb.f;have Fs:=Bs.f;have Ft:=Bt.f;have Fc:=Bc.f;have Fd:=Bd.f;go_wp2_with fail;have gw:=Bw.cells;have ga:=Ba.cells;have gb:=Bb.cells;have gs:=Bs.cells;have gt:=Bt.cells;have gc:=Bc.cells;have gd:=Bd.cells;have hcB:∀ w',(∃ p:Regrown,w'=grow (redrawn w57 p.d) p.os)->Below w57 w57 w':=λw' h=>by obtain ⟨p,rfl⟩:=h;exact below_regrown _ _ _
          refine FT.wp_region_flow 9 (.run 0 (.run 1 (.run 2 (.run 4 (.run 5 (.alt 3 (.alt 6 (.run 7 (.alt 8 .tail .stop)) .stop) .stop)))))) rfl (by kernel_rfl) (λ_ x _ _ _ h=>by cases x <;> exact h) (C:=λw'=>∃ p:Regrown,w'=grow (redrawn w57 p.d) p.os) rgB hcB ?_;have hC:∀ x y,Ext x y->(∃ p:Regrown,x=grow (redrawn w57 p.d) p.os)->(∃ p:Regrown,y=grow (redrawn w57 p.d) p.os):=λx y h1 h2=>regrown_of_below ((hcB x h2).trans (h1.mono (hcB x h2).size))
          iterate 5 (refine FT.flow_run rfl (λK hK=>?_);go_simp;first | (refine hK _ ?_;clear hK K) | (apply Exists.intro;refine ⟨λ_=>?_,hK _ ?_⟩;rotate_left;clear hK K))
          refine FT.flow_at hC rfl trivial (λw71 hw71 K hK=>?_);go_simp;refine (k3 w71).mono ?_;rintro e w72 ⟨rfl,hb2⟩;have hb3:=Below.trans hw71 (hb2.mono (Below.size hw71));go_simp;refine hK _ _ (regrown_of_below hb3) ?_;clear hK K;refine FT.flow_at hC rfl trivial (λw73 hw73 K hK=>?_);have hb4:=(upB hb3 hw73);go_simp;refine (k4 w73).mono ?_;rintro e w74 ⟨rfl,hb5⟩;have hb6:=(upB hb4 hb5);go_simp;refine hK _ _ (regrown_of_below hb6) ?_;clear hK K
          iterate 1 (refine FT.flow_run rfl (λK hK=>?_);go_simp;first | (refine hK _ ?_;clear hK K) | (apply Exists.intro;refine ⟨λ_=>?_,hK _ ?_⟩;rotate_left;clear hK K))
          refine FT.flow_at hC rfl trivial (λw75 hw75 K hK=>?_);have hb7:=(upB hb6 hw75);go_simp;have hb8:=hb7.alloc hb7.size (.cells #[U.x,U.y,V.x,V.y,()] 57);obtain ⟨bz,hbz0⟩:∃ bv,w75.heap.size=bv:=⟨_,rfl⟩;have Bz0:Box (w75.alloc (.cells #[U.x,U.y,V.x,V.y,()] 57)) bz [U.x,U.y,V.x,V.y,()] 57:=by rw [<-hbz0];exact Box.new rfl
          refine hK _ _ (regrown_of_below hb8) ?_;clear hK K;rw [hbz0];generalize hw8:w75.alloc (.cells #[U.x,U.y,V.x,V.y,()] 57)=w76 at *
          clear hw8 hbz0 hw75 hw73 hw71 hb2 hb3 hb4 hb5 hb6 hb7 hcB hC k3 k4;intro w77 hw77;have hb9:=(upB hb8 hw77);have Bz:=Bz0.ee hw77;simp only [dP1,dP0];clear Fw Fa Fb Fs Ft Fc Fd;replace Bw:=Bw.ee hb9;replace Ba:=Ba.ee hb9;replace Bb:=Bb.ee hb9;replace Bs:=Bs.ee hb9;replace Bt:=Bt.ee hb9;replace Bc:=Bc.ee hb9;replace Bd:=Bd.ee hb9;clear gw ga gb gs gt gc gd;replace hw:=upB hw hb9;clear hb9 hb8 hw77 Bz0;have own7:=own6.ee hw;have H7:=H6.ee hw;have hg7:=zO hg6 hw;have hbz:w.heap.size+2<=w77.heap.size:=by have:=Bb.lt;omega
          clear hw own6 H6 hg6;go_wp2_with (at_builtin;refine jN rfl _ _ rfl (w.heap.size+2) _ Q rfl own7 bz ⟨U,V,0⟩ rfl Bz hle hbz ?_;intro w91 v91 own8 hg8 hn8)
          have hlt:=λq hq=>(own7.lt q hq).1;have H8:=H7.kept hg8 (yF own7 H7);have Ba7:=Ba.grown2 hg8 (λq hq=>by have:=hlt q hq;omega);have Bb7:=Bb.grown2 hg8 (λq hq=>by have:=hlt q hq;omega);have hg9:=uR hg7 hg8 (λq hq=>by have:=hlt q hq;omega);clear hlt hg8 hn8 H7 own7 hg7 Ba Bb Bz
          go_roundw
          case rel=>exact ⟨k+1,E2,Q ++ [⟨U,V,0⟩],by go_num,by omega,own8,hdd (by have:=hl2.o;simp;omega),hdd (λy hy=>by rcases JG.1 hy with h | h;exact HKQ.o y h;rw [QX.1 h];exact HKN.o),H8,HGD,HFN,Ba7,Bb7,hg9⟩
          case measure=>simp [intOf];omega
  ·intro u x T R' w1 hperm HR1 hg1 hs1 hen;have hD2:=hdd (show ((D ++ [((u,x),T)]) ++ R').Perm E by have:=(hperm.append_left D).symm.trans hD.o;simpa using this);have hk:okW (u,x):=hok ((u,x),T) (hD2.o.mem_iff.1 (by simp));have So1:DocAt w1 (w.heap.size+1+1) v L:=⟨So.box.grown2 hg1 (λk hk=>by cases hk;omega),So.row.kept hg1 (.inr (λe=>zv So.row HR e.symm)),So.ne,So.le⟩;have Ba1:=Ba.grown2 hg1 (λk hk=>by cases hk;omega);have Bb1:=Bb.grown2 hg1 (λk hk=>by cases hk;omega);have hw1:=hw.grown hg1 hw.size (λk hk=>by cases hk;omega);have HL:=hdd (show w1.rangeLeft b (w.heap.size+1+1+1) < wr.rangeLeft b (w.heap.size+1+1+1) by rw [zT HR1,zT HR,hperm.length_eq];simp);have hen2:(Instr.entry (.pointer (some ⟨w+1+1+1,0,none⟩))).run prog w1=.ok (.tuple #[.agg #[u.x,u.y,x.x,x.y],T]) w1:=hen;have hle:L.length < 1000000:=by have:=hL.o.length_eq;have:=tW a b0 D;have:=hD2.o.length_eq;simp at *;omega
   have hgk:∀ X∈L,0<=X.K/\X.K<=2:=λX hX=>by have:=(qS (hL.o.mem_iff.1 hX)).1;omega
   clear So HR hg1 hs1 hen hperm hw Ba Bb;go_wp2_with fail;refine zI λW2 hW=>?_;have Be:Box W2 w1 [u.x,u.y,x.x,x.y] 95:=by rw [hW];exact Box.new rfl
   have hw2:Below w1 w1 W2:=by rw [hW];go_grown
   clear hW;have So2:=So1.ee hw2;have HR2:=HR1.ee hw2;have Ba2:=Ba1.ee hw2;have Bb2:=Bb1.ee hw2;have hwx:=(upB hw1 hw2);have HL2:=hdd (show W2.rangeLeft b (w.heap.size+1+1+1) < wr.rangeLeft b (w.heap.size+1+1+1) by rw [zT HR2,<-zT HR1];exact HL.o);clear So1 HR1 hw1 hw2 HL Ba1 Bb1;refine (zU u x _).mono ?_;rintro e w3 ⟨rfl,hb⟩;replace Be:=Be.ee hb;have Ba3:=Ba2.ee hb;have Bb3:=Bb2.ee hb;replace So2:=So2.ee hb;have HR3:=HR2.ee hb;replace hwx:=upB hwx hb;have HL3:=hdd (show w3.rangeLeft b (w.heap.size+1+1+1) < wr.rangeLeft b (w.heap.size+1+1+1) by rw [zT HR3,<-zT HR2];exact HL2.o);have HF:=hdd (λ(h1:decide (cmpP u x < 0)=false)=>show L.Perm (crossD a b0 (D ++ [((u,x),T)])) by
    rw [qT,jj,h1,Bool.false_and,Kl (by decide),Jf];exact hL.o)
   have HG2:=hdd (λ(h1:decide (meetR a b0 u x=1)=false)=>show L.Perm (crossD a b0 (D ++ [((u,x),T)])) by
    rw [qT,jj,h1,Bool.and_false,Kl (by decide),Jf];exact hL.o)
   have HH:=hdd (λ(h1:decide (cmpP u x < 0)=true) (h2:decide (meetR a b0 u x=1)=true)=>show ∀ k,(L.take k ++ (⟨u,x,0⟩:Wl) :: L.drop k).Perm (crossD a b0 (D ++ [((u,x),T)])) from λk=>by
    rw [qT,jj,h1,h2,Qj,J1 rfl];exact (xT k).trans ((hL.o.cons _).trans (Jl (l₁:=[(⟨u,x,0⟩:Wl)]))))
   clear hb HR2 HL2 hL Ba2 Bb2;have cm:=λw0=>uC a b0 u x w0;have Fe:=Be.f;have Fa:=Ba3.f;have Fb:=Bb3.f;cases h1:decide (cmpP u x < 0) with
   | false=>
    have HQ:=hdd (HF.o h1);clear HF HG2 HH;go_wp2
    go_roundw
    case rel=>exact ⟨D ++ [((u,x),T)],R',v,L,hD2,HQ,So2,hB,HR3,Ba3,Bb3,hwx⟩
    case measure=>exact HL3.o
   | true=>
    have HH:=hdd (HH.o h1);clear HF;go_wp2_with fail;refine (cm _).mono ?_;rintro e w4 ⟨rfl,hb⟩;clear Fe Fa Fb;replace Be:=Be.ee hb;have Ba4:=Ba3.ee hb;have Bb4:=Bb3.ee hb;have So4:=So2.ee hb;have HR4:=HR3.ee hb;have hw4:=(upB hwx hb);have HL4:=hdd (show w4.rangeLeft b (w.heap.size+1+1+1) < wr.rangeLeft b (w.heap.size+1+1+1) by rw [zT HR4,<-zT HR3];exact HL3.o);clear hb So2 HR3 hwx HL3 Ba3 Bb3 cm;have Fe:=Be.f;cases h2:decide (meetR a b0 u x=1) with
    | false=>
     have HQ:=hdd (HG2.o h2);have hm:(meetR a b0 u x == 1)=false:=by simpa using h2
     clear HG2 HH;go_wp2
     go_roundw
     case rel=>exact ⟨D ++ [((u,x),T)],R',v,L,hD2,HQ,So4,hB,HR4,Ba4,Bb4,hw4⟩
     case measure=>exact HL4.o
    | true=>
     have HQ:=hdd (HH.o h2);have hm:(meetR a b0 u x == 1)=true:=by simpa using h2
     have hwz:=hw4.size;have hwy:=hdd (show w.heap.size+3<=w4.heap.size by have:=Bb4.lt;have:=So4.box.lt;omega);clear HG2 HH h2;have cp:=xq (w.heap.size+1+1) v L ⟨u,x,0⟩ hle hgk ⟨by show (0:Int)<=0;decide,by show (0:Int)<=2;decide⟩ w4 So4;go_wp2_with fail;refine cp.mono ?_;rintro e w5 ⟨k,v',rfl,hk5,So5,hf5,hv5⟩;have hg5:=hf5.grown;have HR5:=HR4.kept hg5 (λe=>So4.box.ne_map HR4.holds (JL e).symm) (by simp);have Ba5:=Ba4.grown2 hg5 (λk hk=>by cases hk;omega);have Bb5:=Bb4.grown2 hg5 (λk hk=>by cases hk;omega);have hw5:=hf5.below (n:=w.heap.size) (λk hk=>by have hk:k=w.heap.size+1+1:=hk;omega) hw4.size;have HL5:=hdd (show w5.rangeLeft b (w.heap.size+1+1+1) < wr.rangeLeft b (w.heap.size+1+1+1) by rw [zT HR5,<-zT HR4];exact HL4.o);have HP:=hdd (HQ.o k);have hB5:=hdd (show ∀ k,v'.ownBlock=some k->w.heap.size+3<=k from λk hk=>by
      have:=hv5 k hk;have:=hwy.o;omega)
     clear Fe cp HQ hf5 hg5 hwz;go_wp2
     go_roundw
     case rel=>exact ⟨D ++ [((u,x),T)],R',v',_,hD2,HP,So5,hB5,HR5,Ba5,Bb5,hw4.trans hw5⟩
     case measure=>exact HL5.o
end
theorem ZL (p a b:Pt):tch p a b=0\/tch p a b=2:=by unfold tch;(repeat' split) <;> simp
theorem mx4_two {a b c d:Int} (ha:a=0\/a=2) (hb:b=0\/b=2) (hc:c=0\/c=2) (hd:d=0\/d=2):mx4 a b c d≠1:=by
 rcases ha with rfl | rfl <;> rcases hb with rfl | rfl <;> rcases hc with rfl | rfl <;> rcases hd with rfl | rfl <;> decide
theorem kM {a b c d:Pt}:meetR a b c d=1↔(vld a=true/\vld b=true/\vld c=true/\vld d=true)/\((0 < det a b c/\det a b d < 0)\/(det a b c < 0/\0 < det a b d))/\((0 < det c d a/\det c d b < 0)\/(det c d a < 0/\0 < det c d b)):=by
 unfold meetR;cases va:vld a with
 | false=>simp
 | true=>
  cases vb:vld b with
  | false=>simp
  | true=>
   cases vc:vld c with
   | false=>simp
   | true=>
    cases vd:vld d with
    | false=>simp
    | true=>
     have zab:peqI a.x a.y b.x b.y=true->∀ p,det a b p=0:=λh p=>by
      rw [yw.1 h];unfold det;grind
     have zcd:peqI c.x c.y d.x d.y=true->∀ p,det c d p=0:=λh p=>by
      rw [yw.1 h];unfold det;grind
     rw [ori_v va vb vc,ori_v va vb vd,ori_v vc vd va,ori_v vc vd vb];have l1:lap a b c d≠1:=by unfold lap;split <;> decide
     have l2:=mx4_two (ZL a c d) (ZL b c d) (ZL c a b) (ZL d a b);have s1:=zL (det a b c);have s2:=zL (det a b d);have s3:=zL (det c d a);have s4:=zL (det c d b);simp only [Bool.true_eq_false,VL,and_self,true_and];split
     ·rename_i h;have:=zab h c;have:=zab h d;simp;omega
     ·split
      ·rename_i h;have:=zcd h a;have:=zcd h b;simp;omega
      ·split
       ·rename_i h;simp only [l1,false_iff];omega
       ·split
        ·rename_i h
         simp only [true_iff];rcases s1 with ⟨e1,_⟩ | ⟨e1,_⟩ | ⟨e1,_⟩ <;> rcases s2 with ⟨e2,_⟩ | ⟨e2,_⟩ | ⟨e2,_⟩ <;> rcases s3 with ⟨e3,_⟩ | ⟨e3,_⟩ | ⟨e3,_⟩ <;> rcases s4 with ⟨e4,_⟩ | ⟨e4,_⟩ | ⟨e4,_⟩ <;> rw [e1,e2,e3,e4] at h <;> first | omega | (simp at h)
        ·rename_i h
         simp only [l2,false_iff];rintro ⟨k1,k2⟩;apply h;rcases s1 with ⟨e1,_⟩ | ⟨e1,_⟩ | ⟨e1,_⟩ <;> rcases s2 with ⟨e2,_⟩ | ⟨e2,_⟩ | ⟨e2,_⟩ <;> rcases s3 with ⟨e3,_⟩ | ⟨e3,_⟩ | ⟨e3,_⟩ <;> rcases s4 with ⟨e4,_⟩ | ⟨e4,_⟩ | ⟨e4,_⟩ <;> rw [e1,e2,e3,e4] <;> first | omega | (simp)
theorem kE {a b c d:Pt} (h:meetR a b c d=1):meetR a b d c=1:=by
 rw [kM] at *;obtain ⟨⟨v1,v2,v3,v4⟩,h1,h2⟩:=h;have e1:=zV c d a;have e2:=zV c d b;exact ⟨⟨v1,v2,v4,v3⟩,by omega,by omega⟩
theorem ZU (p q:Pt):(rl p q=p/\rg p q=q)\/(rl p q=q/\rg p q=p):=by
 unfold rl rg;split
 ·exact .inl ⟨rfl,rfl⟩
 ·exact .inr ⟨rfl,rfl⟩
theorem Yr {a b c d:Pt} (h:meetR a b c d=1):meetR a b (rl c d) (rg c d)=1:=by
 rcases ZU c d with ⟨e1,e2⟩ | ⟨e1,e2⟩
 ·rw [e1,e2];exact h
 ·rw [e1,e2];exact kE h
theorem Zs {E:Es} {L:List Tri3} (g:Good E L) (p q:Pt):∃ L',Good (flipD E p q).2 L'/\L'.length=L.length:=by
 cases h0:getE E (p,q) with
 | none=>rw [yn (.inl h0)];exact ⟨L,g,rfl⟩
 | some S=>
  cases h1:getE E (q,p) with
  | none=>rw [yn (.inr h1)];exact ⟨L,g,rfl⟩
  | some R=>
   rw [xL h0 h1];split
   ·rename_i k
    obtain ⟨_,M,pM,g'⟩:=xc g h0 h1 rfl rfl k.1 k.2.1 k.2.2.1 k.2.2.2;exact ⟨_,g',by rw [pM.length_eq];rfl⟩
   ·exact ⟨L,g,rfl⟩
theorem fstep_len2 {E:Es} {L:List Tri3} (g:Good E L) (a b:Pt) (x:Wl) (Q:List Wl):∃ L',Good (fstep a b E x Q).1 L'/\L'.length=L.length:=by
 cases h0:getE E (x.A,x.B) with
 | none=>rw [xf (.inl h0)];exact ⟨L,g,rfl⟩
 | some S=>
  cases h1:getE E (x.B,x.A) with
  | none=>rw [xf (.inr h1)];exact ⟨L,g,rfl⟩
  | some R=>
   rw [kJ h0 h1];split
   ·exact Zs g _ _
   ·split <;> exact Zs g _ _
theorem tN {a b:Pt}:∀ (n:Nat) {E:Es} {L:List Tri3} {Q:List Wl},Good E L->∃ L',Good (forceR a b n E Q).1 L'/\L'.length=L.length
 | 0,_,L,_,g=>⟨L,g,rfl⟩
 | _+1,_,L,[],g=>⟨L,g,rfl⟩
 | n+1,E,L,x :: Q,g=>by
  obtain ⟨L1,g1,h1⟩:=fstep_len2 g a b x Q;obtain ⟨L2,g2,h2⟩:=tN n (Q:=(fstep a b E x Q).2) g1;exact ⟨L2,g2,h2.trans h1⟩
theorem flipD_keep {W H:Int} {E:Es} {L:List Tri3} (hW:W < 16777216) (hH:H < 16777216) (g:Good E L) (t:Tiles W H L) {K:Pt->Pt->Prop} {p q:Pt} (hK:¬ K p q/\¬ K q p):((flipD E p q).1≠0->(flipD E p q).2=E)/\∃ L',Good (flipD E p q).2 L'/\Tiles W H L'/\Kept K L L':=by
 cases h0:getE E (p,q) with
 | none=>rw [yn (.inl h0)];exact ⟨λ_=>rfl,L,g,t,Kept.refl _ _⟩
 | some S=>
  cases h1:getE E (q,p) with
  | none=>rw [yn (.inr h1)];exact ⟨λ_=>rfl,L,g,t,Kept.refl _ _⟩
  | some R=>
   rw [xL h0 h1];split
   ·rename_i k
    refine ⟨λh=>absurd rfl h,?_⟩;obtain ⟨_,⟨cS,cR⟩,_,vp,vq,vc,vd⟩:=qQ g h0 h1;obtain ⟨_,M,pM,g'⟩:=xc g h0 h1 rfl rfl k.1 k.2.1 k.2.2.1 k.2.2.2;have f:Flp K L S R M p q (apx S p q) (apx R p q):=⟨pM,cS,cR,hK,by have:=(qJ vp vd vc).1 k.1;rw [zW] at this;exact (by have e:=zW (apx S p q) p (apx R p q);omega),(qJ vd vq vc).1 k.2.1⟩;have e:mk p (apx R p q) (apx S p q)=mk (apx S p q) p (apx R p q):=Z3 _ _ _;rw [e] at g' ⊢;exact ⟨_,g',f.tiles t hW hH,f.kept t hW hH⟩
   ·exact ⟨λ_=>rfl,L,g,t,Kept.refl _ _⟩
theorem yq {W H:Int} (hW:W < 16777216) (hH:H < 16777216) {a b:Pt}:∀ (n:Nat) {E:Es} {L:List Tri3} {Q:List Wl},Good E L->Tiles W H L->(∀ x∈Q,meetR a b x.A x.B=1)->∃ L',Good (forceR a b n E Q).1 L'/\Tiles W H L'/\Kept (λx y=>meetR a b x y≠1) L L'
 | 0,E,L,Q,g,t,_=>⟨L,g,t,Kept.refl _ _⟩
 | n+1,E,L,[],g,t,_=>⟨L,g,t,Kept.refl _ _⟩
 | n+1,E,L,x :: Q,g,t,hq=>by
  show ∃ L',Good (forceR a b n (fstep a b E x Q).1 (fstep a b E x Q).2).1 L'/\_;have hx:=hq x (by simp);have hQ:∀ y∈Q,meetR a b y.A y.B=1:=λy hy=>hq y (JK _ hy);cases h0:getE E (x.A,x.B) with
  | none=>rw [xf (.inl h0)];exact yq hW hH n g t hQ
  | some S=>
   cases h1:getE E (x.B,x.A) with
   | none=>rw [xf (.inr h1)];exact yq hW hH n g t hQ
   | some R=>
    obtain ⟨_,L1,g1,t1,k1⟩:=flipD_keep (K:=λx y=>meetR a b x y≠1) hW hH g t (p:=x.A) (q:=x.B) ⟨λk=>k hx,λk=>k (kE hx)⟩;rw [kJ h0 h1];split
    ·obtain ⟨L2, g2, t2, k2⟩ := yq hW hH n g1 t1 (Q := Q ++ [x]) (λy hy => by
       rcases JG.1 hy with hy | hy
       ·exact hQ y hy
       ·rw [QX.1 hy];exact hx)
     exact ⟨L2,g2,t2,k1.trans k2⟩
    ·split
     ·rename_i hm
      obtain ⟨L2,g2,t2,k2⟩:=yq hW hH n g1 t1 (Q:=Q ++ [⟨rl (apx S x.A x.B) (apx R x.A x.B),rg (apx S x.A x.B) (apx R x.A x.B),0⟩]) (λy hy=>by
       rcases JG.1 hy with hy | hy
       ·exact hQ y hy
       ·rw [QX.1 hy];exact Yr hm)
      exact ⟨L2,g2,t2,k1.trans k2⟩
     ·obtain ⟨L2,g2,t2,k2⟩:=yq hW hH n g1 t1 (Q:=Q) hQ;exact ⟨L2,g2,t2,k1.trans k2⟩
structure Crs (a b l r:Pt):Prop where
 left:0 < det a b l
 right:det a b r < 0
 back:0 < det r l a
 front:0 < det l r b
theorem Crs.turn {a b l r:Pt} (h:Crs a b l r):Crs b a r l:=by
 refine ⟨?_,?_,h.front,h.back⟩
 ·have:=h.right;have:=zV a b r;omega
 ·have:=h.left;have:=zV a b l;omega
theorem Crs.wide {a b l r:Pt} (h:Crs a b l r):det r l a+det l r b=det a b l - det a b r/\0 < det a b l - det a b r:=by
 have:=h.left;have:=h.right;exact ⟨by unfold det;grind,by omega⟩
def ahd (a b:Pt) (e f:Pt×Pt):Prop:=det e.2 e.1 a * (det a b f.1 - det a b f.2) < det f.2 f.1 a * (det a b e.1 - det a b e.2)
theorem uo {a b:Pt} {e f g:Pt×Pt} (he:Crs a b e.1 e.2) (hf:Crs a b f.1 f.2) (hg:Crs a b g.1 g.2) (h1:ahd a b e f) (h2:ahd a b f g):ahd a b e g:=by
 unfold ahd at *;have w1:=he.wide.2;have w2:=hf.wide.2;have w3:=hg.wide.2;generalize det a b e.1 - det a b e.2=x at *
 generalize det a b f.1 - det a b f.2=y at *
 generalize det a b g.1 - det a b g.2=z at *
 generalize det e.2 e.1 a=p at *
 generalize det f.2 f.1 a=q at *
 generalize det g.2 g.1 a=r at *
 have k1:=Int.mul_lt_mul_of_pos_right h1 w3;have k2:=Int.mul_lt_mul_of_pos_right h2 w1;have k3:(p * z) * y < (r * x) * y:=by
  have e1:p * y * z=(p * z) * y:=by grind
  have e2:q * x * z=q * z * x:=by grind
  have e3:r * y * x=(r * x) * y:=by grind
  omega
 exact Int.lt_of_mul_lt_mul_right k3 (by omega)
theorem YH {a b:Pt} (e:Pt×Pt):¬ ahd a b e e:=by unfold ahd;omega
section
variable {W H:Int} {L:List Tri3} (h:Tiles W H L)
include h
def Bare (L:List Tri3) (a b:Pt):Prop:=∀ p,someC L p->det a b p=0->((a.x<=p.x/\p.x<=b.x)\/(b.x<=p.x/\p.x<=a.x))->((a.y<=p.y/\p.y<=b.y)\/(b.y<=p.y/\p.y<=a.y))->p=a\/p=b
omit h in
theorem Bare.turn {L:List Tri3} {a b:Pt} (hb:Bare L a b):Bare L b a:=λp hc hz hx hy=>(hb p hc (by have:=zV a b p;omega) (by omega) (by omega)).symm
theorem Tiles.step {a b l r v:Pt} (hB:Bare L a b) (hb:someC L b) {T:Tri3} (hT:T∈L) (hc:Cyc T l r v) (hx:Crs a b l r):v=b\/(0 < det a b v/\Crs a b v r/\ahd a b (l,r) (v,r))\/(det a b v < 0/\Crs a b l v/\ahd a b (l,r) (l,v)):=by
 have t0:=h.cyc_pos hT hc;obtain ⟨hl,hr,hbk,hfr⟩:=hx;have bT:isCnr T b->b=l\/b=r\/b=v:=λk=>(hc.cnr_iff b).1 k;have bz:det a b b=0:=by unfold det;grind
 have nl:b≠l:=λe=>by rw [<-e] at hl;omega
 have nr:b≠r:=λe=>by rw [<-e] at hr;omega
 obtain ⟨S,hS,hbS⟩:=hb;have inT:0<=det r v b->0<=det v l b->b=v:=λk1 k2=>by
  have hh:hasT T b:=by
   rcases hc with ⟨rfl,rfl,rfl⟩ | ⟨rfl,rfl,rfl⟩ | ⟨rfl,rfl,rfl⟩
   ·exact ⟨by omega,k1,k2⟩
   ·exact ⟨k2,by omega,k1⟩
   ·exact ⟨k1,k2,by omega⟩
  rcases bT (h.cnr_all hS hT hbS hh) with k | k | k
  ·exact absurd k nl
  ·exact absurd k nr
  ·exact k
 rcases Qw (det a b v) 0 with hv | hv | hv
 ·by_cases kb:b=v
  ·exact .inl kb.symm
  refine .inr (.inr ⟨hv,⟨hl,hv,?_,?_⟩,?_⟩)
  ·have e:(det a b l - det a b r) * det v l a=(det a b l - det a b v) * det r l a+det a b l * det l r v:=by unfold det;grind
   have p1:0 < det a b l - det a b r:=by omega
   refine (zX p1).1 ?_;rw [e];exact Vz (JI (by omega) hbk) (JI hl t0)
  ·refine JJ λk=>kb (inT ?_ ?_)
   ·have e:det a b l * det r v b=(- det a b v) * det l r b+(- det a b r) * (- det l v b):=by unfold det;grind
    have p:0<=det a b l * det r v b:=by
     rw [e];exact UF (Kr (by omega) (by omega)) (Kr (by omega) (by omega))
    exact (zd hl).1 p
   ·have:=zV v l b;omega
  ·unfold ahd;have e:det v l a * (det a b l - det a b r)=det r l a * (det a b l - det a b v)+det a b l * det l r v:=by unfold det;grind
   have:=JI hl t0;simp only;omega
 ·-- on the line
  refine .inl ?_;have w0:det r l a+det l r b=det a b l - det a b r:=by unfold det;grind
  have ex:(det a b l - det a b r) * (v.x - a.x)=(det l r v+det r l a) * (b.x - a.x):=by
   have e:(det a b l - det a b r) * (v.x - a.x) - (det l r v+det r l a) * (b.x - a.x)=(l.x - r.x) * det a b v:=by unfold det;grind
   rw [hv,Jd] at e;omega
  have ey:(det a b l - det a b r) * (v.y - a.y)=(det l r v+det r l a) * (b.y - a.y):=by
   have e:(det a b l - det a b r) * (v.y - a.y) - (det l r v+det r l a) * (b.y - a.y)=(l.y - r.y) * det a b v:=by unfold det;grind
   rw [hv,Jd] at e;omega
  have p1:0 < det a b l - det a b r:=by omega
  by_cases k:det l r v<=det l r b
  ·have btw : ∀ x y : Int, (det a b l - det a b r) * x = (det l r v + det r l a) * y -> (0 <= y /\ 0 <= x /\ x <= y) \/ (y <= 0 /\ y <= x /\ x <= 0) := by
     intro x y exy;have s0:0<=det l r v+det r l a:=by omega
     have s1:det l r v+det r l a<=det a b l - det a b r:=by omega
     generalize det a b l - det a b r=w at *
     generalize det l r v+det r l a=s at *
     rcases VN 0 y with hy | hy
     ·refine .inl ⟨hy,?_⟩;have q1:0<=w * x:=by rw [exy];exact Kr s0 hy
      have q2:w * x<=w * y:=by rw [exy];exact Jq s1 hy
      exact ⟨(zd p1).1 q1,QE q2 p1⟩
     ·refine .inr ⟨hy,?_⟩;have q1:0<=w * (-x):=by rw [Qd,exy,<-Qd];exact Kr s0 (by omega)
      have q2:w * (-x)<=w * (-y):=by rw [Qd,exy,<-Qd];exact Jq s1 (by omega)
      have:=(zd p1).1 q1;have:=QE q2 p1;omega
   have b1:=btw _ _ ex;have b2:=btw _ _ ey;have cv:someC L v:=⟨T,hT,hc.turn.turn.cnr⟩;rcases hB v cv hv (by omega) (by omega) with rfl | rfl
   ·have:det l r v = - det r l v:=zV r l v;omega
   ·rfl
  ·exfalso
   have k2 : b = v := inT (by
       have e:(det a b l - det a b r) * det r v b=(det l r b - det l r v) * det a b r+(det a b v) * det r l b:=by unfold det;grind
       have p:0 < (det a b l - det a b r) * det r v b:=by
        rw [e,hv,Jh,Qz];exact Qm (by omega) hr
       have:=(zX p1).1 p;omega) (by
       have e:(det a b l - det a b r) * det v l b=(det l r v - det l r b) * det a b l+(det a b v) * det l r b:=by unfold det;grind
       have p:0 < (det a b l - det a b r) * det v l b:=by
        rw [e,hv,Jh,Qz];exact JI (by omega) hl
       have:=(zX p1).1 p;omega)
   rw [<-k2] at k;omega
 ·by_cases kb:b=v
  ·exact .inl kb.symm
  refine .inr (.inl ⟨hv,⟨hv,hr,?_,?_⟩,?_⟩)
  ·have e:(det a b l - det a b r) * det r v a=(det a b v - det a b r) * det r l a+(- det a b r) * det l r v:=by unfold det;grind
   have p1:0 < det a b l - det a b r:=by omega
   refine (zX p1).1 ?_;rw [e];exact Vz (JI (by omega) hbk) (JI (by omega) t0)
  ·refine JJ λk=>kb (inT ?_ ?_)
   ·have:=zV v r b;omega
   ·have e:(- det a b r) * det v l b=det a b v * det l r b+det a b l * (- det v r b):=by unfold det;grind
    have p:0<=(- det a b r) * det v l b:=by
     rw [e];exact UF (Kr (by omega) (by omega)) (Kr (by omega) (by omega))
    exact (zd (by omega)).1 p
  ·unfold ahd;have e:det r v a * (det a b l - det a b r)=det r l a * (det a b v - det a b r)+(- det a b r) * det l r v:=by unfold det;grind
   have:=JI (show 0 < - det a b r by omega) t0;simp only;omega
end
theorem Cyc.same {T:Tri3} {a b c b' c':Pt} (h:Cyc T a b c) (k:Cyc T a b' c') (hp:0 < Go.Proofs.YtmpfadapbbjbkaaGreat.det a b c):b'=b/\c'=c:=by
 obtain ⟨n1,n2,n3⟩:=zP hp;rcases h with ⟨rfl,rfl,rfl⟩ | ⟨rfl,rfl,rfl⟩ | ⟨rfl,rfl,rfl⟩ <;> rcases k with ⟨k1,rfl,rfl⟩ | ⟨k1,rfl,rfl⟩ | ⟨k1,rfl,rfl⟩ <;> first | exact ⟨rfl,rfl⟩ | exact absurd k1 n1 | exact absurd k1 n3 | exact absurd k1.symm n1 | exact absurd k1.symm n3 | exact absurd k1 n2 | exact absurd k1.symm n2
theorem Cyc.same2 {T:Tri3} {a b c c':Pt} (h:Cyc T a b c) (k:Cyc T a b c') (hp:0 < Go.Proofs.YtmpfadapbbjbkaaGreat.det a b c):c'=c:=(h.same k hp).2
def Nx (L:List Tri3) (e f:Pt×Pt):Prop:=∃ T∈L,∃ v,Cyc T e.1 e.2 v/\(f=(v,e.2)\/f=(e.1,v))
def bef (L:List Tri3) (a:Pt):Option (Pt×Pt)->Pt×Pt->Prop
 | none,e=>∃ T∈L,Cyc T e.2 e.1 a
 | some p,e=>Nx L p e
def Ch (L:List Tri3) (a b:Pt):Option (Pt×Pt)->List (Pt×Pt)->Prop
 | none,[]=>(a,b)∈L.flatMap ways\/(b,a)∈L.flatMap ways
 | some e,[]=>∃ T∈L,Cyc T e.1 e.2 b
 | p,e :: P=>bef L a p e/\Ch L a b (some e) P
theorem uh {α:Type} {p q:α->Bool}:∀ {l:List α},(∀ x∈l,q x=true->p x=true)->(∃ x∈l,p x=true/\q x=false)->l.countP q < l.countP p
 | [],_,⟨_,h,_⟩=>by cases h
 | y :: l,h,⟨x,hx,hp,hq⟩=>by
  have le:l.countP q<=l.countP p:=List.countP_mono_left (λz hz=>h z (JK _ hz));rw [List.countP_cons,List.countP_cons];rcases Km.1 hx with rfl | hx
  ·rw [hp,hq];simp;omega
  ·have ih:=uh (λz hz=>h z (JK _ hz)) ⟨x,hx,hp,hq⟩;have:=h y (by simp);cases hq':q y <;> cases hp':p y <;> simp_all <;> omega
section
variable {W H:Int} {L:List Tri3} (h:Tiles W H L)
include h
theorem Tiles.other {a b l r:Pt} (ba:inBox W H a) (bb:inBox W H b) (hx:Crs a b l r):(l,r)∈L.flatMap ways↔(r,l)∈L.flatMap ways:=by
 constructor
 ·intro hm;rcases h.rim _ hm with k | k
  ·exact k
  ·exfalso
   obtain ⟨T,hT,hw⟩:=JH.1 hm;obtain ⟨v,hc⟩:=yZ hw;have k2:0<=det l r a:=uE k (h.cyc_pos hT hc) (h.cyc_box hT hc.turn.turn) ba;have:=hx.back;have:=zV r l a;omega
 ·intro hm;rcases h.rim _ hm with k | k
  ·exact k
  ·exfalso
   obtain ⟨T,hT,hw⟩:=JH.1 hm;obtain ⟨v,hc⟩:=yZ hw;have k2:0<=det r l b:=uE k (h.cyc_pos hT hc) (h.cyc_box hT hc.turn.turn) bb;have:=hx.front;have:=zV l r b;omega
open Classical in
theorem Tiles.run {a b:Pt} (ba:inBox W H a) (bb:inBox W H b) (hB:Bare L a b) (hb:someC L b):∀ (n:Nat) (e:Pt×Pt),Crs a b e.1 e.2->e∈L.flatMap ways->(L.flatMap ways).countP (λf=>decide (Crs a b f.1 f.2/\ahd a b e f))<=n->∃ P,Ch L a b (some e) P/\(∀ f∈P,Crs a b f.1 f.2/\ahd a b e f)/\P.Nodup:=by
 intro n;induction n with
 | zero=>
  intro e hx hm hn;obtain ⟨T,hT,hw⟩:=JH.1 hm;obtain ⟨v,hc⟩:=yZ hw;have none:∀ f:Pt×Pt,f∈L.flatMap ways->Crs a b f.1 f.2->ahd a b e f->False:=λf h1 h2 h3=>by
   have:=List.countP_eq_zero.1 (Nat.le_zero.1 hn) f h1;simp [h2,h3] at this
  rcases h.step hB hb hT hc hx with rfl | ⟨_,h2,h3⟩ | ⟨_,h2,h3⟩
  ·exact ⟨[],⟨T,hT,hc⟩,by simp,by simp⟩
  ·exact absurd h3 (none _ ((h.other ba bb h2).2 (y6 hT hc.turn.way)) h2)
  ·exact absurd h3 (none _ ((h.other ba bb h2).2 (y6 hT hc.turn.turn.way)) h2)
 | succ n ih=>
  intro e hx hm hn;obtain ⟨T,hT,hw⟩:=JH.1 hm;obtain ⟨v,hc⟩:=yZ hw;have go:∀ f:Pt×Pt,(f.2,f.1)∈L.flatMap ways->Crs a b f.1 f.2->ahd a b e f->Nx L e f->∃ P,Ch L a b (some e) P/\(∀ f∈P,Crs a b f.1 f.2/\ahd a b e f)/\P.Nodup:=λf h1 h2 h3 h4=>by
   have hm2:=(h.other ba bb h2).2 h1;obtain ⟨P,c,o,d⟩:=ih f h2 hm2 (by
    have:=uh (l:=L.flatMap ways) (q:=λg=>decide (Crs a b g.1 g.2/\ahd a b f g)) (p:=λg=>decide (Crs a b g.1 g.2/\ahd a b e g)) (λg _ hg=>by
     simp only [Kn] at hg ⊢;exact ⟨hg.1,uo hx h2 hg.1 h3 hg.2⟩) ⟨f,hm2,by simp only [Kn];exact ⟨h2,h3⟩,by simp only [QB];exact λk=>YH f k.2⟩
    omega)
   refine ⟨f :: P,⟨h4,c⟩,λg hg=>?_,JX.2 ⟨λhg=>YH f (o f hg).2,d⟩⟩;rcases Km.1 hg with rfl | hg
   ·exact ⟨h2,h3⟩
   ·exact ⟨(o g hg).1,uo hx h2 (o g hg).1 h3 (o g hg).2⟩
  rcases h.step hB hb hT hc hx with rfl | ⟨_,h2,h3⟩ | ⟨_,h2,h3⟩
  ·exact ⟨[],⟨T,hT,hc⟩,by simp,by simp⟩
  ·exact go (v,e.2) (y6 hT hc.turn.way) h2 h3 ⟨T,hT,v,hc,.inl rfl⟩
  ·exact go (e.1,v) (y6 hT hc.turn.turn.way) h2 h3 ⟨T,hT,v,hc,.inr rfl⟩
theorem Tiles.cone_one {a b r l x y:Pt} {T T0:Tri3} (hT:T∈L) (h0:T0∈L) (c:Cyc T a r l) (c0:Cyc T0 a x y) (p1:0 < det a r b) (p2:0 < det l a b) (q1:0<=det a x b) (q2:0<=det y a b):T=T0:=by
 have t1:=h.cyc_pos hT c;have t0:=h.cyc_pos h0 c0;obtain ⟨u,eu⟩:∃ u:Pt,u=⟨x.x+y.x - 2 * a.x,x.y+y.y - 2 * a.y⟩:=⟨_,rfl⟩;have eux:u.x=x.x+y.x - 2 * a.x:=by rw [eu]
 have euy:u.y=x.y+y.y - 2 * a.y:=by rw [eu]
 obtain ⟨s,es⟩:∃ s:Int,s=1+(crd a r u).natAbs+(crd l a u).natAbs:=⟨_,rfl⟩;have s0:0 < s:=by omega
 obtain ⟨v,ev⟩:∃ v:Pt,v=⟨s * (b.x - a.x)+u.x,s * (b.y - a.y)+u.y⟩:=⟨_,rfl⟩;have evx:v.x=s * (b.x - a.x)+u.x:=by rw [ev]
 have evy:v.y=s * (b.y - a.y)+u.y:=by rw [ev]
 have zz:∀ m n:Pt,det (sc 1 m) (sc 1 n) a=det m n a:=λm n=>by rw [jo,jo]
 have z1:∀ m:Pt,det a m a=0:=λm=>by unfold det;grind
 have z2:∀ m:Pt,det m a a=0:=λm=>by unfold det;grind
 refine h.same hT h0 (M:=1) (by omega) (p:=a) (v:=v) (c.near ?_) (c0.near ?_)
 ·unfold near3;rw [zz,zz,zz,z1,z2];refine ⟨.inr ⟨rfl,?_⟩,.inl ?_,.inr ⟨rfl,?_⟩⟩
  ·have e:crd a r v=s * det a r b+crd a r u:=by unfold crd det;rw [evx,evy];grind
   have:s * 1<=s * det a r b:=Q8 (by omega) (by omega);omega
  ·have:=zW a r l;omega
  ·have e:crd l a v=s * det l a b+crd l a u:=by unfold crd det;rw [evx,evy];grind
   have:s * 1<=s * det l a b:=Q8 (by omega) (by omega);omega
 ·unfold near3;rw [zz,zz,zz,z1,z2];refine ⟨.inr ⟨rfl,?_⟩,.inl ?_,.inr ⟨rfl,?_⟩⟩
  ·have e:crd a x v=s * det a x b+det a x y:=by unfold crd det;rw [evx,evy,eux,euy];grind
   have:=Kr (JT s0) q1;omega
  ·have:=zW a x y;omega
  ·have e:crd y a v=s * det y a b+det a x y:=by unfold crd det;rw [evx,evy,eux,euy];grind
   have:=Kr (JT s0) q2;omega
theorem Tiles.start {a b x y:Pt} (hab:a≠b) (hB:Bare L a b) (hb:someC L b) {T:Tri3} (hT:T∈L) (c:Cyc T a x y) (q1:0<=det a x b) (q2:0<=det y a b):(x=b\/y=b)\/Crs a b y x:=by
 have t0:=h.cyc_pos hT c;obtain ⟨n1,n2,n3⟩:=zP t0;obtain ⟨S,hS,hbS⟩:=hb;by_cases k:0<=det x y b
 ·have hh : hasT T b := by
    rcases c with ⟨rfl,rfl,rfl⟩ | ⟨rfl,rfl,rfl⟩ | ⟨rfl,rfl,rfl⟩
    ·exact ⟨q1,k,q2⟩
    ·exact ⟨q2,q1,k⟩
    ·exact ⟨k,q2,q1⟩
  rcases (c.cnr_iff b).1 (h.cnr_all hS hT hbS hh) with e | e | e
  ·exact absurd e.symm hab
  ·exact .inl (.inl e.symm)
  ·exact .inl (.inr e.symm)
 ·have btw : ∀ (m : Int) (p q : Int), det a x y < m -> det a x y * p = m * q -> (0 <= p /\ 0 <= q /\ q <= p) \/ (p <= 0 /\ p <= q /\ q <= 0) := by
    intro m p q hm e;generalize det a x y=w at *
    rcases VN 0 q with hq | hq
    ·have k1:w * q<=w * p:=by rw [e];exact Jq (by omega) hq
     have:=QE k1 t0;omega
    ·have k1:w * (-q)<=w * (-p):=by rw [Qd,Qd,e,<-Qd,<-Qd];exact Jq (by omega) (by omega)
     have:=QE k1 t0;omega
  have sum:det x y b=det a x y - det a x b - det y a b:=by unfold det;grind
  rcases Jx q1 with p1 | p1
  ·rcases Jx q2 with p2 | p2
   ·refine .inr ⟨?_,?_,?_,?_⟩
    ·have:=zW a b y;have:=zW b y a;omega
    ·have e:det a b x = - det a x b:=by unfold det;grind
     omega
    ·have:=zW a x y;omega
    ·have:=zV x y b;omega
   ·-- y on the line
    have ex:det a x y * (b.x - a.x)=det a x b * (y.x - a.x):=by
     have e:det a x y * (b.x - a.x) - det a x b * (y.x - a.x)=det y a b * (x.x - a.x):=by unfold det;grind
     rw [<-p2,Jh] at e;omega
    have ey:det a x y * (b.y - a.y)=det a x b * (y.y - a.y):=by
     have e:det a x y * (b.y - a.y) - det a x b * (y.y - a.y)=det y a b * (x.y - a.y):=by unfold det;grind
     rw [<-p2,Jh] at e;omega
    have b1:=btw _ _ _ (by omega) ex;have b2:=btw _ _ _ (by omega) ey;have dz:det a b y=0:=by have:=zW a b y;have:=zW b y a;omega
    rcases hB y ⟨T,hT,c.turn.turn.cnr⟩ dz (by omega) (by omega) with e | e
    ·exact absurd e n3
    ·exact .inl (.inr e)
  ·-- x on the line
   have ex:det a x y * (b.x - a.x)=det y a b * (x.x - a.x):=by
    have e:det a x y * (b.x - a.x) - det y a b * (x.x - a.x)=det a x b * (y.x - a.x):=by unfold det;grind
    rw [<-p1,Jh] at e;omega
   have ey:det a x y * (b.y - a.y)=det y a b * (x.y - a.y):=by
    have e:det a x y * (b.y - a.y) - det y a b * (x.y - a.y)=det a x b * (y.y - a.y):=by unfold det;grind
    rw [<-p1,Jh] at e;omega
   have b1:=btw _ _ _ (by omega) ex;have b2:=btw _ _ _ (by omega) ey;have dz:det a b x=0:=by
    have e:det a b x = - det a x b:=by unfold det;grind
    omega
   rcases hB x ⟨T,hT,c.turn.cnr⟩ dz (by omega) (by omega) with e | e
   ·exact absurd e.symm n1
   ·exact .inl (.inl e)
end
section
variable {W H:Int} {L:List Tri3} (h:Tiles W H L)
include h
open Classical in
theorem Tiles.all_in {a b:Pt} (ba:inBox W H a) (bb:inBox W H b) (hB:Bare L a b) (ha:someC L a) (_hb:someC L b) {P:List (Pt×Pt)} (hP:Ch L a b none P) (hcr:∀ e∈P,Crs a b e.1 e.2) {x y:Pt} {T0:Tri3} (h0:T0∈L) (c0:Cyc T0 a x y) (q1:0<=det a x b) (q2:0<=det y a b) (hfst:Crs a b y x->∃ P',P=(y,x) :: P'):∀ (n:Nat) (e:Pt×Pt),Crs a b e.1 e.2->e∈L.flatMap ways->(L.flatMap ways).countP (λf=>decide (Crs a b f.1 f.2/\ahd a b f e))<=n->e∈P:=by
 have nxt:∀ (P:List (Pt×Pt)) (o:Option (Pt×Pt)),Ch L a b o P->(∀ e∈P,Crs a b e.1 e.2)->∀ p∈P,(∃ T∈L,Cyc T p.1 p.2 b)\/∃ q∈P,Nx L p q:=by
  intro P;induction P with
  | nil=>intro _ _ _ p hp;cases hp
  | cons e P ih=>
   intro o hc hx p hp;have hc':Ch L a b (some e) P:=by cases o <;> exact hc.2
   rcases Km.1 hp with rfl | hp
   ·cases P with
    | nil=>exact .inl hc'
    | cons q P=>exact .inr ⟨q,by simp,hc'.1⟩
   ·rcases ih (some e) hc' (λg hg=>hx g (JK _ hg)) p hp with k | ⟨q,hq,k⟩
    ·exact .inl k
    ·exact .inr ⟨q,JK _ hq,k⟩
 have back:∀ e:Pt×Pt,Crs a b e.1 e.2->e∈L.flatMap ways->(∀ p:Pt×Pt,Crs a b p.1 p.2->p∈L.flatMap ways->ahd a b p e->p∈P)->e∈P:=by
  intro e hx hm ih;obtain ⟨T,hT,hw⟩:=JH.1 ((h.other ba bb hx).1 hm);obtain ⟨u,hc⟩:=yZ hw;have t0:=h.cyc_pos hT hc
  -- the order,the other way round
  have rev:∀ p:Pt×Pt,Crs a b p.1 p.2->ahd b a (e.2,e.1) (p.2,p.1)->ahd a b p e:=λp hp k=>by
   unfold ahd at *;have w1:=hx.wide;have w2:=hp.wide;have s1:=zV a b e.1;have s2:=zV a b e.2;have s3:=zV a b p.1;have s4:=zV a b p.2;simp only at k;rw [s1,s2,s3,s4] at k;have e1:det e.2 e.1 a=(det a b e.1 - det a b e.2) - det e.1 e.2 b:=by omega
   have e2:det p.2 p.1 a=(det a b p.1 - det a b p.2) - det p.1 p.2 b:=by omega
   have e3 : -det a b p.2 - -det a b p.1=det a b p.1 - det a b p.2:=by omega
   have e4 : -det a b e.2 - -det a b e.1=det a b e.1 - det a b e.2:=by omega
   rw [e3,e4] at k;rw [e1,e2];generalize det a b p.1 - det a b p.2=y at *
   generalize det a b e.1 - det a b e.2=z at *
   have e5:=VM y z;rw [Ve,Ve];omega
  -- one that is ahead of e,and e behind it
  have go:∀ p:Pt×Pt,Crs a b p.1 p.2->ahd a b p e->(∃ T∈L,∃ v,Cyc T p.1 p.2 v/\(e=(v,p.2)\/e=(p.1,v)))->e∈P:=by
   rintro p hp ha ⟨T,hT,v,hcp,he⟩;have hmp:p∈L.flatMap ways:=y6 hT hcp.way;have tp:=h.cyc_pos hT hcp;have hv:det a b v≠0:=by
    rcases he with he | he
    ·have:=hx.left;rw [he] at this;simp only at this;omega
    ·have:=hx.right;rw [he] at this;simp only at this;omega
   rcases nxt P none hP hcr p (ih p hp hmp ha) with ⟨R,hR,hcR⟩ | ⟨q,hq,R,hR,v',hcR,hv'⟩
   ·exfalso
    have e1:R=T:=yy h.once hR hT hcR.way hcp.way;rw [e1] at hcR;have:b=v:=hcp.same2 hcR tp;apply hv;rw [<-this];unfold det;grind
   ·have e1:R=T:=yy h.once hR hT hcR.way hcp.way;rw [e1] at hcR;have e2:v'=v:=hcp.same2 hcR tp;rw [e2] at hv';have hxq:=hcr q hq;have:q=e:=by
     have l1:=hxq.left;have r1:=hxq.right;have l2:=hx.left;have r2:=hx.right;rcases he with he | he <;> rcases hv' with hv' | hv'
     ·rw [he,hv']
     ·rw [he] at l2;rw [hv'] at r1;simp only at l2 r1;omega
     ·rw [he] at r2;rw [hv'] at l1;simp only at r2 l1;omega
     ·rw [he,hv']
    rw [<-this];exact hq
  rcases h.step hB.turn ha hT hc hx.turn with rfl | ⟨_,h2,h3⟩ | ⟨_,h2,h3⟩
  ·-- the first one
   have c1:=hc.turn.turn;have k1:=hx.left;have k2:=hx.right;have p1:0 < det u e.2 b:=by
    have e1:det u e.2 b = - det u b e.2:=by unfold det;grind
    omega
   have p2:0 < det e.1 u b:=by have:=zW u b e.1;have:=zW b e.1 u;omega
   have eT:=h.cone_one hT h0 c1 c0 p1 p2 q1 q2;rw [<-eT] at c0;obtain ⟨e1,e2⟩:=c1.same c0 (by have:=h.cyc_pos hT c1;exact this);obtain ⟨P',hP'⟩:=hfst (by rw [e1,e2];exact hx);rw [hP',e1,e2];exact JU
  ·-- u on the right: (e.1,u)
   exact go (e.1,u) h2.turn (rev (e.1,u) h2.turn h3) ⟨T,hT,e.2,hc.turn,.inr rfl⟩
  ·exact go (u,e.2) h2.turn (rev (u,e.2) h2.turn h3) ⟨T,hT,e.1,hc.turn.turn,.inl rfl⟩
 intro n;induction n with
 | zero=>
  intro e hx hm hn;refine back e hx hm λp hp hmp k=>?_;have:=List.countP_eq_zero.1 (Nat.le_zero.1 hn) p hmp;simp [hp,k] at this
 | succ n ih=>
  intro e hx hm hn;refine back e hx hm λp hp hmp k=>ih p hp hmp ?_;have:=uh (l:=L.flatMap ways) (q:=λg=>decide (Crs a b g.1 g.2/\ahd a b g p)) (p:=λg=>decide (Crs a b g.1 g.2/\ahd a b g e)) (λg _ hg=>by
   simp only [Kn] at hg ⊢;exact ⟨hg.1,uo hg.1 hp hx hg.2 k⟩) ⟨p,hmp,by simp only [Kn];exact ⟨hp,k⟩,by simp only [QB];exact λk=>YH p k.2⟩
  omega
theorem Tiles.channel (hW:0 < W) (hH:0 < H) {a b:Pt} (hab:a≠b) (hB:Bare L a b) (ha:someC L a) (hb:someC L b):∃ P,Ch L a b none P/\(∀ e∈P,Crs a b e.1 e.2)/\P.Nodup/\∀ e:Pt×Pt,Crs a b e.1 e.2->e∈L.flatMap ways->e∈P:=by
 have inb:∀ {p},someC L p->inBox W H p:=λ{p} ⟨T,hT,hc⟩=>by
  obtain ⟨y,z,k⟩:=qo hc;exact h.cyc_box hT k
 have ba:=inb ha;have bb:=inb hb;obtain ⟨T0,h0,x,y,c0,q1,q2⟩:=h.cone hW hH ba bb ha;have t0:=h.cyc_pos h0 c0;rcases h.start hab hB hb h0 c0 q1 q2 with e | hx
 ·have hP : Ch L a b none [] := by
    rcases e with e | e
    ·exact .inl (by rw [<-e];exact y6 h0 c0.way)
    ·exact .inr (by rw [<-e];exact y6 h0 c0.turn.turn.way)
  have hn:¬ Crs a b y x:=λk=>by
   rcases e with e | e
   ·have:=k.right;rw [e] at this;have z:det a b b=0:=by unfold det;grind
    omega
   ·have:=k.left;rw [e] at this;have z:det a b b=0:=by unfold det;grind
    omega
  exact ⟨[],hP,by simp,by simp,λe k hm=>h.all_in ba bb hB ha hb hP (by simp) h0 c0 q1 q2 (λk=>absurd k hn) _ e k hm (JA _)⟩
 ·have hm:(y,x)∈L.flatMap ways:=(h.other ba bb hx).2 (y6 h0 c0.turn.way);obtain ⟨P,hc,ho,hd⟩:=h.run ba bb hB hb _ (y,x) hx hm (JA _);have hP:Ch L a b none ((y,x) :: P):=⟨⟨T0,h0,c0.turn⟩,hc⟩;have hcr:∀ e∈(y,x) :: P,Crs a b e.1 e.2:=λe he=>by
   rcases Km.1 he with rfl | he
   ·exact hx
   ·exact (ho e he).1
  exact ⟨(y,x) :: P,hP,hcr,JX.2 ⟨λk=>YH _ (ho _ k).2,hd⟩,λe k hm=>h.all_in ba bb hB ha hb hP hcr h0 c0 q1 q2 (λ_=>⟨P,rfl⟩) _ e k hm (JA _)⟩
end
def Pre (L:List Tri3) (a:Pt):Option (Pt×Pt)->List (Pt×Pt)->Pt×Pt->Prop
 | o,[],w=>bef L a o w
 | o,e :: A,w=>bef L a o e/\Pre L a (some e) A w
theorem tu {L:List Tri3} {a:Pt} {o:Option (Pt×Pt)} {e w:Pt×Pt} {A:List (Pt×Pt)}:Pre L a o (e :: A) w↔bef L a o e/\Pre L a (some e) A w:=UC
theorem kP {L:List Tri3} {a b:Pt} {o:Option (Pt×Pt)} {e:Pt×Pt} {P:List (Pt×Pt)}:Ch L a b o (e :: P)↔bef L a o e/\Ch L a b (some e) P:=by
 cases o <;> exact UC
theorem qU {L:List Tri3} {a b:Pt} {w:Pt×Pt} {B:List (Pt×Pt)}:∀ {A:List (Pt×Pt)} {o:Option (Pt×Pt)},Ch L a b o (A ++ w :: B)↔Pre L a o A w/\Ch L a b (some w) B
 | [],o=>kP
 | e :: A,o=>by
  rw [Jn,kP,qU (A:=A),tu,and_assoc]
theorem tt {L:List Tri3} {a:Pt} {p w:Pt×Pt}:∀ {A:List (Pt×Pt)} {o:Option (Pt×Pt)},Pre L a o (A ++ [p]) w↔Pre L a o A p/\Nx L p w
 | [],o=>UC
 | e :: A,o=>by
  rw [Jn,tu,tu,tt (A:=A),and_assoc]
def up (a b:Pt) (e f:Pt×Pt):Prop:=(e.2=f.2/\det a b e.1<=det a b f.1)\/(e.2≠f.2/\det a b f.2<=det a b e.2)
theorem uV {a b l r u v:Pt} (hl:0 < det a b l) (hr:det a b r < 0) (hS:0 < det l r v) (hR:0 < det r l u) (h1:det a b u<=det a b l) (h2:det a b v<=det a b l) (h3:det a b u < det a b l\/det a b v < det a b l) (k1:det a b r<=det a b u) (k2:det a b r<=det a b v) (k3:det a b r < det a b u\/det a b r < det a b v):0 < det v l u/\0 < det u r v:=by
 have w:0 < det a b l - det a b r:=by omega
 have two:∀ {m n x y:Int},0<=m->0<=n->0 < m\/0 < n->0 < x->0 < y->0 < m * x+n * y:=by
  intro m n x y hm hn h hx hy;rcases h with h | h
  ·have:=JI h hx;have:=Kr hn (JT hy);omega
  ·have:=JI h hy;have:=Kr hm (JT hx);omega
 constructor
 ·refine (zX w).1 ?_;have e:(det a b l - det a b r) * det v l u=(det a b l - det a b u) * det l r v+(det a b l - det a b v) * det r l u:=by unfold det;grind
  rw [e];exact two (by omega) (by omega) (by omega) hS hR
 ·refine (zX w).1 ?_;have e:(det a b l - det a b r) * det u r v=(det a b u - det a b r) * det l r v+(det a b v - det a b r) * det r l u:=by unfold det;grind
  rw [e];exact two (by omega) (by omega) (by omega) hS hR
theorem four_crs {a b l r u v:Pt} (hl:0 < det a b l) (hr:det a b r < 0) (o1:0 < det v l u) (o2:0 < det u r v) (hu:0 < det a b u) (hv:det a b v < 0) (k1:0 < det r u a) (k2:0 < det l v b):Crs a b u v:=by
 refine ⟨hu,hv,?_,?_⟩
 ·refine (zX (show 0 < det a b u - det a b r by omega)).1 ?_;have e:(det a b u - det a b r) * det v u a=(det a b u - det a b v) * det r u a+det a b u * det u r v:=by unfold det;grind
  rw [e];exact Vz (JI (by omega) k1) (JI hu o2)
 ·refine (zX (show 0 < det a b l - det a b v by omega)).1 ?_;have e:(det a b l - det a b v) * det u v b=(det a b u - det a b v) * det l v b+(- det a b v) * det v l u:=by unfold det;grind
  rw [e];exact Vz (JI (by omega) k2) (JI (by omega) o1)
theorem four_crs2 {a b l r u v:Pt} (hl:0 < det a b l) (hr:det a b r < 0) (o1:0 < det v l u) (o2:0 < det u r v) (hu:det a b u < 0) (hv:0 < det a b v) (k1:0 < det u l a) (k2:0 < det v r b):Crs a b v u:=by
 refine ⟨hv,hu,?_,?_⟩
 ·refine (zX (show 0 < det a b l - det a b u by omega)).1 ?_;have e:(det a b l - det a b u) * det u v a=(det a b v - det a b u) * det u l a+(- det a b u) * det v l u:=by unfold det;grind
  rw [e];exact Vz (JI (by omega) k1) (JI (by omega) o1)
 ·refine (zX (show 0 < det a b v - det a b r by omega)).1 ?_;have e:(det a b v - det a b r) * det v u b=(det a b v - det a b u) * det v r b+det a b v * det u r v:=by unfold det;grind
  rw [e];exact Vz (JI (by omega) k2) (JI hv o2)
structure At (L:List Tri3) (w:Pt×Pt) (S R:Tri3) (u v:Pt):Prop where
 inS:S∈L
 inR:R∈L
 cS:Cyc S w.1 w.2 v
 cR:Cyc R w.2 w.1 u
section
variable {W H:Int} {L:List Tri3} (h:Tiles W H L) {a b:Pt} {w:Pt×Pt} {S R:Tri3} {u v:Pt} (hA:At L w S R u v)
include h hA
theorem At.ahead {p:Pt×Pt} (k:Nx L p w):p=(u,w.2)\/p=(w.1,u):=by
 obtain ⟨T,hT,v',hc,hw⟩:=k;rcases hw with hw | hw
 ·have e1:w.1=v':=by rw [hw]
  have e2:w.2=p.2:=by rw [hw]
  have c:=hc.turn;rw [<-e1,<-e2] at c;have e:T=R:=yy h.once hT hA.inR c.way hA.cR.way;rw [e] at c;have:=hA.cR.same2 c (h.cyc_pos hA.inR hA.cR);exact .inl (UL this e2.symm)
 ·have e1:w.1=p.1:=by rw [hw]
  have e2:w.2=v':=by rw [hw]
  have c:=hc.turn.turn;rw [<-e1,<-e2] at c;have e:T=R:=yy h.once hT hA.inR c.way hA.cR.way;rw [e] at c;have:=hA.cR.same2 c (h.cyc_pos hA.inR hA.cR);exact .inr (UL e1.symm this)
theorem At.behind {q:Pt×Pt} (k:Nx L w q):q=(v,w.2)\/q=(w.1,v):=by
 obtain ⟨T,hT,v',hc,hw⟩:=k;have e:T=S:=yy h.once hT hA.inS hc.way hA.cS.way;rw [e] at hc;have:=hA.cS.same2 hc (h.cyc_pos hA.inS hA.cS);rw [this] at hw;exact hw
theorem At.first (k:bef L a none w):u=a:=by
 obtain ⟨T,hT,hc⟩:=k;have e:T=R:=yy h.once hT hA.inR hc.way hA.cR.way;rw [e] at hc;exact (hA.cR.same2 hc (h.cyc_pos hA.inR hA.cR)).symm
theorem At.last (k:Ch L a b (some w) []):v=b:=by
 obtain ⟨T,hT,hc⟩:=k;have e:T=S:=yy h.once hT hA.inS hc.way hA.cS.way;rw [e] at hc;exact (hA.cS.same2 hc (h.cyc_pos hA.inS hA.cS)).symm
omit h in
theorem At.keepS {e:Pt×Pt} (hw:Crs a b w.1 w.2) (he:Crs a b e.1 e.2) (hn:e≠w) {T:Tri3} (hm:e∈ways T):T≠S:=by
 rintro rfl;have:=hA.cS.ways.mem_iff.1 hm;simp only [Km,JB,Jj] at this;have l1:=hw.left;have r1:=hw.right;have l2:=he.left;have r2:=he.right;rcases this with k | k | k
 ·exact hn k
 ·rw [k] at l2;simp only at l2;omega
 ·rw [k] at r2;simp only at r2;omega
omit h in
theorem At.keepR {e:Pt×Pt} (hw:Crs a b w.1 w.2) (he:Crs a b e.1 e.2) (hn:e≠w) {T:Tri3} (hm:(e.2,e.1)∈ways T):T≠R:=by
 rintro rfl;have:=hA.cR.ways.mem_iff.1 hm;simp only [Km,JB,Jj,Ji] at this;have l1:=hw.left;have r1:=hw.right;have l2:=he.left;have r2:=he.right;rcases this with ⟨k,k'⟩ | ⟨k,_⟩ | ⟨_,k⟩
 ·exact hn (UL k' k)
 ·rw [k] at r2;omega
 ·rw [k] at l2;omega
end
section
variable {W H:Int} {L L':List Tri3} (h:Tiles W H L) {a b:Pt} {w:Pt×Pt} {S R U V:Tri3} {u v:Pt} (hA:At L w S R u v) (hw:Crs a b w.1 w.2) (hk:∀ T∈L,T≠S->T≠R->T∈L')
include h hA hw hk
omit h in
theorem Nx.keep {e f:Pt×Pt} (he:Crs a b e.1 e.2) (hf:Crs a b f.1 f.2) (ne:e≠w) (nf:f≠w) (k:Nx L e f):Nx L' e f:=by
 obtain ⟨T,hT,v',hc,hv⟩:=k;refine ⟨T,hk T hT (hA.keepS hw he ne hc.way) (hA.keepR hw hf nf ?_),v',hc,hv⟩;rcases hv with rfl | rfl
 ·exact hc.turn.way
 ·exact hc.turn.turn.way
theorem first_keep {f:Pt×Pt} (hf:Crs a b f.1 f.2) (nf:f≠w) (k:bef L a none f):bef L' a none f:=by
 obtain ⟨T,hT,hc⟩:=k;refine ⟨T,hk T hT ?_ (hA.keepR hw hf nf hc.way),hc⟩;rintro rfl;have l1:=hw.left;have r1:=hw.right;have z:det a b a=0:=by unfold det;grind
 have:isCnr T a:=hc.turn.turn.cnr;rcases (hA.cS.cnr_iff a).1 this with k | k | k
 ·rw [<-k,z] at l1;omega
 ·rw [<-k,z] at r1;omega
 ·have:=h.cyc_pos hA.inS hA.cS;rw [<-k] at this;have:=hw.back;have:=zV w.2 w.1 a;omega
theorem last_keep {e:Pt×Pt} (he:Crs a b e.1 e.2) (ne:e≠w) (k:Ch L a b (some e) []):Ch L' a b (some e) []:=by
 obtain ⟨T,hT,hc⟩:=k;refine ⟨T,hk T hT (hA.keepS hw he ne hc.way) ?_,hc⟩;rintro rfl;have l1:=hw.left;have r1:=hw.right;have z:det a b b=0:=by unfold det;grind
 have:isCnr T b:=hc.turn.turn.cnr;rcases (hA.cR.cnr_iff b).1 this with k | k | k
 ·rw [<-k,z] at r1;omega
 ·rw [<-k,z] at l1;omega
 ·have:=h.cyc_pos hA.inR hA.cR;rw [<-k] at this;have:=hw.front;have:=zV w.1 w.2 b;omega
theorem XZ {o:Option (Pt×Pt)} {f:Pt×Pt} (ho:∀ e,o=some e->Crs a b e.1 e.2/\e≠w) (hf:Crs a b f.1 f.2) (nf:f≠w) (k:bef L a o f):bef L' a o f:=by
 cases o with
 | none=>exact first_keep h hA hw hk hf nf k
 | some e=>exact Nx.keep hA hw hk (ho e rfl).1 hf (ho e rfl).2 nf k
theorem Yf:∀ {A:List (Pt×Pt)} {o:Option (Pt×Pt)} {p:Pt×Pt},(∀ e,o=some e->Crs a b e.1 e.2/\e≠w)->(∀ e∈A,Crs a b e.1 e.2/\e≠w)->Crs a b p.1 p.2->p≠w->Pre L a o A p->Pre L' a o A p
 | [],_,_,ho,_,hp,np,k=>XZ h hA hw hk ho hp np k
 | e :: A,_,_,ho,hx,hp,np,k=>⟨XZ h hA hw hk ho (hx e (by simp)).1 (hx e (by simp)).2 k.1,Yf (λg hg=>by cases hg;exact hx e (by simp)) (λg hg=>hx g (JK _ hg)) hp np k.2⟩
theorem XU:∀ {B:List (Pt×Pt)} {q:Pt×Pt},Crs a b q.1 q.2->q≠w->(∀ e∈B,Crs a b e.1 e.2/\e≠w)->Ch L a b (some q) B->Ch L' a b (some q) B
 | [],_,hq,nq,_,k=>last_keep h hA hw hk hq nq k
 | e :: B,_,hq,nq,hx,k=>⟨Nx.keep hA hw hk hq (hx e (by simp)).1 nq (hx e (by simp)).2 k.1,XU (hx e (by simp)).1 (hx e (by simp)).2 (λg hg=>hx g (JK _ hg)) k.2⟩
end
theorem Ch.flip {W H:Int} {L L':List Tri3} (h:Tiles W H L) {a b:Pt} {A B:List (Pt×Pt)} {w:Pt×Pt} (hP:Ch L a b none (A ++ w :: B)) (hx:∀ e∈A ++ w :: B,Crs a b e.1 e.2) (hd:(A ++ w :: B).Nodup) {S R U V:Tri3} {u v:Pt} (hA:At L w S R u v) (hk:∀ T∈L,T≠S->T≠R->T∈L') (hU:U∈L') (hV:V∈L') (cU:Cyc U v w.1 u) (cV:Cyc V u w.2 v) (o1:0 < det v w.1 u) (o2:0 < det u w.2 v):(∃ A0 p q B0 f,A=A0 ++ [p]/\B=q :: B0/\(f=(u,v)\/f=(v,u))/\Crs a b f.1 f.2/\Ch L' a b none (A ++ f :: B)/\f ∉ A ++ w :: B/\(up a b p f↔up a b w q)/\(up a b f q↔up a b p w))\/(¬ (0 < det a b u/\det a b v < 0\/det a b u < 0/\0 < det a b v)/\Ch L' a b none (A ++ B)):=by
 have hw:=hx w (by simp);have hxA:∀ e∈A,Crs a b e.1 e.2/\e≠w:=λe he=>⟨hx e (Jo _ he),λk=>by
  rw [Jb] at hd;exact hd.2.2 e he w (by simp) k⟩
 have hxB:∀ e∈B,Crs a b e.1 e.2/\e≠w:=λe he=>⟨hx e (by simp [he]),λk=>by
  rw [Jb] at hd;have:=hd.2.1;rw [JX] at this;exact this.1 (k▸he)⟩
 have za:det a b a=0:=by unfold det;grind
 have zb:det a b b=0:=by unfold det;grind
 have inw:∀ e∈A ++ w :: B,e∈L.flatMap ways:=by
  intro e he;obtain ⟨X,Y,e1⟩:=Qr he;rw [e1] at hP;have:=(qU.1 hP).2;cases Y with
  | nil=>obtain ⟨T,hT,hc⟩:=this;exact y6 hT hc.way
  | cons f Y=>obtain ⟨⟨T,hT,v',hc,_⟩,_⟩:=this;exact y6 hT hc.way
 have n1:(u,v) ∉ A ++ w :: B:=λk=>h.no_diag hA.inS hA.cS o1 o2 (inw _ k);have n2:(v,u) ∉ A ++ w :: B:=λk=>h.no_diag hA.inR hA.cR o2 o1 (inw _ k);obtain ⟨hp1,hq1⟩:=qU.1 hP;rcases List.eq_nil_or_concat A with rfl | ⟨A0,p,rfl⟩
 ·have eu:u=a:=hA.first h hp1;refine .inr ⟨by rw [eu,za];omega,?_⟩;cases B with
  | nil=>
   have ev:v=b:=hA.last h hq1;rw [eu,ev] at cU;exact .inl (y6 hU cU.turn.turn.way)
  | cons q B0=>
   obtain ⟨k1,k2⟩:=kP.1 hq1;have k3:=XU h hA hw hk (hxB q (by simp)).1 (hxB q (by simp)).2 (λe he=>hxB e (JK _ he)) k2;refine kP.2 ⟨?_,k3⟩;rw [eu] at cU cV;rcases hA.behind h k1 with rfl | rfl
   ·exact ⟨V,hV,cV.turn⟩
   ·exact ⟨U,hU,cU⟩
 ·rw [List.concat_eq_append] at *;obtain ⟨k1,k2⟩:=tt.1 hp1;have hxp:=hxA p (by simp);have k3:=Yf h hA hw hk (o:=none) (λe he=>by cases he) (λe he=>hxA e (Jo _ he)) hxp.1 hxp.2 k1;have pl:=hxp.1.left;have pr:=hxp.1.right;have pb:=hxp.1.back;cases B with
  | nil=>
   have ev:v=b:=hA.last h hq1;refine .inr ⟨by rw [ev,zb];omega,?_⟩;rw [Jf];refine qU.2 ⟨k3,?_⟩;rw [ev] at cU cV;rcases hA.ahead h k2 with rfl | rfl
   ·exact ⟨V,hV,cV⟩
   ·exact ⟨U,hU,cU.turn⟩
  | cons q B0=>
   obtain ⟨j1,j2⟩:=kP.1 hq1;have hxq:=hxB q (by simp);have j3:=XU h hA hw hk hxq.1 hxq.2 (λe he=>hxB e (JK _ he)) j2;have ql:=hxq.1.left;have qr:=hxq.1.right;have qf:=hxq.1.front;have mk:∀ f,Nx L' p f->Nx L' f q->Ch L' a b none ((A0 ++ [p]) ++ f :: q :: B0):=λf x y=>by
    rw [JE];exact qU.2 ⟨k3,kP.2 ⟨x,kP.2 ⟨y,j3⟩⟩⟩
   have mk2:Nx L' p q->Ch L' a b none ((A0 ++ [p]) ++ q :: B0):=λx=>by
    rw [JE];exact qU.2 ⟨k3,kP.2 ⟨x,j3⟩⟩
   obtain ⟨d1,d2,d3⟩:=zP (h.cyc_pos hA.inS hA.cS);obtain ⟨d4,d5,d6⟩:=zP (h.cyc_pos hA.inR hA.cR);rcases hA.ahead h k2 with rfl | rfl <;> rcases hA.behind h j1 with rfl | rfl <;> simp only at pl pr pb ql qr qf
   ·exact .inr ⟨by omega,mk2 ⟨V,hV,v,cV,.inl rfl⟩⟩
   ·refine .inl ⟨A0,_,_,B0,(u,v),rfl,rfl,.inl rfl,four_crs hw.left hw.right o1 o2 pl qr pb qf,mk _ ⟨V,hV,v,cV,.inr rfl⟩ ⟨U,hU,w.1,cU.turn.turn,.inl rfl⟩,n1,?_,?_⟩
    ·unfold up;simp only;constructor
     ·rintro (⟨k,_⟩ | ⟨_,k⟩);exact absurd k d2;exact .inr ⟨d2,k⟩
     ·rintro (⟨k,_⟩ | ⟨_,k⟩);exact absurd k d2;exact .inr ⟨d2,k⟩
    ·unfold up;simp
   ·refine .inl ⟨A0,_,_,B0,(v,u),rfl,rfl,.inr rfl,four_crs2 hw.left hw.right o1 o2 pr ql pb qf,mk _ ⟨U,hU,v,cU.turn,.inl rfl⟩ ⟨V,hV,w.2,cV.turn.turn,.inr rfl⟩,n2,?_,?_⟩
    ·unfold up;simp
    ·unfold up;simp only;constructor
     ·rintro (⟨k,_⟩ | ⟨_,k⟩);exact absurd k d6;exact .inr ⟨d6,k⟩
     ·rintro (⟨k,_⟩ | ⟨_,k⟩);exact absurd k d6;exact .inr ⟨d6,k⟩
   ·exact .inr ⟨by omega,mk2 ⟨U,hU,v,cU.turn,.inr rfl⟩⟩
theorem Ch.stays {W H:Int} {L:List Tri3} (h:Tiles W H L) {a b:Pt} {A B:List (Pt×Pt)} {w:Pt×Pt} (hP:Ch L a b none (A ++ w :: B)) (hx:∀ e∈A ++ w :: B,Crs a b e.1 e.2) {S R:Tri3} {u v:Pt} (hA:At L w S R u v) (ho:¬ (0 < det v w.1 u/\0 < det u w.2 v)) (hl:A=[]\/∃ A0 p,A=A0 ++ [p]/\up a b p w):∃ q B0,B=q :: B0/\up a b w q:=by
 have hw:=hx w (by simp);have za:det a b a=0:=by unfold det;grind
 have zb:det a b b=0:=by unfold det;grind
 obtain ⟨hp1,hq1⟩:=qU.1 hP;have wl:=hw.left;have wr:=hw.right;have tS:=h.cyc_pos hA.inS hA.cS;have tR:=h.cyc_pos hA.inR hA.cR;obtain ⟨d1,d2,d3⟩:=zP tS;obtain ⟨d4,d5,d6⟩:=zP tR;have hu:(det a b u<=det a b w.1/\det a b w.2<=det a b u)/\(det a b u < det a b w.1\/det a b w.2 < det a b u)/\(det a b u=0\/(0 < det a b u\/det a b u < 0)):=by
  rcases hl with rfl | ⟨A0,p,rfl,hup⟩
  ·have eu:u=a:=hA.first h hp1;rw [eu,za];omega
  ·have hxp:=hx p (by simp);have pl:=hxp.left;have pr:=hxp.right;obtain ⟨_,k2⟩:=tt.1 hp1;rcases hA.ahead h k2 with rfl | rfl <;> simp only at pl pr
   ·rcases hup with ⟨_,k⟩ | ⟨k,_⟩
    ·simp only at k;omega
    ·exact absurd rfl k
   ·rcases hup with ⟨k,_⟩ | ⟨_,k⟩
    ·exact absurd k d6
    ·simp only at k;omega
 cases B with
 | nil=>
  exfalso
  have ev:v=b:=hA.last h hq1;refine ho (uV wl wr tS tR (by omega) (by rw [ev,zb];omega) (by rw [ev,zb];omega) (by omega) (by rw [ev,zb];omega) (by rw [ev,zb];omega))
 | cons q B0=>
  refine ⟨q,B0,rfl,QD λhn=>?_⟩;have hxq:=hx q (by simp);have ql:=hxq.left;have qr:=hxq.right;obtain ⟨j1,_⟩:=kP.1 hq1;rcases hA.behind h j1 with rfl | rfl <;> simp only at ql qr
  ·have:¬ det a b w.1<=det a b v:=λk=>hn (.inl ⟨rfl,k⟩);exact ho (uV wl wr tS tR (by omega) (by omega) (by omega) (by omega) (by omega) (by omega))
  ·have:¬ det a b v<=det a b w.2:=λk=>hn (.inr ⟨d2,k⟩);exact ho (uV wl wr tS tR (by omega) (by omega) (by omega) (by omega) (by omega) (by omega))
theorem kf {α:Type} {w:α}:∀ {A A' B B':List α},(A ++ w :: B).Nodup->A ++ w :: B=A' ++ w :: B'->A=A'/\B=B'
 | [],[],B,B',_,h=>⟨rfl,(Qn h).2⟩
 | [],x :: A',B,B',hd,h=>by
  obtain ⟨e1,e2⟩:=Qn h;simp only [Js,JX] at hd;exact absurd (by rw [e2];simp:w∈B) hd.1
 | x :: A,[],B,B',hd,h=>by
  obtain ⟨e1,e2⟩:=Qn h;rw [Jn,JX] at hd;exact absurd (by rw [e1];simp:x∈A ++ w :: B) hd.1
 | x :: A,y :: A',B,B',hd,h=>by
  obtain ⟨e1,e2⟩:=Qn h;rw [Jn,JX] at hd;obtain ⟨k1,k2⟩:=kf hd.2 e2;exact ⟨by rw [e1,k1],k2⟩
def Pot (a b:Pt) (P R:List (Pt×Pt)) (n:Nat):Prop:=
 (∃ A x y B X Y Z,P=A ++ x :: y :: B/\up a b x y/\R=X ++ y :: (Y ++ x :: Z)/\(B.length+1) * P.length+X.length<=n) \/
 (∃ p P' X Z,P=p :: P'/\R=X ++ p :: Z/\P.length * P.length+X.length<=n)
theorem K3 {a b:Pt} {P R:List (Pt×Pt)} (h:R.Perm P) (hP:P≠[]):Pot a b P R (P.length * P.length+(P.length - 1)):=by
 cases P with
 | nil=>exact absurd rfl hP
 | cons p P'=>
  obtain ⟨X,Z,e⟩:=Qr (h.mem_iff.2 (JU (a:=p) (l:=P')));refine .inr ⟨p,P',X,Z,rfl,e,?_⟩;have:=h.length_eq;rw [e] at this;simp at this;simp;omega
theorem later {P R:List (Pt×Pt)} {y q:Pt×Pt} (h:(y :: R).Perm P) (hq:q∈P) (hn:q≠y):∃ X Y,R=X ++ q :: Y/\X.length+2<=P.length:=by
 rcases Km.1 (h.mem_iff.2 hq) with k | k
 ·exact absurd k hn
 ·obtain ⟨X,Y,e⟩:=Qr k;refine ⟨X,Y,e,?_⟩;have:=h.length_eq;rw [e] at this;simp at this;omega
theorem pot_stay {a b:Pt} {P R:List (Pt×Pt)} {w:Pt×Pt} {n:Nat} (hd:P.Nodup) (hp:(w :: R).Perm P) (hs:∀ A B,P=A ++ w :: B->(A=[]\/∃ A0 p,A=A0 ++ [p]/\up a b p w)->∃ q B0,B=q :: B0/\up a b w q) (h:Pot a b P (w :: R) n):∃ m,n=m+1/\Pot a b P (R ++ [w]) m:=by
 rcases h with ⟨A,x,y,B,X,Y,Z,e1,hu,e2,hn⟩ | ⟨p,P',X,Z,e1,e2,hn⟩
 ·cases X with
  | nil=>
   obtain ⟨rfl,e3⟩:=Qn e2;obtain ⟨q,B0,rfl,hq⟩:=hs (A ++ [x]) B (by rw [e1];simp) (.inr ⟨A,x,rfl,hu⟩);have nq:q≠w:=λk=>by
    rw [e1,k] at hd;have:=(Jb.1 hd).2.1;simp at this
   obtain ⟨X',Y',e4,l4⟩:=later hp (by rw [e1];simp:q∈P) nq;have e5:(B0.length+1+1) * P.length=(B0.length+1) * P.length+P.length:=UI _ _;simp only [JO,Ql] at hn;rw [e5] at hn;exact ⟨n - 1,by omega,.inl ⟨A ++ [x],w,q,B0,X',Y',[],by rw [e1];simp,hq,by rw [e4];simp,by omega⟩⟩
  | cons z X=>
   obtain ⟨rfl,e3⟩:=Qn e2;simp only [JO] at hn;exact ⟨n - 1,by omega,.inl ⟨A,x,y,B,X,Y,Z ++ [w],e1,hu,by rw [e3];simp,by omega⟩⟩
 ·cases X with
  | nil=>
   obtain ⟨rfl,e3⟩:=Qn e2;obtain ⟨q,B0,rfl,hq⟩:=hs [] P' e1 (.inl rfl);have nq:q≠w:=λk=>by
    rw [e1,k] at hd;simp at hd
   obtain ⟨X',Y',e4,l4⟩:=later hp (by rw [e1];simp:q∈P) nq;have lp:P.length=B0.length+1+1:=by rw [e1];simp
   have e5:(B0.length+1+1) * P.length=(B0.length+1) * P.length+P.length:=UI _ _;have e6:P.length * P.length=(B0.length+1) * P.length+P.length:=by rw [<-e5,<-lp]
   simp only [Ql] at hn;exact ⟨n - 1,by omega,.inl ⟨[],w,q,B0,X',Y',[],e1,hq,by rw [e4];simp,by omega⟩⟩
  | cons z X=>
   obtain ⟨rfl,e3⟩:=Qn e2;simp only [JO] at hn;exact ⟨n - 1,by omega,.inr ⟨p,P',X,Z ++ [w],e1,by rw [e3];simp,by omega⟩⟩
theorem pot_swap {a b:Pt} {R A0 B0:List (Pt×Pt)} {p w q f:Pt×Pt} {n:Nat} (hd:(A0 ++ p :: w :: q :: B0).Nodup) (hp:(w :: R).Perm (A0 ++ p :: w :: q :: B0)) (h1:up a b f q↔up a b p w) (h:Pot a b (A0 ++ p :: w :: q :: B0) (w :: R) n):∃ m,n=m+1/\Pot a b (A0 ++ p :: f :: q :: B0) (R ++ [f]) m:=by
 classical
 have hd2:=Jb.1 hd;have hd3:=hd2.2.1;simp only [JX,Km,U8] at hd3;have wA:∀ e∈A0,e≠w:=λe he=>hd2.2.2 e he w (by simp);have wB:∀ e∈B0,e≠w:=λe he k=>hd3.2.1.2 (k▸he);obtain ⟨σ,hσ⟩:∃ σ:Pt×Pt->Pt×Pt,σ=λe=>if e=w then f else e:=⟨_,rfl⟩
 have s1:σ w=f:=by rw [hσ];simp
 have s2:∀ e,e≠w->σ e=e:=λe he=>by rw [hσ];simp [he]
 have s3:∀ l:List (Pt×Pt),(∀ e∈l,e≠w)->l.map σ=l:=λl hl=>by
  have:l.map σ=l.map id:=List.map_congr_left λe he=>s2 e (hl e he);rw [this,List.map_id]
 have sP:(A0 ++ p :: w :: q :: B0).map σ=A0 ++ p :: f :: q :: B0:=by
  rw [QA,Jc,Jc,Jc,s1,s2 p hd3.1.1,s2 q (λk=>hd3.2.1.1 k.symm),s3 A0 wA,s3 B0 wB]
 have sl:(A0 ++ p :: f :: q :: B0).length=(A0 ++ p :: w :: q :: B0).length:=by simp
 generalize hP:A0 ++ p :: w :: q :: B0=P at *
 rcases h with ⟨A,x,y,B,X,Y,Z,e1,hu,e2,hn⟩ | ⟨p',P',X,Z,e1,e2,hn⟩
 ·have hdx:=hd;rw [e1] at hdx;have hdx2:=(Jb.1 hdx).2.1;simp only [JX,Km,U8] at hdx2;cases X with
  | nil=>
   obtain ⟨rfl,e3⟩:=Qn e2;have e4:(A0 ++ [p]) ++ w :: (q :: B0)=(A ++ [x]) ++ w :: B:=by rw [JE,JE];simp only [Jn,Js];rw [hP,e1]
   obtain ⟨k1,k2⟩:=kf (by rw [JE];simp only [Jn,Js];rw [hP];exact hd) e4;obtain ⟨k3,k4⟩:=List.append_inj' k1 rfl;have k5:p=x:=(Qn k4).1;obtain ⟨X',Y',e5,l5⟩:=later hp (by rw [<-hP];simp:q∈P) (λk=>hd3.2.1.1 k.symm);have e6:(B0.length+1+1) * P.length=(B0.length+1) * P.length+P.length:=UI _ _;rw [<-k2] at hn;simp only [JO,Ql] at hn;rw [e6] at hn;refine ⟨n - 1,by omega,.inl ⟨A0 ++ [p],f,q,B0,X',Y',[],by simp,h1.2 (by rw [k5];exact hu),by rw [e5];simp,by rw [sl];omega⟩⟩
  | cons z X=>
   obtain ⟨rfl,e3⟩:=Qn e2;have hr:w ∉ R:=λk=>by
    have:=hp.nodup_iff.2 hd;rw [JX] at this;exact this.1 k
   have nx:x≠w:=λk=>hr (by rw [e3,k];simp);have ny:y≠w:=λk=>hr (by rw [e3,k];simp);simp only [JO] at hn;refine ⟨n - 1,by omega,.inl ⟨A.map σ,x,y,B.map σ,X,Y,Z ++ [f],?_,hu,by rw [e3];simp,by rw [sl,Qq];omega⟩⟩;rw [<-sP,e1,QA,Jc,Jc,s2 x nx,s2 y ny]
 ·cases X with
  | nil=>
   exfalso
   obtain ⟨rfl,e3⟩:=Qn e2;have e4:(A0 ++ [p]) ++ w :: (q :: B0)=[] ++ w :: P':=by rw [JE];simp only [Jn,Js];rw [hP,e1]
   obtain ⟨k1,_⟩:=kf (by rw [JE];simp only [Jn,Js];rw [hP];exact hd) e4;simp at k1
  | cons z X=>
   obtain ⟨rfl,e3⟩:=Qn e2;have hr:w ∉ R:=λk=>by
    have:=hp.nodup_iff.2 hd;rw [JX] at this;exact this.1 k
   have nx:p'≠w:=λk=>hr (by rw [e3,k];simp);simp only [JO] at hn;refine ⟨n - 1,by omega,.inr ⟨p',P'.map σ,X,Z ++ [f],?_,by rw [e3];simp,by rw [sl];omega⟩⟩;rw [<-sP,e1,Jc,s2 p' nx]
def turns:Nat->Nat
 | 0=>0
 | k+1=>(k+1) * (k+1)+(k+1)+turns k
theorem turns_mono {k m:Nat} (h:k<=m):turns k<=turns m:=by
 induction m with
 | zero=>rw [Nat.le_zero.1 h];exact JA _
 | succ m ih=>
  rcases Nat.lt_or_eq_of_le h with h | h
  ·have:=ih (by omega);have e:turns (m+1)=(m+1) * (m+1)+(m+1)+turns m:=rfl;rw [e];omega
  ·rw [h];exact JA _
end
end Go.Proofs.YtmpfadapbbjbkaaGreat
