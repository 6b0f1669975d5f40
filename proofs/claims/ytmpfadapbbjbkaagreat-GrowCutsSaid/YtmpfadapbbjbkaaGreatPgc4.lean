import Derived.Test.YtmpfadapbbjbkaaGreatPgc3
import Derived.Shelf.Spec.SlicesInsert
import Derived.Lib.AppendZerosOnto
import Derived.Shelf.RegionOpenPlain
import Derived.Deep.AppendLies
import Derived.Deep.RegionHeld3
set_option maxRecDepth 100000
set_option maxHeartbeats 8000000
set_option linter.all false
namespace Go.Proofs.YtmpfadapbbjbkaaGreat
open _root_.Go.Proofs.Tryz
section
open Go.RowKit Go.Sort
attribute [local go_sem] rOper rAt rUpon cell_set sg_i64 sg_u64 alloc_cell alloc_frozen
attribute [local go_sem 10000] pt_eql pt_neq wal_eql wal_neq
attribute [local irreducible] rWalk
def bar1 (X V:Wl):Bool := !bsd X V.A V.B && decide (meetS X.A X.B V.A V.B≠0)
theorem bar1_0 (X V:Wl) (bv:Nat) (h:bsd X V.A V.B=true) (w:World) (Hv:Box w bv [V.A.x,V.A.y,V.B.x,V.B.y,V.K] 57):Calls prog 164 #[.agg #[X.A.x,X.A.y,X.B.x,X.B.y,X.K],pt0 bv] w (Rt w (.bool (bar1 X V))):=by
 have c1:=Zc X V.A V.B;have c2:=jO X.A X.B V.A V.B;have HE:Hi (bar1 X V=false):=hdd (by unfold bar1;rw [h];rfl);rw [h] at c1;clear h;generalize meetS X.A X.B V.A V.B=z at *
 go_enter func164,ntmps164
 have Fh:=Hv.f;go_wp2_with fail;clear Fh;refine qE1 λW1 Bx hw=>?_;have BV:Box W1 bv [V.A.x,V.A.y,V.B.x,V.B.y,V.K] 57:=Hv.ee hw;have G5:=J2 Bx.f BV.f;clear G5;refine qC2 (c1 _) Bx BV hw λw2 Bx BV hw G5=>?_;go_wp2
 go_ret
 exact ⟨yS (by rw [HE.o]),by have hl:=hw.size;go_grown⟩
theorem bar1_1 (X V:Wl) (bv:Nat) (h:bsd X V.A V.B=false) (w:World) (Hv:Box w bv [V.A.x,V.A.y,V.B.x,V.B.y,V.K] 57):Calls prog 164 #[.agg #[X.A.x,X.A.y,X.B.x,X.B.y,X.K],pt0 bv] w (Rt w (.bool (bar1 X V))):=by
 have c1:=Zc X V.A V.B;have c2:=jO X.A X.B V.A V.B;have HE:Hi (bar1 X V=(meetS X.A X.B V.A V.B != 0)):=hdd (by unfold bar1;rw [h];rw [Bool.not_false,Xy,Xv];simp);rw [h] at c1;clear h;generalize meetS X.A X.B V.A V.B=z at *
 go_enter func164,ntmps164
 have Fh:=Hv.f;go_wp2_with fail;clear Fh;refine qE1 λW1 Bx hw=>?_;have BV:Box W1 bv [V.A.x,V.A.y,V.B.x,V.B.y,V.K] 57:=Hv.ee hw;have G5:=J2 Bx.f BV.f;clear G5;refine qC2 (c1 _) Bx BV hw λw2 Bx BV hw G5=>?_;go_wp2_with fail;clear G5;refine qC2 (c2 _) Bx BV hw λw3 Bx BV hw G5=>?_;go_wp2
 go_ret
 exact ⟨yS (by rw [HE.o]),by have hl:=hw.size;go_grown⟩
theorem bar1_any (X V:Wl) (bv:Nat) (w:World) (Hv:Box w bv [V.A.x,V.A.y,V.B.x,V.B.y,V.K] 57):Calls prog 164 #[.agg #[X.A.x,X.A.y,X.B.x,X.B.y,X.K],pt0 bv] w (Rt w (.bool (bar1 X V))):=by
 cases h:bsd X V.A V.B with
 | true=>exact bar1_0 X V bv h w Hv
 | false=>exact bar1_1 X V bv h w Hv
theorem bar1_enter:∀ args w,(callFunc 164 args).run prog w=.ok (.enter 164 args) w:=enters_of func164 (by kernel_rfl) rfl
theorem bar1_pred (V:Wl) (bv:Nat) (w:World) (Hv:Box w bv [V.A.x,V.A.y,V.B.x,V.B.y,V.K] 57):PredBelow prog 164 #[pt0 bv] (λx=>.agg (cW x).toArray) (λx=>bar1 x V) w:=λW x hb=>
 (bar1_any x V bv W (Hv.ee hb)).mono λ_ _ ⟨he,hx⟩=>⟨he,(upB hb hx)⟩
theorem jm (V:Wl) (a:Option Addr) (c n:Nat) (L:List Wl) (hn:L.length=n) (hL:L.length<=1000000) (hf:Flat a) (w:World) (h:RowAt cW 5 w a L):Calls prog 125 #[.slice a n c,.agg #[V.A.x,V.A.y,V.B.x,V.B.y,V.K]] w (Rt w (.bool (L.any λx=>bar1 x V))):=by
 go_enter func125,ntmps125
 go_wp2_with fail;refine qE1 λW1 Bv hw=>?_;have c1:=ZU (λx=>bar1 x V) _ _ bar1_enter a c L hL _ (h.ee hw) hf (bar1_pred V _ _ Bv);rw [hn] at c1;refine qC1 (c1) Bv hw λw2 Bv hw Fv=>?_;go_wp2
 go_ret
 exact ⟨rfl,by have hl:=hw.size;go_grown⟩
theorem begun_some (sb:Nat) (a:Option Addr) (c n:Nat) (L:List Wl) (hn:L.length=n) (hL:L.length<=1000000) (hnc:n<=c) (p:Pt) (m:Nat) (hm:∀ (k:Nat) (hk:k < L.length),bgn L[k] p < 0↔k < m) (hmn:m<=L.length) (w:World) (Bs:Box w sb [.slice a n c] 98) (h:RowAt cW 5 w a L):Calls prog 126 #[pt0 sb,p] w (Rt w (.slice a m c)):=by
 go_enter func126,ntmps126
 go_wp2_with fail;refine qD1 λW1 Bp hw=>?_;have BS:Box W1 (sb) [.slice a n c] 98:=Bs.ee hw;have cc:∀ d os,Calls prog 166 #[.slice a n c,p,.func (.func 167) #[] #[]] (grow (redrawn W1 d) os) λe w'=>e=.returned (.tuple #[m,.bool (bsb (λx=>bgn x p) L m)])/\Below (grow (redrawn W1 d) os).heap.size (grow (redrawn W1 d) os) w':=λd os=>by
  have:=bsP_any a c L hL p m hm hmn _ ((h.ee hw).ext (below_regrown W1 d os) rfl)
  rwa [hn] at this
 generalize bsb (λx=>bgn x p) L m=bb at *
 have KZ:=J2 Bp.cells BS.cells;refine wrt 10 (by kernel_rfl) (by kernel_rfl) ?_;simp only [tK1,tK0,dP1,dP0];refine wkx ?_;intro w2 hb;clear KZ;obtain ⟨Bp,BS,hw,-⟩:=qX2 Bp BS hw hb;have hmn2:m<=n:=by rw [<-hn];exact hmn
 have hnc2:=hnc;have KW:=J2 Bp.f BS.f;go_wp2
 go_ret
 exact ⟨rfl,by have hl:=hw.size;go_grown⟩
def fnd (L:List Wl) (m:Nat) (p q:Pt):Bool:=match L[m]? with | some x=>decide (x.A=p) && decide (x.B=q) | none=>false
theorem find_some (sb:Nat) (a0:Option Addr) (c n:Nat) (L:List Wl) (hn:L.length=n) (hL:L.length<=1000000) (a b:Pt) (m:Nat) (hm:∀ (k:Nat) (hk:k < L.length),cmpW L[k] ⟨lo2 a b,hi2 a b,0⟩ < 0↔k < m) (hmn:m<=L.length) (w:World) (Bs:Box w sb [.slice a0 n c] 98) (h:RowAt cW 5 w a0 L):Calls prog 68 #[pt0 sb,a,b] w (Rt w (.tuple #[m,.bool (fnd L m (lo2 a b) (hi2 a b))])):=by
 have c1:=Z8 a b;generalize lo2 a b=p at *
 generalize hi2 a b=q at *
 go_enter func68,ntmps68
 have hsb:=Bs.lt;go_wp2_with fail;refine qE3 λW1 Ba Bb Bv hw=>?_;refine qK3 (c1 _) Ba Bb Bv hw λw2 Ba Bb Bv hw=>?_;have BS:Box w2 (sb) [.slice a0 n c] 98:=Bs.ee hw;have GJ:=J4 Ba.f Bb.f Bv.f BS.f;go_wp2_with fail;refine z7 λW3 hW=>?_;replace Ba:=sto Ba hW;replace Bb:=sto Bb hW;replace Bv:=sto Bv hW;replace BS:=sto BS hW;replace hw:=stw hw hW;clear GJ;clear hW;have cc:∀ d os,Calls prog 110 #[.slice a0 n c,.agg #[p.x,p.y,q.x,q.y,()],.func (.func 78) #[] #[]] (grow (redrawn W3 d) os) λe w'=>e=.returned (.tuple #[m,.bool (bsb (λx=>cmpW x ⟨p,q,0⟩) L m)])/\Below (grow (redrawn W3 d) os).heap.size (grow (redrawn W3 d) os) w':=λd os=>by
  have:=bsW_any a0 c L hL ⟨p,q,0⟩ m hm hmn _ ((h.ee hw).ext (below_regrown W3 d os) rfl)
  rwa [hn] at this
 generalize bsb (λx=>cmpW x ⟨p,q,0⟩) L m=bb at *
 have G9:=J4 Ba.cells Bb.cells Bv.cells BS.cells;refine wrt 10 (by kernel_rfl) (by kernel_rfl) ?_;simp only [tK1,tK0,dP1,dP0];refine wkx ?_;intro w4 hb;clear G9;obtain ⟨Ba,Bb,Bv,BS,hw,-⟩:=qX4 Ba Bb Bv BS hw hb;clear cc;have GJ:=J4 Ba.f Bb.f Bv.f BS.f;go_wp2_with fail;clear GJ;by_cases hlt:m < n
 ·have hmL:m < L.length:=by rw [hn];exact hlt
  obtain ⟨ad,A,ea,eA,hA⟩:=(h.ee hw).five (j:=m) hmL;have HB0:Hi (fnd L m p q=(decide (L[m].A=p) && decide (L[m].B=q))):=hdd (by unfold fnd;rw [Yo hmL]);generalize L[m]=X at *
  obtain ⟨s0,s1,s2,s3,s4⟩:=hA.cells;subst ea;cases e1:peqI X.A.x X.A.y p.x p.y with
  | false=>
   have HB:Hi (fnd L m p q=false):=hdd (by rw [HB0.o,<-ze,<-ze,e1];rfl);clear HB0;clear hA;have G9:=J4 Ba.cells Bb.cells Bv.cells BS.cells;refine rgn 35 (λw5 hb=>?_);clear G9;obtain ⟨Ba,Bb,Bv,BS,hw,GJ⟩:=qX4 Ba Bb Bv BS hw hb;go_wp2_with fail;refine bodyPost_ret (v:=.tuple #[m,.bool false]) (by simp [results,results68,go_sem]) rfl ⟨by rw [HB.o],by have hl:=hw.size;go_grown⟩
  | true=>
   have HB:Hi (fnd L m p q=peqI X.B.x X.B.y q.x q.y):=hdd (by rw [HB0.o,<-ze,<-ze,e1];rfl);clear HB0;clear hA;have G9:=J4 Ba.cells Bb.cells Bv.cells BS.cells;refine rgn 35 (λw5 hb=>?_);clear G9;obtain ⟨Ba,Bb,Bv,BS,hw,GJ⟩:=qX4 Ba Bb Bv BS hw hb;go_wp2_with fail;refine bodyPost_ret (v:=.tuple #[m,.bool (peqI X.B.x X.B.y q.x q.y)]) (by simp [results,results68,go_sem]) rfl ⟨by rw [HB.o],by have hl:=hw.size;go_grown⟩
 ·have HB:Hi (fnd L m p q=false):=hdd (by unfold fnd;rw [Xw (by rw [hn];omega)])
  skip
  have G9:=J4 Ba.cells Bb.cells Bv.cells BS.cells;refine rgn 35 (λw5 hb=>?_);clear G9;obtain ⟨Ba,Bb,Bv,BS,hw,GJ⟩:=qX4 Ba Bb Bv BS hw hb;go_wp2_with fail;refine bodyPost_ret (v:=.tuple #[m,.bool false]) (by simp [results,results68,go_sem]) rfl ⟨by rw [HB.o],by have hl:=hw.size;go_grown⟩
section
variable {α:Type} {c:α->α->Int}
def Rising (c:α->α->Int) (L:List α):Prop:=L.Pairwise λx y=>c x y < 0
theorem qo (W:Whole c):∀ {L M:List α},Rising c L->Rising c M->(∀ p,p∈L↔p∈M)->L=M
 | [],M,_,_,h=>by
  cases M with
  | nil=>rfl
  | cons y M=>exact absurd ((h y).2 (by simp)) (by simp)
 | x :: L,M,h1,h2,h=>by
  cases M with
  | nil=>exact absurd ((h x).1 (by simp)) (by simp)
  | cons y M=>
   unfold Rising at h1 h2;rw [Xt] at h1 h2;have irr:∀ z,¬ c z z < 0:=λz=>by have:=(W.eq0 (x:=z) (y:=z)).2 rfl;omega
   have e:x=y:=by
    rcases Yg.1 ((h x).1 (by simp)) with e | hx
    ·exact e
    ·rcases Yg.1 ((h y).2 (by simp)) with e | hy
     ·exact e.symm
     ·exact absurd (W.trans (h1.1 y hy) (h2.1 x hx)) (irr _)
   subst e;rw [qo W h1.2 h2.2 (λp=>⟨λhp=>?_,λhp=>?_⟩)]
   ·rcases Yg.1 ((h p).1 (by simp [hp])) with e | h'
    ·subst e;exact absurd (h1.1 p hp) (irr p)
    ·exact h'
   ·rcases Yg.1 ((h p).2 (by simp [hp])) with e | h'
    ·subst e;exact absurd (h2.1 p hp) (irr p)
    ·exact h'
theorem qp (W:Whole c) {M:List α} {x:α} {k:Nat} (h:Rising c M) (hk:k<=M.length) (hlo:∀ (i:Nat) (hi:i < k),c (M[i]'(by omega)) x < 0) (hhi:∀ (i:Nat) (_:k<=i) (h2:i < M.length),0 < c (M[i]'h2) x):Rising c (M.take k ++ x :: M.drop k)/\∀ p,p∈M.take k ++ x :: M.drop k↔p∈M\/p=x:=by
 unfold Rising at *;have hs:M.take k ++ M.drop k=M:=X9 k M;rw [<-hs,KL] at h;have g1:∀ y∈M.take k,c y x < 0:=λy hy=>by
  obtain ⟨i,hi,e⟩:=List.getElem_of_mem hy;simp only [X4] at hi;rw [<-e,Jc];exact hlo i (by omega)
 have g2:∀ y∈M.drop k,c x y < 0:=λy hy=>by
  obtain ⟨i,hi,e⟩:=List.getElem_of_mem hy;simp only [X7] at hi;rw [<-e,Jd];have:=hhi (k+i) (by omega) (by omega);have:=W.neg (M[k+i]'(by omega)) x;omega
 refine ⟨?_,λp=>?_⟩
 ·rw [KL,Xt];exact ⟨h.1,⟨g2,h.2.1⟩,λa ha b hb=>by
   rcases Yg.1 hb with rfl | hb
   ·exact g1 a ha
   ·exact h.2.2 a ha b hb⟩
 ·constructor
  ·intro hp;rcases Ys.1 hp with hp | hp
   ·exact .inl (Kd hp)
   ·rcases Yg.1 hp with rfl | hp
    ·exact .inr rfl
    ·exact .inl (JB hp)
  ·rintro (hp | rfl)
   ·rw [<-hs] at hp;rcases Ys.1 hp with hp | hp
    ·exact Ys.2 (.inl hp)
    ·exact Ys.2 (.inr (X6 _ hp))
   ·exact Ys.2 (.inr Yy)
theorem ua {M:List α} (h:Rising c M) {i j:Nat} (hi:i < M.length) (hj:j < M.length) (hij:i < j):c M[i] M[j] < 0:=by
 unfold Rising at h;rw [Xk] at h;exact h i j hi hj hij
end
abbrev Ris (L:List Wl):Prop:=Rising cmpW L
def posW (L:List Wl) (p q:Pt):Nat:=(L.filter λx=>decide (cmpW x ⟨p,q,0⟩ < 0)).length
def bgL (L:List Wl) (p:Pt):List Wl:=L.filter λx=>decide (cmpP x.A p<=0)
def isW (p q:Pt) (x:Wl):Bool:=decide (x.A=p) && decide (x.B=q)
def kindW (L:List Wl) (p q:Pt):Int:=match L.find? (isW p q) with | some x=>x.K | none=>0
structure GoodW (x:Wl):Prop where
 va:vld x.A=true
 vb:vld x.B=true
 ab:cmpP x.A x.B < 0
 k:x.K=1\/x.K=2
theorem yw {p q:Pt} {x:Wl}:isW p q x=true↔x.A=p/\x.B=q:=by simp [isW]
theorem yj {q : Wl -> Bool} : ∀ {L : List Wl}, L.Pairwise (λx y => q y = true -> q x = true) ->
    (∀ (k:Nat) (hk:k < L.length),q L[k]=true↔k < (L.filter q).length)/\(L.filter q).length<=L.length/\L.take (L.filter q).length=L.filter q/\L.drop (L.filter q).length=L.filter λx => !q x
 | [],_=>by simp
 | x :: L,h=>by
  rw [Xt] at h;obtain ⟨h1,h2,h3,h4⟩:=yj h.2;cases hq:q x with
  | true=>
   rw [XC hq,XH (by rw [hq];simp)];refine ⟨λk hk=>?_,by simp;omega,by simp [h3],by simp [h4]⟩;cases k with
   | zero=>simp [hq]
   | succ k=>simpa using h1 k (by simpa using hk)
  | false=>
   have hn:∀ y∈L,q y=false:=λy hy=>by
    cases e:q y with
    | false=>rfl
    | true=>have:=h.1 y hy e;rw [hq] at this;cases this
   have e0:L.filter q=[]:=JZ.2 λy hy=>by rw [hn y hy];simp
   rw [XH (by rw [hq];simp),XC (by rw [hq];rfl),e0];refine ⟨λk hk=>?_,by simp,by simp,?_⟩
   ·cases k with
    | zero=>simp [hq]
    | succ k=>
     have:q (L[k]'(by simpa using hk))=false:=hn _ (Yx _);simp [this]
   ·rw [Kn,JH,KE.2 λy hy=>by rw [hn y hy];rfl]
theorem tp {L:List Wl} (h:Ris L) {q:Wl->Bool} (hq:∀ x y,cmpW x y < 0->q y=true->q x=true):L.Pairwise (λx y=>q y=true->q x=true):=
 h.imp λhxy=>hq _ _ hxy
theorem kJ {L:List Wl} (h:Ris L) (p q:Pt):(∀ (k:Nat) (hk:k < L.length),cmpW L[k] ⟨p,q,0⟩ < 0↔k < posW L p q)/\posW L p q<=L.length:=by
 obtain ⟨h1,h2,_⟩:=yj (tp h (q:=λx=>decide (cmpW x ⟨p,q,0⟩ < 0)) λx y hxy hy=>by
  simp only [Yh] at hy ⊢;exact vW hxy hy)
 exact ⟨λk hk=>by have:=h1 k hk;rw [Yh] at this;exact this,h2⟩
theorem bgn_lt {x:Wl} {p:Pt}:bgn x p < 0↔cmpP x.A p<=0:=by unfold bgn;split <;> simp_all <;> omega
theorem cmpA_le {x y:Wl} (h:cmpW x y < 0):cmpP x.A y.A<=0:=by
 rw [kZ] at h;rcases h with h | ⟨h,_⟩
 ·omega
 ·rw [h,zc.2 rfl];omega
theorem j9 {L:List Wl} (h:Ris L) (p:Pt):(∀ (k:Nat) (hk:k < L.length),bgn L[k] p < 0↔k < (bgL L p).length)/\(bgL L p).length<=L.length/\L.take (bgL L p).length=bgL L p:=by
 obtain ⟨h1,h2,h3,_⟩:=yj (tp h (q:=λx=>decide (cmpP x.A p<=0)) λx y hxy hy=>by
  simp only [Yh] at hy ⊢;exact wholeP.le_trans (cmpA_le hxy) hy)
 exact ⟨λk hk=>by have:=h1 k hk;rw [Yh] at this;rw [bgn_lt];exact this,h2,h3⟩
theorem kT {L:List Wl} (h:Ris L) {p q:Pt} (hf:fnd L (posW L p q) p q=true) (hg:∀ x∈L,0 < x.K):∃ hm:posW L p q < L.length,L.find? (isW p q)=some L[posW L p q]/\L[posW L p q].A=p/\L[posW L p q].B=q:=by
 obtain ⟨h1,h2⟩:=kJ h p q;unfold fnd at hf;rcases KF (posW L p q) L.length with hm | hm
 ·rw [Yo hm] at hf;refine ⟨hm,?_,by simpa using hf⟩;refine JG.2 ⟨hf,L.take (posW L p q),L.drop (posW L p q+1),?_,λy hy=>?_⟩
  ·rw [Ko hm,X9]
  ·obtain ⟨k,hk,rfl⟩:=J1.1 hy;have hk':k < posW L p q:=by omega
   have:=(h1 k (by omega)).2 hk';cases e:isW p q L[k] with
   | false=>rfl
   | true=>
    rw [yw] at e;rw [kZ] at this;have hK:=hg _ (Yx (show k < L.length by omega));simp only [e.1,e.2,zc.2 rfl] at this;omega
 ·rw [Xw hm] at hf;cases hf
theorem jb {L:List Wl} (h:Ris L) {p q:Pt} (hf:fnd L (posW L p q) p q=false) (hg:∀ x∈L,0 < x.K):L.find? (isW p q)=none:=by
 obtain ⟨h1,h2⟩:=kJ h p q;rw [Xb];intro y hy e;obtain ⟨k,hk,rfl⟩:=Xz.1 hy;rw [yw] at e;have hK:=hg _ (Yx hk);have n1:¬ cmpW L[k] ⟨p,q,0⟩ < 0:=λn=>by
  rw [kZ] at n;simp only [e.1,e.2,zc.2 rfl] at n;omega
 have hkm:posW L p q<=k:=Nat.le_of_not_lt λn=>n1 ((h1 k hk).2 n);have hm:posW L p q < L.length:=by omega
 unfold fnd at hf;rw [Yo hm] at hf;have n2:¬ cmpW L[posW L p q] ⟨p,q,0⟩ < 0:=λn=>by have:=(h1 _ hm).1 n;omega
 rcases Nat.eq_or_lt_of_le hkm with hkm | hkm
 ·have:isW p q L[posW L p q]=true:=by rw [yw];simp only [hkm];exact e
  unfold isW at this;simp only at hf;rw [hf] at this;cases this
 ·have n3:=ua h hm hk hkm;rw [kZ] at n2 n3;rw [e.1,e.2] at n3;have e1:L[posW L p q].A=p:=by
   rcases n3 with n3 | n3
   ·exact absurd (.inl n3) n2
   ·exact n3.1
  have e2:L[posW L p q].B=q:=by
   rcases n3 with n3 | ⟨_,n3 | n3⟩
   ·exact absurd (.inl n3) n2
   ·exact absurd (.inr ⟨e1,.inl n3⟩) n2
   ·exact n3.1
  simp [e1,e2] at hf
theorem vK {L:List Wl} (h:Ris L) {p q:Pt} (hf:fnd L (posW L p q) p q=true) (hg:∀ x∈L,0 < x.K) (hm:posW L p q < L.length):kindW L p q=L[posW L p q].K:=by
 obtain ⟨_,h1,_⟩:=kT h hf hg;unfold kindW;rw [h1]
theorem kindW_false {L:List Wl} (h:Ris L) {p q:Pt} (hf:fnd L (posW L p q) p q=false) (hg:∀ x∈L,0 < x.K):kindW L p q=0:=by
 unfold kindW;rw [jb h hf hg]
theorem RowAt.take {α:Type} {c:α->List Value} {k:Nat} {w:World} {a:Option Addr} {L:List α} (h:RowAt c k w a L) (m:Nat):RowAt c k w a (L.take m):=λj x hx=>h j x (by
 rw [Xo] at hx;split at hx
 ·exact hx
 ·cases hx)
structure SetRd (w:World) (sb:Nat) (a0:Option Addr) (c n:Nat) (L:List Wl):Prop where
 box:Box w sb [.slice a0 n c] 98
 row:RowAt cW 5 w a0 L
 len:L.length=n
 le:L.length<=1000000
 nc:n<=c
 flat:Flat a0
 nil0:a0=none->L=[]
 ris:Ris L
 good:∀ x∈L,GoodW x
theorem SetRd.ext {w w':World} {sb c n m:Nat} {a0:Option Addr} {L:List Wl} (S:SetRd w sb a0 c n L) (hb:Below m w w') (hm:m=w.heap.size):SetRd w' sb a0 c n L:=
 ⟨S.box.ext hb hm,S.row.ext hb hm,S.len,S.le,S.nc,S.flat,S.nil0,S.ris,S.good⟩
theorem SetRd.ee {w w':World} {sb c n:Nat} {a0:Option Addr} {L:List Wl} (S:SetRd w sb a0 c n L) (hb:Below w w w'):SetRd w' sb a0 c n L:=S.ext hb rfl
theorem SetRd.pos {w:World} {sb c n:Nat} {a0:Option Addr} {L:List Wl} (S:SetRd w sb a0 c n L):∀ x∈L,0 < x.K:=λx hx=>by have:=(S.good x hx).k;omega
theorem kX (sb:Nat) (a0:Option Addr) (c n:Nat) (L:List Wl) (a b:Pt) (w:World) (S:SetRd w sb a0 c n L):Calls prog 68 #[pt0 sb,a,b] w (Rt w (.tuple #[.int .i64 (posW L (lo2 a b) (hi2 a b):Nat),.bool (fnd L (posW L (lo2 a b) (hi2 a b)) (lo2 a b) (hi2 a b))])):=
 let ⟨h1,h2⟩:=kJ S.ris (lo2 a b) (hi2 a b)
 find_some sb a0 c n L S.len S.le a b _ h1 h2 w S.box S.row
theorem jl (sb:Nat) (a0:Option Addr) (c n:Nat) (L:List Wl) (p:Pt) (w:World) (S:SetRd w sb a0 c n L):Calls prog 126 #[pt0 sb,p] w (Rt w (.slice a0 (bgL L p).length c)):=
 let ⟨h1,h2,_⟩:=j9 S.ris p
 begun_some sb a0 c n L S.len S.le S.nc p _ h1 h2 w S.box S.row
theorem kind_0 (sb:Nat) (a0:Option Addr) (c n:Nat) (L:List Wl) (a b:Pt) (hf:(fnd L (posW L (lo2 a b) (hi2 a b)) (lo2 a b) (hi2 a b))=false) (w:World) (S:SetRd w sb a0 c n L):Calls prog 35 #[pt0 sb,a,b] w (Rt w (.int .i64 0)):=by
 go_enter func35,ntmps35
 have hsb:=S.box.lt;go_wp2_with fail;refine qE2 λW1 Ba Bb hw=>?_;have SS:=S.ee hw;have BS:=SS.box;have cf:=kX sb a0 c n L a b W1 SS;rw [hf] at cf;refine qC3 (cf) Ba Bb BS hw λw2 Ba Bb BS hw Kt=>?_;go_wp2
 go_ret
 exact ⟨rfl,by have hl:=hw.size;go_grown⟩
theorem kind_1 (sb:Nat) (a0:Option Addr) (c n:Nat) (L:List Wl) (a b:Pt) (hf:(fnd L (posW L (lo2 a b) (hi2 a b)) (lo2 a b) (hi2 a b))=true) (m:Nat) (hm0:posW L (lo2 a b) (hi2 a b)=m) (hm:m < L.length) (X:Wl) (hX:L[m]=X) (w:World) (S:SetRd w sb a0 c n L):Calls prog 35 #[pt0 sb,a,b] w (Rt w (.int .i64 X.K)):=by
 go_enter func35,ntmps35
 have hsb:=S.box.lt;go_wp2_with fail;refine qE2 λW1 Ba Bb hw=>?_;have SS:=S.ee hw;have BS:=SS.box;have cf:=kX sb a0 c n L a b W1 SS;rw [hf] at cf;rw [hm0] at cf;refine qK3 (cf) Ba Bb BS hw λw2 Ba Bb BS hw=>?_;have SS2:=SS.ext (Below.refl _ _) rfl;obtain ⟨ad,A,ea,eA,hA⟩:=(S.row.ee hw).five (j:=m) hm;have hmn:m < n:=by rw [<-S.len];exact hm
 rw [hX] at hA;obtain ⟨u0,u1,u2,u3,u4,u5⟩:=hA.f;subst ea;clear SS SS2 hA;have Kt:=J3 Ba.f Bb.f BS.f;go_wp2
 go_ret
 exact ⟨rfl,by have hl:=hw.size;go_grown⟩
theorem xW (sb:Nat) (a0:Option Addr) (c n:Nat) (L:List Wl) (a b:Pt) (w:World) (S:SetRd w sb a0 c n L):Calls prog 35 #[pt0 sb,a,b] w (Rt w (.int .i64 (kindW L (lo2 a b) (hi2 a b)))):=by
 cases hf:(fnd L (posW L (lo2 a b) (hi2 a b)) (lo2 a b) (hi2 a b)) with
 | false=>rw [kindW_false S.ris hf S.pos];exact kind_0 sb a0 c n L a b hf w S
 | true=>
  obtain ⟨hm,_⟩:=kT S.ris hf S.pos;rw [vK S.ris hf S.pos hm];exact kind_1 sb a0 c n L a b hf _ rfl hm _ rfl w S
theorem len_any (sb:Nat) (a0:Option Addr) (c n:Nat) (L:List Wl) (w:World) (S:SetRd w sb a0 c n L):Calls prog 25 #[pt0 sb] w (Rt w (.int .i64 L.length)):=by
 go_enter func25,ntmps25
 have Fs:=S.box.f;have HN:=hdd S.len;go_wp2
 go_ret
 exact ⟨by rw [HN.o];rfl,Below.refl _ _⟩
def clashW (L:List Wl) (a b:Pt):Int:=if mkOk a b 1=true then (if kindW L (lo2 a b) (hi2 a b)=0 then (if (bgL L (hi2 a b)).any (λx=>bar1 x ⟨lo2 a b,hi2 a b,1⟩) then 7 else 0) else 5) else 2
theorem clash_0 (sb:Nat) (a0:Option Addr) (c n:Nat) (L:List Wl) (a b:Pt) (ho:mkOk a b 1=false) (w:World) (S:SetRd w sb a0 c n L):Calls prog 130 #[pt0 sb,a,b] w (Rt w (.int .i64 2)):=by
 go_enter func130,ntmps130
 have hsb:=S.box.lt;have c1:=q8 a b 1;rw [ho] at c1;go_wp2_with fail;refine qE2 λW1 Ba Bb hw=>?_;refine qC2 (c1 _) Ba Bb hw λw2 Ba Bb hw Gq=>?_;go_wp2
 go_ret
 exact ⟨rfl,by have hl:=hw.size;go_grown⟩
theorem clash_1 (sb:Nat) (a0:Option Addr) (c n:Nat) (L:List Wl) (a b:Pt) (ho:mkOk a b 1=true) (hk:(kindW L (lo2 a b) (hi2 a b) != 0)=true) (w:World) (S:SetRd w sb a0 c n L):Calls prog 130 #[pt0 sb,a,b] w (Rt w (.int .i64 5)):=by
 go_enter func130,ntmps130
 have hsb:=S.box.lt;have c1:=q8 a b 1;rw [ho] at c1;go_wp2_with fail;refine qE2 λW1 Ba Bb hw=>?_;refine qC2 (c1 _) Ba Bb hw λw2 Ba Bb hw Gq=>?_;go_wp2_with fail;clear Gq;refine zG λW3 hW=>?_;obtain ⟨bkv,hbv⟩:∃ b,w2.heap.size=b:=⟨_,rfl⟩;rw [hbv];obtain ⟨lav,lbv,fv,Bv,Ba,Bb,hw⟩:=qM2 hW hbv Ba Bb hw;clear hW hbv;have SS:=S.ee hw;have ck:=xW sb a0 c n L a b W3 SS;generalize kindW L (lo2 a b) (hi2 a b)=kk at *
 refine qC3 (ck) Ba Bb Bv hw λw4 Ba Bb Bv hw Gt=>?_;go_wp2
 go_ret
 exact ⟨rfl,by have hl:=hw.size;go_grown⟩
theorem clash_2 (sb:Nat) (a0:Option Addr) (c n:Nat) (L:List Wl) (a b:Pt) (ho:mkOk a b 1=true) (hk:(kindW L (lo2 a b) (hi2 a b) != 0)=false) (hx7:(bgL L (hi2 a b)).any (λx=>bar1 x ⟨lo2 a b,hi2 a b,1⟩)=true) (w:World) (S:SetRd w sb a0 c n L):Calls prog 130 #[pt0 sb,a,b] w (Rt w (.int .i64 7)):=by
 go_enter func130,ntmps130
 have hsb:=S.box.lt;have c1:=q8 a b 1;rw [ho] at c1;go_wp2_with fail;refine qE2 λW1 Ba Bb hw=>?_;refine qC2 (c1 _) Ba Bb hw λw2 Ba Bb hw Gq=>?_;go_wp2_with fail;clear Gq;refine zG λW3 hW=>?_;obtain ⟨bkv,hbv⟩:∃ b,w2.heap.size=b:=⟨_,rfl⟩;rw [hbv];obtain ⟨lav,lbv,fv,Bv,Ba,Bb,hw⟩:=qM2 hW hbv Ba Bb hw;clear hW hbv;have SS:=S.ee hw;have ck:=xW sb a0 c n L a b W3 SS;generalize kindW L (lo2 a b) (hi2 a b)=kk at *
 refine qC3 (ck) Ba Bb Bv hw λw4 Ba Bb Bv hw Gt=>?_;rw [show mkW a b 1=⟨lo2 a b,hi2 a b,1⟩ by unfold mkW;rw [ho];rfl] at *;generalize lo2 a b=p at *
 generalize hi2 a b=q at *
 go_wp2_with fail;clear Gt;have cc:∀ d os,Calls prog 126 #[pt0 sb,q] (grow (redrawn w4 d) os) λe w'=>e=.returned (.slice a0 (bgL L q).length c)/\Below (grow (redrawn w4 d) os).heap.size (grow (redrawn w4 d) os) w':=λd os=>jl sb a0 c n L q _ ((S.ee hw).ext (below_regrown w4 d os) rfl);obtain ⟨_,hb2,hb3⟩:=j9 S.ris q;have hLb:(bgL L q).length<=1000000:=XD hb2 S.le;have hR:∀ W,Below w w W->RowAt cW 5 W a0 (bgL L q):=λW hW=>by rw [<-hb3];exact (S.row.ee hW).take _
 generalize bgL L q=L2 at *
 have Kj:=J3 Ba.cells Bb.cells Bv.cells;refine wrt 5 (by kernel_rfl) (by kernel_rfl) ?_;simp only [tK1,tK0,dP1,dP0];refine wkx ?_;intro w5 hb;clear Kj;obtain ⟨Ba,Bb,Bv,hw,Gt⟩:=qX3 Ba Bb Bv hw hb;go_wp2_with fail;clear Gt;have cb:=jm ⟨p,q,1⟩ a0 c L2.length L2 rfl hLb S.flat _ (hR _ hw);rw [hx7] at cb;refine qC3 (cb) Ba Bb Bv hw λw6 Ba Bb Bv hw Gt=>?_;go_wp2
 go_ret
 exact ⟨rfl,by have hl:=hw.size;go_grown⟩
theorem clash_3 (sb:Nat) (a0:Option Addr) (c n:Nat) (L:List Wl) (a b:Pt) (ho:mkOk a b 1=true) (hk:(kindW L (lo2 a b) (hi2 a b) != 0)=false) (hx7:(bgL L (hi2 a b)).any (λx=>bar1 x ⟨lo2 a b,hi2 a b,1⟩)=false) (w:World) (S:SetRd w sb a0 c n L):Calls prog 130 #[pt0 sb,a,b] w (Rt w (.int .i64 0)):=by
 go_enter func130,ntmps130
 have hsb:=S.box.lt;have c1:=q8 a b 1;rw [ho] at c1;go_wp2_with fail;refine qE2 λW1 Ba Bb hw=>?_;refine qC2 (c1 _) Ba Bb hw λw2 Ba Bb hw Gq=>?_;go_wp2_with fail;clear Gq;refine zG λW3 hW=>?_;obtain ⟨bkv,hbv⟩:∃ b,w2.heap.size=b:=⟨_,rfl⟩;rw [hbv];obtain ⟨lav,lbv,fv,Bv,Ba,Bb,hw⟩:=qM2 hW hbv Ba Bb hw;clear hW hbv;have SS:=S.ee hw;have ck:=xW sb a0 c n L a b W3 SS;generalize kindW L (lo2 a b) (hi2 a b)=kk at *
 refine qC3 (ck) Ba Bb Bv hw λw4 Ba Bb Bv hw Gt=>?_;rw [show mkW a b 1=⟨lo2 a b,hi2 a b,1⟩ by unfold mkW;rw [ho];rfl] at *;generalize lo2 a b=p at *
 generalize hi2 a b=q at *
 go_wp2_with fail;clear Gt;have cc:∀ d os,Calls prog 126 #[pt0 sb,q] (grow (redrawn w4 d) os) λe w'=>e=.returned (.slice a0 (bgL L q).length c)/\Below (grow (redrawn w4 d) os).heap.size (grow (redrawn w4 d) os) w':=λd os=>jl sb a0 c n L q _ ((S.ee hw).ext (below_regrown w4 d os) rfl);obtain ⟨_,hb2,hb3⟩:=j9 S.ris q;have hLb:(bgL L q).length<=1000000:=XD hb2 S.le;have hR:∀ W,Below w w W->RowAt cW 5 W a0 (bgL L q):=λW hW=>by rw [<-hb3];exact (S.row.ee hW).take _
 generalize bgL L q=L2 at *
 have Kj:=J3 Ba.cells Bb.cells Bv.cells;refine wrt 5 (by kernel_rfl) (by kernel_rfl) ?_;simp only [tK1,tK0,dP1,dP0];refine wkx ?_;intro w5 hb;clear Kj;obtain ⟨Ba,Bb,Bv,hw,Gt⟩:=qX3 Ba Bb Bv hw hb;go_wp2_with fail;clear Gt;have cb:=jm ⟨p,q,1⟩ a0 c L2.length L2 rfl hLb S.flat _ (hR _ hw);rw [hx7] at cb;refine qC3 (cb) Ba Bb Bv hw λw6 Ba Bb Bv hw Gt=>?_;go_wp2
 go_ret
 exact ⟨rfl,by have hl:=hw.size;go_grown⟩
theorem tL (sb:Nat) (a0:Option Addr) (c n:Nat) (L:List Wl) (a b:Pt) (w:World) (S:SetRd w sb a0 c n L):Calls prog 130 #[pt0 sb,a,b] w (Rt w (.int .i64 (clashW L a b))):=by
 unfold clashW;cases ho:mkOk a b 1 with
 | false=>rw [Ye (by simp)];exact clash_0 sb a0 c n L a b ho w S
 | true=>
  rw [Yn rfl];cases hk:kindW L (lo2 a b) (hi2 a b) != 0 with
  | true=>rw [Ye (by simpa using hk)];exact clash_1 sb a0 c n L a b ho hk w S
  | false=>
   rw [Yn (by simpa using hk)];cases hb:(bgL L (hi2 a b)).any (λx=>bar1 x ⟨lo2 a b,hi2 a b,1⟩) with
   | true=>rw [Yn rfl];exact clash_2 sb a0 c n L a b ho hk hb w S
   | false=>rw [Ye (by simp)];exact clash_3 sb a0 c n L a b ho hk hb w S
theorem tT {w:World} {ops:Array Oper} {rest:List Oper} {o:Oper} {a:Act} {Q:Exit->Act->World->Prop} (hgd:o.guard=none) (s x:Operand) (ho:o.op=.call { callee:=.builtin .append,args:=#[s,x],argTypes:=#[48,48] }) (B:Nat) (v:Value) (L:List Wl) (hs:a.eval s=v) (hown:WRow w B v L) (bx:Nat) (X:Wl) (hx:a.eval x=.slice (some ⟨bx,0,none⟩) 1 1) (hbx:Box w bx (cW X) 57) (hn:L.length<=1000000) (hbase:B<=w.heap.size) (h:∀ w' v',WRow w' B v' (L ++ [X])->w.grownBy w' v.ownBlock->v'≠.slice none 0 0->wpList prog ops Q rest (a.put o.dst v') w'):wpList prog ops Q (o :: rest) a w:=by
 obtain ⟨i0,hi,hz0,hz1,hz2⟩:=info_parts xG;refine wpList_append_own w hgd s x 48 ho B 57 i0 _ 5 40 underlying48 hi hz0 hz1 hz2 rfl (by decide) v L.length _ hs hown ⟨bx,0,none⟩ 1 1 (cW X) hx rfl ?_ (ka X) ?_ ?_ hbase ?_
 ·intro j u hj;have:=hbx.f.1 j;rw [hj] at this;rw [Addr.add_lit,Xa];exact this
 ·unfold maxLen;omega
 ·omega
 ·intro v' w' hown' hg hnil;refine h w' v' ?_ hg (λe=>by have:=(hnil.1 e).2;omega);unfold WRow;rw [Yi,XX,X0]
  simpa using hown'
theorem Box.grownBy {w w':World} {b:Nat} {cs:List Value} {T:TypeId} {row:Option Nat} (h:Box w b cs T) (hg:w.grownBy w' row) (hne:some b≠row):Box w' b cs T:=by
 have hl:=h.lt;unfold Box at *;rw [hg.block b hl hne];exact h
theorem WRow.alloc {w:World} {B:Nat} {v:Value} {L:List Wl} (h:WRow w B v L) (o:Obj):WRow (w.alloc o) B v L:=World.ownsRow.alloc h o
def onW (p:Pt) (x:Wl):Bool := !decide (x.A=p) && (!decide (x.B=p) && (!bsd x p p && onS p x.A x.B))
theorem Z0 (p:Pt) (x:Wl):onW p x=(!peqI x.A.x x.A.y p.x p.y && (!peqI x.B.x x.B.y p.x p.y && (!bsd x p p && onS p x.A x.B))):=by rw [ze,ze];rfl
def onV (o:Option Wl):Value:=match o with | some x=>.tuple #[.agg #[x.A.x,x.A.y,x.B.x,x.B.y,x.K],.bool true] | none=>.tuple #[.agg #[(),(),(),(),()],.bool false]
theorem vF (sb:Nat) (a0:Option Addr) (c n:Nat) (L:List Wl) (p:Pt) (w:World) (S:SetRd w sb a0 c n L):Calls prog 83 #[pt0 sb,p] w (Rt w (onV ((bgL L p).find? (onW p)))):=by
 have hsb:=S.box.lt;obtain ⟨_,hb2,hb3⟩:=j9 S.ris p;have hLb:(bgL L p).length<=1000000:=XD hb2 S.le;have hR:∀ W,Below w w W->RowAt cW 5 W a0 (bgL L p):=λW hW=>by rw [<-hb3];exact (S.row.ee hW).take _
 have cb:∀ W,Below w w W->Calls prog 126 #[pt0 sb,p] W λe w'=>e=.returned (.slice a0 (bgL L p).length c)/\Below W W w':=λW hW=>jl sb a0 c n L p W (S.ee hW);clear hb2 hb3;generalize bgL L p=L2 at *
 obtain ⟨m,hm⟩:∃ m,L2.length=m:=⟨_,rfl⟩;rw [hm] at cb hLb;have HM:=hdd hm;clear S hm
 go_enter func83,ntmps83
 go_wp2_with fail;refine zG λW1 hW=>?_;have BP:Box W1 w [p.x,p.y] 26:=by rw [hW];exact (Box.new rfl).old _
 have BR:Box W1 (w+1) [(),(),(),(),()] 57:=by rw [hW];exact Box.new (by simp)
 have hw:Below w w W1:=by rw [hW];go_grown
 clear hW;refine (cb W1 hw).mono ?_;rintro e w1 ⟨rfl,hb⟩;obtain ⟨BP,BR,hw,-⟩:=qX2 BP BR hw hb;clear hb cb;go_wp2_with fail
 go_loopw [7,12] (λ_ vi wr=>∃ k:Nat,k<=m/\vi=.int .i64 k/\Hi ((L2.take k).find? (onW p)=none)/\Below w w wr/\Box wr w [p.x,p.y] 26/\Box wr (w+1) [(),(),(),(),()] 57) (λ_ vi _=>m - (intOf vi).toNat)
 case atStart=>exact ⟨0,XZ _,rfl,hdd rfl,hw,BP,BR⟩
 case round=>
  clear BP BR hw;obtain ⟨k,hk,rfl,HI,hwr,BP,BR⟩:=hrel;by_cases hlt:k < m
  ·have hkL:k < L2.length:=by rw [HM.o];exact hlt
   obtain ⟨ad,A,ea,eA,hA⟩:=(hR wr hwr).five (j:=k) hkL;have HT:Hi (L2.take (k+1)=L2.take k ++ [L2[k]]):=hdd (Yv hkL);generalize L2[k]=X at *
   obtain ⟨u0,u1,u2,u3,u4,u5⟩:=hA.f;obtain ⟨y0,y1,y2,y3⟩:=BP.f;obtain ⟨z0,z1,z2,z3⟩:=BR.f;subst ea;have c1:=Zc X p p;have c2:=on_any p X.A X.B;cases e1:peqI X.A.x X.A.y p.x p.y with
   | true=>
    have HE:Hi (onW p X=false):=hdd (by rw [Z0,e1];rfl);have HF:Hi ((L2.take (k+1)).find? (onW p)=none):=hdd (by rw [HT.o,JE,HI.o,Kp (by rw [HE.o];simp)];rfl);clear HE HT HI;have HP:=hdd BP;have HR:=hdd BR;clear BP BR;go_wp2
    go_roundw
    case rel=>exact ⟨k+1,hlt,by go_num,HF,by have hl:=hwr.size;go_grown,HP.o.old _,HR.o.old _⟩
    case measure=>simp [intOf];omega
   | false=>
    cases e2:peqI X.B.x X.B.y p.x p.y with
    | true=>
     have HE:Hi (onW p X=false):=hdd (by rw [Z0,e1,e2];rfl);have HF:Hi ((L2.take (k+1)).find? (onW p)=none):=hdd (by rw [HT.o,JE,HI.o,Kp (by rw [HE.o];simp)];rfl);clear HE HT HI;have HP:=hdd BP;have HR:=hdd BR;clear BP BR;go_wp2
     go_roundw
     case rel=>exact ⟨k+1,hlt,by go_num,HF,by have hl:=hwr.size;go_grown,HP.o.old _,HR.o.old _⟩
     case measure=>simp [intOf];omega
    | false=>
     cases e3:bsd X p p with
     | true=>
      have HE:Hi (onW p X=false):=hdd (by rw [Z0,e1,e2,e3];rfl);rw [e3] at c1;clear e3;have HF:Hi ((L2.take (k+1)).find? (onW p)=none):=hdd (by rw [HT.o,JE,HI.o,Kp (by rw [HE.o];simp)];rfl);clear HE HT HI;have HP:=hdd BP;have HR:=hdd BR;have HW:=hdd hwr;go_wp2_with fail;refine zG λW2 hW=>?_;have BP2:Box W2 w [p.x,p.y] 26:=by rw [hW];exact HP.o.old _
      have BR2:Box W2 (w+1) [(),(),(),(),()] 57:=by rw [hW];exact HR.o.old _
      have BX2:Box W2 wr [X.A.x,X.A.y,X.B.x,X.B.y,X.K] 57:=by rw [hW];exact Box.new rfl
      have hw2:Below w w W2:=by have hl:=hwr.size;rw [hW];go_grown
      clear hW BP BR hwr y0 y1 y2 y3 z0 z1 z2 z3 u0 u1 u2 u3 u4 u5 hA;refine (c1 W2).mono ?_;rintro e w3 ⟨rfl,hb⟩;have l1:w.heap.size+1 < wr.heap.size:=HR.o.lt;replace BP2:=BP2.ee hb;replace BR2:=BR2.ee hb;replace BX2:=BX2.ee hb;replace hw2:=upB hw2 hb;clear hb;obtain ⟨y0,y1,y2,y3⟩:=BP2.f;obtain ⟨z0,z1,z2,z3⟩:=BR2.f;obtain ⟨u0,u1,u2,u3⟩:=BX2.f;go_wp2
      go_roundw
      case rel=>exact ⟨k+1,hlt,by go_num,HF,hw2,BP2,BR2⟩
      case measure=>simp [intOf];omega
     | false=>
      cases e4:onS p X.A X.B with
      | false=>
       have HE:Hi (onW p X=false):=hdd (by rw [Z0,e1,e2,e3,e4];rfl);rw [e3] at c1;rw [e4] at c2;clear e3 e4;have HF:Hi ((L2.take (k+1)).find? (onW p)=none):=hdd (by rw [HT.o,JE,HI.o,Kp (by rw [HE.o];simp)];rfl);clear HE HT HI;have HP:=hdd BP;have HR:=hdd BR;have HW:=hdd hwr;go_wp2_with fail;refine zG λW2 hW=>?_;have BP2:Box W2 w [p.x,p.y] 26:=by rw [hW];exact HP.o.old _
       have BR2:Box W2 (w+1) [(),(),(),(),()] 57:=by rw [hW];exact HR.o.old _
       have BX2:Box W2 wr [X.A.x,X.A.y,X.B.x,X.B.y,X.K] 57:=by rw [hW];exact Box.new rfl
       have hw2:Below w w W2:=by have hl:=hwr.size;rw [hW];go_grown
       clear hW BP BR hwr y0 y1 y2 y3 z0 z1 z2 z3 u0 u1 u2 u3 u4 u5 hA;refine (c1 W2).mono ?_;rintro e w3 ⟨rfl,hb⟩;have l1:w.heap.size+1 < wr.heap.size:=HR.o.lt;replace BP2:=BP2.ee hb;replace BR2:=BR2.ee hb;replace BX2:=BX2.ee hb;replace hw2:=upB hw2 hb;clear hb;obtain ⟨y0,y1,y2,y3⟩:=BP2.f;obtain ⟨z0,z1,z2,z3⟩:=BR2.f;obtain ⟨u0,u1,u2,u3⟩:=BX2.f;go_wp2_with fail;refine (c2 w3).mono ?_;rintro e w4 ⟨rfl,hb⟩;have BP3:=BP2.ee hb;have BR3:=BR2.ee hb;have BX3:=BX2.ee hb;have hw3:=(upB hw2 hb);clear hb y0 y1 y2 y3 z0 z1 z2 z3 u0 u1 u2 u3 BP2 BR2 BX2 hw2;obtain ⟨y0,y1,y2,y3⟩:=BP3.f;obtain ⟨z0,z1,z2,z3⟩:=BR3.f;obtain ⟨u0,u1,u2,u3⟩:=BX3.f;go_wp2
       go_roundw
       case rel=>exact ⟨k+1,hlt,by go_num,HF,hw3,BP3,BR3⟩
       case measure=>simp [intOf];omega
      | true=>
       have HE:Hi (onW p X=true):=hdd (by rw [Z0,e1,e2,e3,e4];rfl);rw [e3] at c1;rw [e4] at c2;clear e3 e4;have HP:=hdd BP;have HR:=hdd BR;have HW:=hdd hwr;go_wp2_with fail;refine zG λW2 hW=>?_;have BP2:Box W2 w [p.x,p.y] 26:=by rw [hW];exact HP.o.old _
       have BR2:Box W2 (w+1) [(),(),(),(),()] 57:=by rw [hW];exact HR.o.old _
       have BX2:Box W2 wr [X.A.x,X.A.y,X.B.x,X.B.y,X.K] 57:=by rw [hW];exact Box.new rfl
       have hw2:Below w w W2:=by have hl:=hwr.size;rw [hW];go_grown
       clear hW BP BR hwr y0 y1 y2 y3 z0 z1 z2 z3 u0 u1 u2 u3 u4 u5 hA;refine (c1 W2).mono ?_;rintro e w3 ⟨rfl,hb⟩;have l1:w.heap.size+1 < wr.heap.size:=HR.o.lt;replace BP2:=BP2.ee hb;replace BR2:=BR2.ee hb;replace BX2:=BX2.ee hb;replace hw2:=upB hw2 hb;clear hb;obtain ⟨y0,y1,y2,y3⟩:=BP2.f;obtain ⟨z0,z1,z2,z3⟩:=BR2.f;obtain ⟨u0,u1,u2,u3⟩:=BX2.f;go_wp2_with fail;refine (c2 w3).mono ?_;rintro e w4 ⟨rfl,hb⟩;have BP3:=BP2.ee hb;have BR3:=BR2.ee hb;have BX3:=BX2.ee hb;have hw3:=(upB hw2 hb);clear hb y0 y1 y2 y3 z0 z1 z2 z3 u0 u1 u2 u3 BP2 BR2 BX2 hw2;obtain ⟨y0,y1,y2,y3⟩:=BP3.f;obtain ⟨z0,z1,z2,z3⟩:=BR3.f;obtain ⟨u0,u1,u2,u3⟩:=BX3.f;have HF:Hi (L2.find? (onW p)=some X):=hdd (by
        rw [JG];refine ⟨HE.o,L2.take k,L2.drop (k+1),?_,λx hx=>by have:=Xb.1 HI.o x hx;simpa using this⟩;rw [<-KH,<-Yp,<-HT.o,X9])
       clear HE HT HI;go_wp2_with fail;refine bodyPost_ret (v:=.tuple #[.agg #[X.A.x,X.A.y,X.B.x,X.B.y,X.K],.bool true]) (by simp [results,results83,go_sem,z0]) rfl ⟨?_,by have hl:=hw3.size;go_grown⟩;rw [HF.o];rfl
  ·obtain rfl:k=m:=by omega
   have HF:Hi (L2.find? (onW p)=none):=hdd (by rw [<-HI.o,X5 (by rw [HM.o];omega)]);clear HI;obtain ⟨z0,z1,z2,z3⟩:=BR.f;go_wp2_with fail;refine bodyPost_ret (v:=.tuple #[.agg #[(),(),(),(),()],.bool false]) (by simp [results,results83,go_sem,z0]) rfl ⟨?_,by have hl:=hwr.size;go_grown⟩;rw [HF.o];rfl
structure DocRd (w:World) (db:Nat) (a0:Option Addr) (c n:Nat) (L:List Wl):Prop where
 box:Box w db [.slice a0 n c] 51
 row:RowAt cW 5 w a0 L
 len:L.length=n
 le:L.length<=1000000
 nc:n<=c
 flat:Flat a0
theorem DocRd.ext {w w':World} {db c n m:Nat} {a0:Option Addr} {L:List Wl} (S:DocRd w db a0 c n L) (hb:Below m w w') (hm:m=w.heap.size):DocRd w' db a0 c n L:=
 ⟨S.box.ext hb hm,S.row.ext hb hm,S.len,S.le,S.nc,S.flat⟩
theorem DocRd.ee {w w':World} {db c n:Nat} {a0:Option Addr} {L:List Wl} (S:DocRd w db a0 c n L) (hb:Below w w w'):DocRd w' db a0 c n L:=S.ext hb rfl
def isE (p q:Pt) (x:Wl):Bool:=(decide (x.A=p) && decide (x.B=q)) || (decide (x.A=q) && decide (x.B=p))
theorem uE (p q:Pt) (x:Wl):isE p q x=((peqI x.A.x x.A.y p.x p.y && peqI x.B.x x.B.y q.x q.y) || (peqI x.A.x x.A.y q.x q.y && peqI x.B.x x.B.y p.x p.y)):=by rw [ze,ze,ze,ze];rfl
def kindD (L:List Wl) (p q:Pt):Int:=match L.find? (isE p q) with | some x=>x.K | none=>0
theorem ZO {p:Wl->Bool} {L:List Wl} {k:Nat} (hk:k < L.length) (h0:(L.take k).find? p=none) (h1:p L[k]=true):L.find? p=some L[k]:=by
 refine JG.2 ⟨h1,L.take k,L.drop (k+1),?_,λy hy=>?_⟩
 ·rw [Ko hk,X9]
 ·simpa using Xb.1 h0 y hy
theorem kB {p:Wl->Bool} {L:List Wl} {k:Nat} (hk:k < L.length) (h0:(L.take k).find? p=none) (h1:p L[k]=false):(L.take (k+1)).find? p=none:=by
 rw [Yv hk,JE,h0,Kp (by rw [h1];simp)];rfl
theorem find_all {p:Wl->Bool} {L:List Wl} (h0:(L.take L.length).find? p=none):L.find? p=none:=by rwa [X5 (Yq _)] at h0
theorem k6 (db:Nat) (a0:Option Addr) (c n:Nat) (L:List Wl) (a b:Pt) (w:World) (D:DocRd w db a0 c n L):Calls prog 138 #[pt0 db,a,b] w (Rt w (.int .i64 (kindD L a b))):=by
 have hdb:=D.box.lt;have HM:=hdd D.len;have hn:n<=1000000:=D.len▸D.le;have HD:=hdd D;clear D
 go_enter func138,ntmps138
 go_wp2;refine z7 λW1 hW=>?_;have BA:Box W1 w [a.x,a.y] 26:=by rw [hW];exact (Box.new rfl).old _
 have BB:Box W1 (w+1) [b.x,b.y] 26:=by rw [hW];exact Box.new (by simp)
 have hw:Below w w W1:=by rw [hW];go_grown
 clear hW
 go_loopw [7] (λvi wr=>∃ k:Nat,k<=n/\vi=.int .i64 k/\Hi ((L.take k).find? (isE a b)=none)/\Below w w wr/\Box wr w [a.x,a.y] 26/\Box wr (w+1) [b.x,b.y] 26) (λvi _=>n - (intOf vi).toNat)
 case atStart=>exact ⟨0,XZ _,rfl,hdd rfl,hw,BA,BB⟩
 case round=>
  clear BA BB hw;obtain ⟨k,hk,rfl,HF,hwr,BA,BB⟩:=hrel;have BD:=(HD.o.ee hwr).box;by_cases hlt:k < n
  ·have hkL:k < L.length:=by rw [HM.o];exact hlt
   obtain ⟨ad,A,ea,eA,hA⟩:=(HD.o.ee hwr).row.five (j:=k) hkL;have HX:Hi (L[k]=L[k]):=hdd rfl;generalize hX:L[k]=X at hA HX
   clear HX;have HX:=hdd hX;clear hX;obtain ⟨u0,u1,u2,u3,u4,u5⟩:=hA.f;obtain ⟨y0,y1,y2,y3⟩:=BA.f;obtain ⟨z0,z1,z2,z3⟩:=BB.f;obtain ⟨d0,d1,d2,d3⟩:=BD.f;subst ea;clear hA;cases e1:peqI X.A.x X.A.y a.x a.y with
   | true=>
    cases e2:peqI X.B.x X.B.y b.x b.y with
    | true=>
     have HE:Hi (isE a b X=true):=hdd (by rw [uE,e1,e2];first | rfl | simp);have HK:Hi (kindD L a b=X.K):=hdd (by unfold kindD;rw [ZO hkL HF.o (by rw [HX.o];exact HE.o)];show L[k].K=_;rw [HX.o]);have HW:=hdd hwr;clear HE HF HX hwr;go_wp2
     go_quiet (fail)
     go_wp2
     go_ret
     exact ⟨zW HK.o.symm,HW.o.trans ⟨rfl,rfl,rfl,Yq _,λ_ _=>rfl⟩⟩
    | false=>
     cases e3:peqI X.A.x X.A.y b.x b.y with
     | true=>
      cases e4:peqI X.B.x X.B.y a.x a.y with
      | true=>
       have HE:Hi (isE a b X=true):=hdd (by rw [uE,e1,e2,e3,e4];first | rfl | simp);have HK:Hi (kindD L a b=X.K):=hdd (by unfold kindD;rw [ZO hkL HF.o (by rw [HX.o];exact HE.o)];show L[k].K=_;rw [HX.o]);have HW:=hdd hwr;clear HE HF HX hwr;go_wp2
       go_quiet (fail)
       go_wp2
       go_ret
       exact ⟨zW HK.o.symm,HW.o.trans ⟨rfl,rfl,rfl,Yq _,λ_ _=>rfl⟩⟩
      | false=>
       have HE:Hi (isE a b X=false):=hdd (by rw [uE,e1,e2,e3,e4];first | rfl | simp);have HG:Hi ((L.take (k+1)).find? (isE a b)=none):=hdd (kB hkL HF.o (by rw [HX.o];exact HE.o));have HW:=hdd hwr;have HA:=hdd BA;have HB:=hdd BB;clear HE HF HX hwr BA BB;go_wp2
       go_quiet (fail)
       go_wp2
       go_roundw
       case rel=>exact ⟨k+1,hlt,by go_num,HG,HW.o.trans ⟨rfl,rfl,rfl,Yq _,λ_ _=>rfl⟩,by first | exact HA.o | exact HA.o.drew,by first | exact HB.o | exact HB.o.drew⟩
       case measure=>simp [intOf];omega
     | false=>
      have HE:Hi (isE a b X=false):=hdd (by rw [uE,e1,e2,e3];first | rfl | simp);have HG:Hi ((L.take (k+1)).find? (isE a b)=none):=hdd (kB hkL HF.o (by rw [HX.o];exact HE.o));have HW:=hdd hwr;have HA:=hdd BA;have HB:=hdd BB;clear HE HF HX hwr BA BB;go_wp2
      go_quiet (fail)
      go_wp2
      go_roundw
      case rel=>exact ⟨k+1,hlt,by go_num,HG,HW.o.trans ⟨rfl,rfl,rfl,Yq _,λ_ _=>rfl⟩,by first | exact HA.o | exact HA.o.drew,by first | exact HB.o | exact HB.o.drew⟩
      case measure=>simp [intOf];omega
   | false=>
    cases e3:peqI X.A.x X.A.y b.x b.y with
    | true=>
     cases e4:peqI X.B.x X.B.y a.x a.y with
     | true=>
      have HE:Hi (isE a b X=true):=hdd (by rw [uE,e1,e3,e4];first | rfl | simp);have HK:Hi (kindD L a b=X.K):=hdd (by unfold kindD;rw [ZO hkL HF.o (by rw [HX.o];exact HE.o)];show L[k].K=_;rw [HX.o]);have HW:=hdd hwr;clear HE HF HX hwr;go_wp2
      go_quiet (fail)
      go_wp2
      go_ret
      exact ⟨zW HK.o.symm,HW.o.trans ⟨rfl,rfl,rfl,Yq _,λ_ _=>rfl⟩⟩
     | false=>
      have HE:Hi (isE a b X=false):=hdd (by rw [uE,e1,e3,e4];first | rfl | simp);have HG:Hi ((L.take (k+1)).find? (isE a b)=none):=hdd (kB hkL HF.o (by rw [HX.o];exact HE.o));have HW:=hdd hwr;have HA:=hdd BA;have HB:=hdd BB;clear HE HF HX hwr BA BB;go_wp2
      go_quiet (fail)
      go_wp2
      go_roundw
      case rel=>exact ⟨k+1,hlt,by go_num,HG,HW.o.trans ⟨rfl,rfl,rfl,Yq _,λ_ _=>rfl⟩,by first | exact HA.o | exact HA.o.drew,by first | exact HB.o | exact HB.o.drew⟩
      case measure=>simp [intOf];omega
    | false=>
     have HE:Hi (isE a b X=false):=hdd (by rw [uE,e1,e3];first | rfl | simp);have HG:Hi ((L.take (k+1)).find? (isE a b)=none):=hdd (kB hkL HF.o (by rw [HX.o];exact HE.o));have HW:=hdd hwr;have HA:=hdd BA;have HB:=hdd BB;clear HE HF HX hwr BA BB;go_wp2
     go_quiet (fail)
     go_wp2
     go_roundw
     case rel=>exact ⟨k+1,hlt,by go_num,HG,HW.o.trans ⟨rfl,rfl,rfl,Yq _,λ_ _=>rfl⟩,by first | exact HA.o | exact HA.o.drew,by first | exact HB.o | exact HB.o.drew⟩
     case measure=>simp [intOf];omega
  ·obtain rfl:k=n:=by omega
   have hK:kindD L a b=0:=by
    unfold kindD;rw [find_all (by rw [HM.o];exact HF.o)]
   obtain ⟨d0,d1,d2,d3⟩:=BD.f;have HK:=hdd hK;clear hK;go_wp2
   go_ret
   exact ⟨zW HK.o.symm,hwr⟩
end
section
open Go.RowKit Go.Sort
attribute [local go_sem] rOper rAt rUpon cell_set sg_i64 sg_u64 alloc_cell alloc_frozen
attribute [local go_sem 10000] pt_eql pt_neq tri_eql
attribute [local irreducible] rWalk
def badD (E:Es) (D:List Wl) (p q:Pt):Bool:=(lftE E p q).2 && ((lftE E q p).2 && (decide (kindD D p q=0) && decide (circ (lftE E p q).1.A (lftE E p q).1.B (lftE E p q).1.C (apx (lftE E q p).1 p q)=1)))
theorem rbad_a (mb b db:Nat) (a0:Option Addr) (c n:Nat) (E:Es) (D:List Wl) (p q:Pt) (hk:okW (p,q)) (X Y:Tri3) (h1:lftE E p q=(X,false)) (v2:Bool) (h2:lftE E q p=(Y,v2)) (w:World) (Bm:Box w mb [.map (some b)] 93) (Hm:Hs w b E) (Dw:DocRd w db a0 c n D):Calls prog 93 #[pt0 mb,pt0 db,p,q] w (Rt w (.bool false)):=by
 have cl:=yF mb b E p q hk;have cl':=yF mb b E q p ⟨hk.2,hk.1⟩;have ck:=k6 db a0 c n D p q;have cf:=j0 Y p q;have cc:=λz=>xk X.A X.B X.C z;rw [h1] at cl;rw [h2] at cl';clear h1 h2 hk;generalize kindD D p q=k at *
 generalize apx Y p q=z at *
 replace cc:=cc z;generalize circ X.A X.B X.C z=ci at *
 go_enter func93,ntmps93
 go_wp2_with fail;refine qE2 λW1 Ba Bb hw=>?_;refine qC2 (cl _ (Bm.ee hw) (Hm.ee hw)) Ba Bb hw λw2 Ba Bb hw Gq=>?_;go_wp2_with fail;clear Gq;refine zG λW3 hW=>?_;obtain ⟨bkx,hbx⟩:∃ b,w2.heap.size=b:=⟨_,rfl⟩;rw [hbx];obtain ⟨lax,lbx,fx,Bx,Ba,Bb,hw⟩:=qM2 hW hbx Ba Bb hw;clear hW hbx;refine qC3 (cl' _ (Bm.ee hw) (Hm.ee hw)) Ba Bb Bx hw λw4 Ba Bb Bx hw GZ=>?_;go_wp2_with fail;clear GZ;refine z7 λW5 hW=>?_;obtain ⟨bky,hby⟩:∃ b,w4.heap.size=b:=⟨_,rfl⟩;rw [hby];obtain ⟨lay,lby,lxy,fy,By,Ba,Bb,Bx,hw⟩:=qM3 hW hby Ba Bb Bx hw;clear hW hby;have d1:∀ d os,Calls prog 138 #[pt0 db,p,q] (grow (redrawn W5 d) os) λe w'=>e=.returned (.int .i64 k)/\Below (grow (redrawn W5 d) os).heap.size (grow (redrawn W5 d) os) w':=λd os=>ck _ ((Dw.ee hw).ext (below_regrown W5 d os) rfl);clear cl cl' ck Bm Hm Dw;have GY:=J4 Ba.cells Bb.cells Bx.cells By.cells;refine wrt 25 (by kernel_rfl) (by kernel_rfl) ?_;simp only [tK1,tK0,dP1,dP0];refine wkx ?_;intro w6 hb;clear GY;obtain ⟨Ba,Bb,Bx,By,hw,Kv⟩:=qX4 Ba Bb Bx By hw hb;go_wp2
 go_ret
 exact ⟨rfl,hw⟩
theorem rbad_b (mb b db:Nat) (a0:Option Addr) (c n:Nat) (E:Es) (D:List Wl) (p q:Pt) (hk:okW (p,q)) (X Y:Tri3) (h1:lftE E p q=(X,true)) (h2:lftE E q p=(Y,false)) (w:World) (Bm:Box w mb [.map (some b)] 93) (Hm:Hs w b E) (Dw:DocRd w db a0 c n D):Calls prog 93 #[pt0 mb,pt0 db,p,q] w (Rt w (.bool false)):=by
 have cl:=yF mb b E p q hk;have cl':=yF mb b E q p ⟨hk.2,hk.1⟩;have ck:=k6 db a0 c n D p q;have cf:=j0 Y p q;have cc:=λz=>xk X.A X.B X.C z;rw [h1] at cl;rw [h2] at cl';clear h1 h2 hk;generalize kindD D p q=k at *
 generalize apx Y p q=z at *
 replace cc:=cc z;generalize circ X.A X.B X.C z=ci at *
 go_enter func93,ntmps93
 go_wp2_with fail;refine qE2 λW1 Ba Bb hw=>?_;refine qC2 (cl _ (Bm.ee hw) (Hm.ee hw)) Ba Bb hw λw2 Ba Bb hw Gq=>?_;go_wp2_with fail;clear Gq;refine zG λW3 hW=>?_;obtain ⟨bkx,hbx⟩:∃ b,w2.heap.size=b:=⟨_,rfl⟩;rw [hbx];obtain ⟨lax,lbx,fx,Bx,Ba,Bb,hw⟩:=qM2 hW hbx Ba Bb hw;clear hW hbx;refine qC3 (cl' _ (Bm.ee hw) (Hm.ee hw)) Ba Bb Bx hw λw4 Ba Bb Bx hw GZ=>?_;go_wp2_with fail;clear GZ;refine z7 λW5 hW=>?_;obtain ⟨bky,hby⟩:∃ b,w4.heap.size=b:=⟨_,rfl⟩;rw [hby];obtain ⟨lay,lby,lxy,fy,By,Ba,Bb,Bx,hw⟩:=qM3 hW hby Ba Bb Bx hw;clear hW hby;have d1:∀ d os,Calls prog 138 #[pt0 db,p,q] (grow (redrawn W5 d) os) λe w'=>e=.returned (.int .i64 k)/\Below (grow (redrawn W5 d) os).heap.size (grow (redrawn W5 d) os) w':=λd os=>ck _ ((Dw.ee hw).ext (below_regrown W5 d os) rfl);clear cl cl' ck Bm Hm Dw;have GY:=J4 Ba.cells Bb.cells Bx.cells By.cells;refine wrt 25 (by kernel_rfl) (by kernel_rfl) ?_;simp only [tK1,tK0,dP1,dP0];refine wkx ?_;intro w6 hb;clear GY;obtain ⟨Ba,Bb,Bx,By,hw,Kv⟩:=qX4 Ba Bb Bx By hw hb;go_wp2
 go_ret
 exact ⟨rfl,hw⟩
theorem rbad_c (mb b db:Nat) (a0:Option Addr) (c n:Nat) (E:Es) (D:List Wl) (p q:Pt) (hk:okW (p,q)) (X Y:Tri3) (h1:lftE E p q=(X,true)) (h2:lftE E q p=(Y,true)) (h3:decide (kindD D p q=0)=false) (w:World) (Bm:Box w mb [.map (some b)] 93) (Hm:Hs w b E) (Dw:DocRd w db a0 c n D):Calls prog 93 #[pt0 mb,pt0 db,p,q] w (Rt w (.bool false)):=by
 have cl:=yF mb b E p q hk;have cl':=yF mb b E q p ⟨hk.2,hk.1⟩;have ck:=k6 db a0 c n D p q;have cf:=j0 Y p q;have cc:=λz=>xk X.A X.B X.C z;rw [h1] at cl;rw [h2] at cl';clear h1 h2 hk;generalize kindD D p q=k at *
 generalize apx Y p q=z at *
 replace cc:=cc z;generalize circ X.A X.B X.C z=ci at *
 have h3:(k == 0)=false:=by simpa using h3
 go_enter func93,ntmps93
 go_wp2_with fail;refine qE2 λW1 Ba Bb hw=>?_;refine qC2 (cl _ (Bm.ee hw) (Hm.ee hw)) Ba Bb hw λw2 Ba Bb hw Gq=>?_;go_wp2_with fail;clear Gq;refine zG λW3 hW=>?_;obtain ⟨bkx,hbx⟩:∃ b,w2.heap.size=b:=⟨_,rfl⟩;rw [hbx];obtain ⟨lax,lbx,fx,Bx,Ba,Bb,hw⟩:=qM2 hW hbx Ba Bb hw;clear hW hbx;refine qC3 (cl' _ (Bm.ee hw) (Hm.ee hw)) Ba Bb Bx hw λw4 Ba Bb Bx hw GZ=>?_;go_wp2_with fail;clear GZ;refine z7 λW5 hW=>?_;obtain ⟨bky,hby⟩:∃ b,w4.heap.size=b:=⟨_,rfl⟩;rw [hby];obtain ⟨lay,lby,lxy,fy,By,Ba,Bb,Bx,hw⟩:=qM3 hW hby Ba Bb Bx hw;clear hW hby;have d1:∀ d os,Calls prog 138 #[pt0 db,p,q] (grow (redrawn W5 d) os) λe w'=>e=.returned (.int .i64 k)/\Below (grow (redrawn W5 d) os).heap.size (grow (redrawn W5 d) os) w':=λd os=>ck _ ((Dw.ee hw).ext (below_regrown W5 d os) rfl);clear cl cl' ck Bm Hm Dw;have GY:=J4 Ba.cells Bb.cells Bx.cells By.cells;refine wrt 25 (by kernel_rfl) (by kernel_rfl) ?_;simp only [tK1,tK0,dP1,dP0];refine wkx ?_;intro w6 hb;clear GY;obtain ⟨Ba,Bb,Bx,By,hw,Kv⟩:=qX4 Ba Bb Bx By hw hb;go_wp2
 go_ret
 exact ⟨rfl,hw⟩
theorem rbad_d (mb b db:Nat) (a0:Option Addr) (c n:Nat) (E:Es) (D:List Wl) (p q:Pt) (hk:okW (p,q)) (X Y:Tri3) (h1:lftE E p q=(X,true)) (h2:lftE E q p=(Y,true)) (h3:kindD D p q=0) (w:World) (Bm:Box w mb [.map (some b)] 93) (Hm:Hs w b E) (Dw:DocRd w db a0 c n D):Calls prog 93 #[pt0 mb,pt0 db,p,q] w (Rt w (.bool (circ X.A X.B X.C (apx Y p q) == 1))):=by
 have cl:=yF mb b E p q hk;have cl':=yF mb b E q p ⟨hk.2,hk.1⟩;have ck:=k6 db a0 c n D p q;have cf:=j0 Y p q;have cc:=λz=>xk X.A X.B X.C z;rw [h1] at cl;rw [h2] at cl';clear h1 h2 hk;generalize kindD D p q=k at *
 generalize apx Y p q=z at *
 replace cc:=cc z;generalize circ X.A X.B X.C z=ci at *
 subst h3
 go_enter func93,ntmps93
 go_wp2_with fail;refine qE2 λW1 Ba Bb hw=>?_;refine qC2 (cl _ (Bm.ee hw) (Hm.ee hw)) Ba Bb hw λw2 Ba Bb hw Gq=>?_;go_wp2_with fail;clear Gq;refine zG λW3 hW=>?_;obtain ⟨bkx,hbx⟩:∃ b,w2.heap.size=b:=⟨_,rfl⟩;rw [hbx];obtain ⟨lax,lbx,fx,Bx,Ba,Bb,hw⟩:=qM2 hW hbx Ba Bb hw;clear hW hbx;refine qC3 (cl' _ (Bm.ee hw) (Hm.ee hw)) Ba Bb Bx hw λw4 Ba Bb Bx hw GZ=>?_;go_wp2_with fail;clear GZ;refine z7 λW5 hW=>?_;obtain ⟨bky,hby⟩:∃ b,w4.heap.size=b:=⟨_,rfl⟩;rw [hby];obtain ⟨lay,lby,lxy,fy,By,Ba,Bb,Bx,hw⟩:=qM3 hW hby Ba Bb Bx hw;clear hW hby;have d1:∀ d os,Calls prog 138 #[pt0 db,p,q] (grow (redrawn W5 d) os) λe w'=>e=.returned (.int .i64 0)/\Below (grow (redrawn W5 d) os).heap.size (grow (redrawn W5 d) os) w':=λd os=>ck _ ((Dw.ee hw).ext (below_regrown W5 d os) rfl);clear cl cl' ck Bm Hm Dw;have GY:=J4 Ba.cells Bb.cells Bx.cells By.cells;refine wrt 25 (by kernel_rfl) (by kernel_rfl) ?_;simp only [tK1,tK0,dP1,dP0];refine wkx ?_;intro w6 hb;clear GY;obtain ⟨Ba,Bb,Bx,By,hw,Kv⟩:=qX4 Ba Bb Bx By hw hb;go_wp2
 go_ret
 exact ⟨rfl,hw⟩
theorem tr (mb b db:Nat) (a0:Option Addr) (c n:Nat) (E:Es) (D:List Wl) (p q:Pt) (hk:okW (p,q)) (w:World) (Bm:Box w mb [.map (some b)] 93) (Hm:Hs w b E) (Dw:DocRd w db a0 c n D):Calls prog 93 #[pt0 mb,pt0 db,p,q] w (Rt w (.bool (badD E D p q))):=by
 unfold badD;cases h1:lftE E p q with
 | mk X v1=>
  cases h2:lftE E q p with
  | mk Y v2=>
   cases v1 with
   | false=>exact rbad_a mb b db a0 c n E D p q hk X Y h1 v2 h2 w Bm Hm Dw
   | true=>
    cases v2 with
    | false=>exact rbad_b mb b db a0 c n E D p q hk X Y h1 h2 w Bm Hm Dw
    | true=>
     by_cases h3:kindD D p q=0
     ·have k:=rbad_d mb b db a0 c n E D p q hk X Y h1 h2 h3 w Bm Hm Dw;have e:(circ X.A X.B X.C (apx Y p q) == 1)=decide (circ X.A X.B X.C (apx Y p q)=1):=rfl;rw [e] at k
      simpa [h3] using k
     ·simpa [h3] using rbad_c mb b db a0 c n E D p q hk X Y h1 h2 (by simpa using h3) w Bm Hm Dw
def yes:Tri3->Bool:=λ_=>true
theorem rtris_cap (mb b:Nat) (E:Es) (hE:E.length<=1000000) (w:World) (Bm:Box w mb [.map (some b)] 93) (Hm:Hs w b E):Calls prog 18 #[pt0 mb] w λe w'=>∃ a cap,e=.returned (.slice a (srt cmpT (heads (λ_=>true) E)).length cap)/\(srt cmpT (heads (λ_=>true) E)).length<=cap/\RowAt cT 6 w' a (srt cmpT (heads (λ_=>true) E))/\Below w w w':=by
 show Calls prog 18 #[pt0 mb] w λe w'=>∃ a cap,e=.returned (.slice a (srt cmpT (heads yes E)).length cap)/\(srt cmpT (heads yes E)).length<=cap/\RowAt cT 6 w' a (srt cmpT (heads yes E))/\Below w w w';have Fm:=Bm.f
 go_enter func18,ntmps18
 go_wp2_with (at_range;refine yg _ rfl _ rfl kvR rfl Hm ?_)
 intro w0 HR0 hw0 _;clear Fm;go_wp2
 go_loopw [3] (λv wr=>∃ D R:Es,Hi ((D ++ R).Perm E)/\wr.ownsRow w.heap.size 28 6 v (heads yes D).length ((heads yes D).flatMap cT)/\Ranging eW eT okW wr b w.heap.size E R/\Below w w wr) (λ_ wr=>wr.rangeLeft b w.heap.size)
 case atStart=>exact ⟨[],E,hdd (by simp),World.ownsRow_nil _ _ _ _,HR0,hw0⟩
 case round=>
  clear HR0 hw0;obtain ⟨D,R,hD,hown,HR,hw⟩:=hrel;go_wp2_with (at_next;refine x9 _ rfl _ rfl rfl HR ?_ ?_)
  ·intro hR;subst hR;have hp0:(heads yes D).Perm (heads yes E):=xY (by simpa using hD.o);have hle:(heads yes D).length<=1000000:=by have:=hp0.length_eq;have:=yo yes E;omega
   have HS:=hdd (wholeT.srt_of_perm hp0);obtain ⟨a1,c1,rfl,hc1,hr1⟩:=qI kg hown;have hlen:=hdd (show (heads yes D).length=(srt cmpT (heads yes E)).length by rw [<-HS.o];exact (zd _).length_eq.symm);go_wp2_with fail;refine (rsortT_cap _ _ _ _ (hdd rfl) hle hc1 _ hr1).mono ?_;rintro e w2 ⟨a,cap,rfl,hcc,hr,hb⟩;go_wp2
   go_ret
   rw [HS.o] at hr;exact ⟨a,cap,by rw [hlen.o];rfl,hlen.o▸hcc,hr,(upB hw hb)⟩
  ·intro u x T R' w1 hperm HR1 hg1 hs1 hen;have hD2:=hdd (show ((D ++ [((u,x),T)]) ++ R').Perm E by have:=(hperm.append_left D).symm.trans hD.o;simpa using this);have own1:=hown.kept hg1 (.inr (λe=>yM hown HR e.symm));have hw1:=hw.grown hg1 hw.size (λk hk=>by cases hk;exact Yq _);have HL:=hdd (show w1.rangeLeft b w.heap.size < wr.rangeLeft b w.heap.size by rw [zp HR1,zp HR,hperm.length_eq];simp);have hen2:(Instr.entry (.pointer (some ⟨w,0,none⟩))).run prog w1=.ok (.tuple #[.agg #[u.x,u.y,x.x,x.y],T]) w1:=hen;have hle:(heads yes D).length<=1000000:=by have:=hD2.o.length_eq;have:=yo yes D;simp at *;omega
   clear hown HR hg1 hs1 hen hperm hw;have hnx:Hi (∀ W:World,Below w1 w1 W->(W.rangeLeft b w.heap.size < wr.rangeLeft b w.heap.size)):=hdd (λW hW=>by
    rw [zp (HR1.ee hW),<-zp HR1];exact HL.o)
   by_cases hA:u=T.A
   ·have hd:peqI u.x u.y T.A.x T.A.y=true:=qs.2 hA;have HH:=hdd (show heads yes (D ++ [((u,x),T)])=heads yes D ++ [T] by rw [zo,jQ hA rfl]);have HB:=hdd hw1.size;have hb3:Below w1 w1 ((w1.alloc (.cells #[u.x,u.y,x.x,x.y] 95)).alloc (.cells (cT T).toArray 28)):=by go_grown
    have own3:=(own1.alloc (.cells #[u.x,u.y,x.x,x.y] 95)).alloc (.cells (cT T).toArray 28);have HO3:=hdd own3;clear hA;go_wp2_with (at_builtin;refine yR rfl _ _ rfl w.heap.size _ (heads yes D) rfl (own3.alloc _) (w1.heap.size+1+1) T rfl (Box.new (by simp)) hle (by have:=HB.o;simp;omega) ?_;intro w4 v4 hown4 hg4)
    have hR3:=(HR1.ee hb3).kept (World.grownBy_alloc _ (.cells (cT T).toArray 28) none) (by simp) (by simp);have hR4:=hR3.kept hg4 (yP (own3.alloc _) hR3.holds) (yM (own3.alloc _) hR3);have hw4:=((((upB hw1 hb3)).alloc (by have:=HB.o;simp;omega) (.cells (cT T).toArray 28))).grown hg4 (by have:=HB.o;simp;omega) (λk hk=>((own3.alloc (.cells (cT T).toArray 28)).lt k hk).1)
    go_roundw
    case rel=>exact ⟨D ++ [((u,x),T)],R',hD2,by rw [HH.o];exact hown4,hR4,hw4⟩
    case measure=>rw [zp hR4,<-zp HR1];exact HL.o
   ·have hd:peqI u.x u.y T.A.x T.A.y=false:=by rw [<-KD,qs];exact hA
    have HH:=hdd (show heads yes (D ++ [((u,x),T)])=heads yes D by rw [zo,kQ (by simp [hA])];simp);clear hA;go_wp2
    go_roundw
    case rel=>exact ⟨D ++ [((u,x),T)],R',hD2,by rw [HH.o];exact (own1.alloc _).alloc _,HR1.ext (by go_grown) rfl,by have:=hw1.size;go_grown⟩
    case measure=>exact hnx.o _ (by go_grown)
theorem rtris_any (mb b:Nat) (E:Es) (hE:E.length<=1000000) (w:World) (Bm:Box w mb [.map (some b)] 93) (Hm:Hs w b E):Calls prog 18 #[pt0 mb] w λe w'=>∃ a cap,e=.returned (.slice a (srt cmpT (heads (λ_=>true) E)).length cap)/\RowAt cT 6 w' a (srt cmpT (heads (λ_=>true) E))/\Below w w w':=
 (rtris_cap mb b E hE w Bm Hm).mono λ_ _ h=>by
  obtain ⟨a,cap,h1,_,h2⟩:=h;exact ⟨a,cap,h1,h2⟩
theorem kK {w w':World} {B k:Nat} {T:TypeId} {v:Value} {n:Nat} {xs:List Value} (h:w.ownsRow B T k v n xs) (hb:Below w w w'):w'.ownsRow B T k v n xs:=
 h.kept (zK hb none) (by cases v.ownBlock <;> simp)
theorem Box.grown2 {w w':World} {x:Nat} {cs:List Value} {T:TypeId} {r:Option Nat} (h:Box w x cs T) (hg:w.grownBy w' r) (hr:∀ k,r=some k->x < k):Box w' x cs T:=by
 have hl:=h.lt;unfold Box at *;rw [hg.block x hl (λe=>by have:=hr x e.symm;omega)];exact h
theorem Box.grown1 {w w':World} {x r:Nat} {cs:List Value} {T:TypeId} (h:Box w x cs T) (hg:w.grownBy w' (some r)) (hr:x < r:=by omega):Box w' x cs T:=h.grown2 hg (λk hk=>by cases hk;exact hr)
end
section
open Go.RowKit Go.Sort
attribute [local go_sem] rOper rAt rUpon cell_set sg_i64 sg_u64 alloc_cell alloc_frozen
attribute [local go_sem 10000] pt_eql pt_neq wal_eql wal_neq
attribute [local irreducible] rWalk
theorem mw_a (a b:Pt) (k:Int) (ha:vld a=false) (w:World):Calls prog 71 #[a,b,k] w (Rt w (.tuple #[.agg #[(),(),(),(),()],.bool false])):=by
 have c1:=zM a;rw [ha] at c1;clear ha
 go_enter func71,ntmps71
 go_wp2_with fail;refine qE3 λW1 Ba Bb Br hw=>?_;refine qK3 (c1 _) Ba Bb Br hw λw2 Ba Bb Br hw=>?_;have Fa:=Ba.f;have Fb:=Bb.f;have Fr:=Br.f;go_wp2_with fail;refine bodyPost_ret (v:=.tuple #[.agg #[(),(),(),(),()],.bool false]) (by simp [results,results71,go_sem,Fr]) rfl ⟨rfl,by have hl:=hw.size;go_grown⟩
theorem mw_b (a b:Pt) (k:Int) (ha:vld a=true) (hb:vld b=false) (w:World):Calls prog 71 #[a,b,k] w (Rt w (.tuple #[.agg #[(),(),(),(),()],.bool false])):=by
 have c1:=zM a;rw [ha] at c1;have c2:=zM b;rw [hb] at c2;clear ha hb
 go_enter func71,ntmps71
 go_wp2_with fail;refine qE3 λW1 Ba Bb Br hw=>?_;refine qC3 (c1 _) Ba Bb Br hw λw2 Ba Bb Br hw FW=>?_;go_wp2_with fail;clear FW;refine qK3 (c2 _) Ba Bb Br hw λw3 Ba Bb Br hw=>?_;have Fa:=Ba.f;have Fb:=Bb.f;have Fr:=Br.f;go_wp2_with fail;refine bodyPost_ret (v:=.tuple #[.agg #[(),(),(),(),()],.bool false]) (by simp [results,results71,go_sem,Fr]) rfl ⟨rfl,by have hl:=hw.size;go_grown⟩
theorem mw_e (a b:Pt) (k:Int) (ha:vld a=true) (hb:vld b=true) (e:peqI a.x a.y b.x b.y=true) (w:World):Calls prog 71 #[a,b,k] w (Rt w (.tuple #[.agg #[(),(),(),(),()],.bool false])):=by
 have c1:=zM a;rw [ha] at c1;have c2:=zM b;rw [hb] at c2;clear ha hb
 go_enter func71,ntmps71
 go_wp2_with fail;refine qE3 λW1 Ba Bb Br hw=>?_;refine qC3 (c1 _) Ba Bb Br hw λw2 Ba Bb Br hw FW=>?_;go_wp2_with fail;clear FW;refine qK3 (c2 _) Ba Bb Br hw λw3 Ba Bb Br hw=>?_;have Fa:=Ba.f;have Fb:=Bb.f;have Fr:=Br.f;go_wp2_with fail;refine bodyPost_ret (v:=.tuple #[.agg #[(),(),(),(),()],.bool false]) (by simp [results,results71,go_sem,Fr]) rfl ⟨rfl,by have hl:=hw.size;go_grown⟩
theorem mw_k (a b:Pt) (k:Int) (ha:vld a=true) (hb:vld b=true) (e:peqI a.x a.y b.x b.y=false) (e1:(k != 1)=true) (e2:(k != 2)=true) (w:World):Calls prog 71 #[a,b,k] w (Rt w (.tuple #[.agg #[(),(),(),(),()],.bool false])):=by
 have c1:=zM a;rw [ha] at c1;have c2:=zM b;rw [hb] at c2;clear ha hb
 go_enter func71,ntmps71
 go_wp2_with fail;refine qE3 λW1 Ba Bb Br hw=>?_;refine qC3 (c1 _) Ba Bb Br hw λw2 Ba Bb Br hw FW=>?_;go_wp2_with fail;clear FW;refine qK3 (c2 _) Ba Bb Br hw λw3 Ba Bb Br hw=>?_;have Fa:=Ba.f;have Fb:=Bb.f;have Fr:=Br.f;go_wp2_with fail;refine bodyPost_ret (v:=.tuple #[.agg #[(),(),(),(),()],.bool false]) (by simp [results,results71,go_sem,Fr]) rfl ⟨rfl,by have hl:=hw.size;go_grown⟩
theorem mw_o1 (a b:Pt) (k:Int) (ha:vld a=true) (hb:vld b=true) (e:peqI a.x a.y b.x b.y=false) (e1:(k != 1)=false) (w:World):Calls prog 71 #[a,b,k] w (Rt w (.tuple #[.agg #[.int .i64 (rl a b).x,.int .i64 (rl a b).y,.int .i64 (rg a b).x,.int .i64 (rg a b).y,k],.bool true])):=by
 have c1:=zM a;rw [ha] at c1;have c2:=zM b;rw [hb] at c2;have c3:=rl_any a b;have c4:=rg_any a b;clear ha hb;generalize rl a b=p at *
 generalize rg a b=q at *
 go_enter func71,ntmps71
 go_wp2_with fail;refine qE3 λW1 Ba Bb Br hw=>?_;refine qC3 (c1 _) Ba Bb Br hw λw2 Ba Bb Br hw FW=>?_;go_wp2_with fail;clear FW;refine qK3 (c2 _) Ba Bb Br hw λw3 Ba Bb Br hw=>?_;have Fa:=Ba.f;have Fb:=Bb.f;have Fr:=Br.f;go_wp2_with fail;have Ku:=J3 Ba.cells Bb.cells Br.cells;refine rgn 8 (λw4 hb=>?_);clear Ku;clear Fa Fb Fr;obtain ⟨Ba,Bb,Br,hw,-⟩:=qX3 Ba Bb Br hw hb;have Fa:=Ba.f;have Fb:=Bb.f;have Fr:=Br.f;go_wp2_with fail;refine bodyPost_ret (v:=.tuple #[.agg #[p.x,p.y,q.x,q.y,k],.bool true]) (by simp [results,results71,go_sem,Fr]) rfl ⟨rfl,by have hl:=hw.size;go_grown⟩
theorem mw_o2 (a b:Pt) (k:Int) (ha:vld a=true) (hb:vld b=true) (e:peqI a.x a.y b.x b.y=false) (e1:(k != 1)=true) (e2:(k != 2)=false) (w:World):Calls prog 71 #[a,b,k] w (Rt w (.tuple #[.agg #[.int .i64 (rl a b).x,.int .i64 (rl a b).y,.int .i64 (rg a b).x,.int .i64 (rg a b).y,k],.bool true])):=by
 have c1:=zM a;rw [ha] at c1;have c2:=zM b;rw [hb] at c2;have c3:=rl_any a b;have c4:=rg_any a b;clear ha hb;generalize rl a b=p at *
 generalize rg a b=q at *
 go_enter func71,ntmps71
 go_wp2_with fail;refine qE3 λW1 Ba Bb Br hw=>?_;refine qC3 (c1 _) Ba Bb Br hw λw2 Ba Bb Br hw FW=>?_;go_wp2_with fail;clear FW;refine qK3 (c2 _) Ba Bb Br hw λw3 Ba Bb Br hw=>?_;have Fa:=Ba.f;have Fb:=Bb.f;have Fr:=Br.f;go_wp2_with fail;have Ku:=J3 Ba.cells Bb.cells Br.cells;refine rgn 8 (λw4 hb=>?_);clear Ku;clear Fa Fb Fr;obtain ⟨Ba,Bb,Br,hw,-⟩:=qX3 Ba Bb Br hw hb;have Fa:=Ba.f;have Fb:=Bb.f;have Fr:=Br.f;go_wp2_with fail;refine bodyPost_ret (v:=.tuple #[.agg #[p.x,p.y,q.x,q.y,k],.bool true]) (by simp [results,results71,go_sem,Fr]) rfl ⟨rfl,by have hl:=hw.size;go_grown⟩
theorem rl_lo {a b:Pt} (h:a≠b):rl a b=lo2 a b/\rg a b=hi2 a b:=by
 have h1:=zv a b;have h2:¬ cmpP a b=0:=λe=>h (zc.1 e);unfold rl rg lo2 hi2;constructor <;> (split <;> split <;> first | rfl | (exfalso;omega))
theorem uZ (a b:Pt) (k:Int) (w:World):Calls prog 71 #[a,b,k] w (Rt w (.tuple #[.agg #[.int .i64 (mkW a b k).A.x,.int .i64 (mkW a b k).A.y,.int .i64 (mkW a b k).B.x,.int .i64 (mkW a b k).B.y,.int .i64 (mkW a b k).K],.bool (mkOk a b k)])):=by
 have hz:∀ e,mkOk a b k=e->e=false->mkW a b k=⟨⟨0,0⟩,⟨0,0⟩,0⟩:=λe h1 h2=>by unfold mkW;rw [h1,h2];rfl
 cases ha:vld a with
 | false=>
  have h:mkOk a b k=false:=by unfold mkOk;rw [ha];simp
  rw [hz _ h rfl,h];exact mw_a a b k ha w
 | true=>
  cases hb:vld b with
  | false=>
   have h:mkOk a b k=false:=by unfold mkOk;rw [hb];simp
   rw [hz _ h rfl,h];exact mw_b a b k ha hb w
  | true=>
   cases e:peqI a.x a.y b.x b.y with
   | true=>
    have h:mkOk a b k=false:=by rw [ze] at e;unfold mkOk;rw [e];simp
    rw [hz _ h rfl,h];exact mw_e a b k ha hb e w
   | false=>
    have hab:a≠b:=by rw [ze] at e;simpa using e
    have h0:mkOk a b k=mkK k:=by rw [ze] at e;unfold mkOk;rw [e,ha,hb];simp
    have hy:mkOk a b k=true->mkW a b k=⟨rl a b,rg a b,k⟩:=λh=>by unfold mkW;rw [h,(rl_lo hab).1,(rl_lo hab).2];rfl
    cases e1:(k != 1) with
    | false=>
     have h:mkOk a b k=true:=by rw [h0];simp at e1;simp [mkK,e1]
     rw [hy h,h];exact mw_o1 a b k ha hb e e1 w
    | true=>
     cases e2:(k != 2) with
     | false=>
      have h:mkOk a b k=true:=by rw [h0];simp at e2;simp [mkK,e2]
      rw [hy h,h];exact mw_o2 a b k ha hb e e1 e2 w
     | true=>
      have h:mkOk a b k=false:=by rw [h0];simp at e1 e2;simp [mkK,e1,e2]
      rw [hz _ h rfl,h];exact mw_k a b k ha hb e e1 e2 w
section
open Go.Lib
theorem grownBy_drew {w W:World} {r:Option Nat} (h:w.grownBy W r):w.grownBy W.drew r:=⟨h.1,h.2,h.3,h.4,h.5⟩
theorem info_wall5:(prog.info? 57).map (·.size)=some 5:=by kernel_rfl
theorem ji {w:World} (ty:TypeId) (g o dLen dCap:Nat) (a:Addr) (sLen sCap:Nat) (C cs:List Value) (T:TypeId) (hg:Box w g C T) (hn:cs.length=Nat.min sLen dLen * 5) (hsrc:∀ j v,cs[j]? = some v->w.cell? (a.add j)=some v) (hfit:o+cs.length<=C.length) (h1:∀ v∈cs,v.oneCell'=true):(Builtin.copy_ #[48,48] ty #[.slice (some ⟨g,o,none⟩) dLen dCap,.slice (some a) sLen sCap]).run prog w=.ok (goInt (Nat.min sLen dLen)) (w.setRow g (C.take o ++ cs ++ C.drop (o+cs.length)).toArray):=by
 have hl:=run_loadCells_list (P:=prog) w a cs hsrc;have hst:=run_storeCells_at prog g o T cs 0 C.toArray w hg (by simpa using hfit) h1;have hs:=info_wall5;cases hq:prog.info? 57 with
 | none=>simp [hq] at hs
 | some i=>
  have hi:i.size=5:=by simpa [hq] using hs
  simp only [Nat.add_zero] at hst;simp [Builtin.copy_,run_underlying underlying48,Builtin.lenOf,Builtin.firstCells,sizeOf,typeInfo,hq,hi,<-hn,hl,hst]
theorem Box.setRow {w:World} {g:Nat} {C D:List Value} {T:TypeId} (h:Box w g C T):Box (w.setRow g D.toArray) g D T:=setRow_heap w g _ _ T _ h
theorem uV {w:World} {g:Nat} {C:List Value} {T:TypeId} (h:Box w g C T):w.shape? g=some (T,C.length):=by
 unfold Box at h;simp [World.shape?,h]
theorem apart_run {w:World} {bx g:Nat} {X:Wl} {C:List Value} (hbx:Box w bx (cW X) 57) (hg:Box w g C 57) (hne:bx≠g) (hC:C.length≠0) (k la ca lb cb:Nat):(callFunc 168 #[.slice (some ⟨bx,0,none⟩) la ca,.slice (some ⟨g,k,none⟩) lb cb]).run prog w=.ok (.value (.bool false)) w:=by
 rw [run_callFunc_extern func168 (by kernel_rfl) (by kernel_rfl) (by kernel_rfl) (e:=Extern.SlicesOverlaps.overlaps #[48,48] #[4]) (by kernel_rfl),
  Lib.run_overlaps_apart w 48 4 57 underlying48 5 Tryz.sizeOf57 ⟨bx,0,none⟩ ⟨g,k,none⟩ la ca lb cb hne _ _ _ _ (uV hbx) (uV hg) hC (hbx.f.2.1 _) (hbx.f.2.1 _)]
 rfl
theorem ins_room (g n c k bx:Nat) (L:List Wl) (X:Wl) (tl:List Value) (w:World) (hn:L.length=n) (hk:k < n) (hc:n+1<=c) (hc2:c<=maxLen) (htl:tl.length=(c - n) * 5) (hg:Box w g (L.flatMap cW ++ tl) 57) (hbx:Box w bx (cW X) 57) (hne:bx≠g):Calls prog 131 #[.slice (some ⟨g,0,none⟩) n c,.int .i64 k,.slice (some ⟨bx,0,none⟩) 1 1] w λe w'=>e=.returned (.slice (some ⟨g,0,none⟩) (n+1) c)/\w.grownBy w' (some g)/\Box w' g ((L.take k ++ X :: L.drop k).flatMap cW ++ tl.drop 5) 57:=by
 have hov:=apart_run hbx hg hne (by rw [Yi,zP y6];omega);have hmx:c<=9223372036854775807:=by unfold maxLen at hc2;omega
 have hz1:¬ ((k:Int)=(n:Int)):=by omega
 have hA:((L.take k).flatMap cW).length=k * 5:=by rw [zP y6,X4];omega
 have hD:((L.drop k).flatMap cW).length=(n - k) * 5:=by rw [zP y6,X7,hn]
 have hC:L.flatMap cW=(L.take k).flatMap cW ++ (L.drop k).flatMap cW:=by rw [<-X0,X9]
 have hR:(L.take k ++ X :: L.drop k).flatMap cW ++ tl.drop 5=(L.take k).flatMap cW ++ (cW X ++ ((L.drop k).flatMap cW ++ tl.drop 5)):=by
  rw [X0,Yj];simp only [Yp]
 have h1D:∀ v∈(L.drop k).flatMap cW,v.oneCell'=true:=λu hu=>by
  obtain ⟨x,_,hx⟩:=Yw.1 hu;exact ka x u hx
 rw [hR];rw [hC,Yp] at hg;clear hR hC;generalize (L.take k).flatMap cW=A at *
 generalize (L.drop k).flatMap cW=D at *
 have hmin:Nat.min (n+1 - k) (n - k)=n - k:=by simp only [Nat.min_def];split <;> omega
 have e1:(A ++ (D ++ tl)).take ((k+1) * 5) ++ D ++ (A ++ (D ++ tl)).drop ((k+1) * 5+D.length)=A ++ ((D ++ tl).take 5 ++ (D ++ tl.drop 5)):=by
  rw [show (k+1) * 5=A.length+5 by omega,List.take_length_add_append,show A.length+5+D.length=A.length+(D.length+5) by omega,Xd,Xd];simp only [Yp]
 have hY:((D ++ tl).take 5).length=5:=by rw [X4,Yi];omega
 generalize hYe:(D ++ tl).take 5=Y at *
 have e2:(A ++ (Y ++ (D ++ tl.drop 5))).take (k * 5) ++ cW X ++ (A ++ (Y ++ (D ++ tl.drop 5))).drop (k * 5+(cW X).length)=A ++ (cW X ++ (D ++ tl.drop 5)):=by
  rw [<-hA,JJ,y6,Xd,<-hY,List.drop_left];simp only [Yp]
 have hcp1:=λ(ty:TypeId) (dc sc:Nat)=>ji (w:=w.drew) ty g ((k+1) * 5) (n - k) dc ⟨g,k * 5,none⟩ (n+1 - k) sc _ D _ hg.drew (by rw [hmin,hD]) (λj v hj=>by
  rw [Addr.add_lit,hg.drew.f.1,<-hA,KN (by omega),show A.length+j - A.length=j by omega,Xs (Yr.1 hj).1];exact hj)
  (by simp only [Yi];omega) h1D
 rw [e1,hmin] at hcp1;have hg1:Box (w.drew.setRow g (A ++ (Y ++ (D ++ tl.drop 5))).toArray) g (A ++ (Y ++ (D ++ tl.drop 5))) 57:=hg.drew.setRow;have hbx1:Box (w.drew.setRow g (A ++ (Y ++ (D ++ tl.drop 5))).toArray) bx (cW X) 57:=by
  unfold Box;rw [setRow_other _ _ _ _ hne];exact hbx
 have hgr:w.grownBy (w.drew.setRow g (A ++ (Y ++ (D ++ tl.drop 5))).toArray) (some g):=⟨rfl,rfl,rfl,by simp [World.setRow],λq _ hq=>setRow_other _ _ _ _ (λe=>hq (by rw [e]))⟩;have hcp2:=λ(W:World) (h1:Box W g (A ++ (Y ++ (D ++ tl.drop 5))) 57) (h2:Box W bx (cW X) 57) (ty:TypeId) (dc:Nat)=>ji (w:=W) ty g (k * 5) (n+1 - k) dc ⟨bx,0,none⟩ 1 1 _ (cW X) _ h1 (by rw [y6,show Nat.min 1 (n+1 - k)=1 by simp only [Nat.min_def];split <;> omega]) (λj v hj=>by
  rw [Addr.add_lit,h2.f.1,Xa];exact hj) (by simp only [Yi,y6];omega) (ka X)
 rw [e2] at hcp2;have hfin:∀ W:World,Box W g (A ++ (Y ++ (D ++ tl.drop 5))) 57->w.grownBy W (some g)->w.grownBy (W.setRow g (A ++ (cW X ++ (D ++ tl.drop 5))).toArray) (some g)/\Box (W.setRow g (A ++ (cW X ++ (D ++ tl.drop 5))).toArray) g (A ++ (cW X ++ (D ++ tl.drop 5))) 57:=λW h1 h2=>
  let ⟨a1,a2,a3,a4,a5⟩:=h2
  ⟨⟨a1,a2,a3,by simpa [World.setRow] using a4,λq hq hne2=>by rw [setRow_other _ _ _ _ (λe=>hne2 (by rw [e]))];exact a5 q hq hne2⟩,h1.setRow⟩
 obtain ⟨R1,hR1⟩:∃ R:Array Value,R=(A ++ (Y ++ (D ++ tl.drop 5))).toArray:=⟨_,rfl⟩;obtain ⟨R2,hR2⟩:∃ R:Array Value,R=(A ++ (cW X ++ (D ++ tl.drop 5))).toArray:=⟨_,rfl⟩;rw [<-hR1] at hcp1 hg1 hbx1 hgr;rw [<-hR2] at hcp2 hfin;clear hR1 hR2;have HF:=hdd hfin;have HG:=hdd hgr;have H1:=hdd hg1;have HB:=hdd hbx1;clear hg hbx hfin hgr hg1 hbx1 e1 e2 hYe hA hD hY h1D htl;have mixed:prog.follows .mixedOrders=true:=by kernel_rfl
 have hw1:IntKind.i64.wrap ((k:Int)+1)=(k:Int)+1:=by rw [IntKind.wrap_i64];omega
 have hb1:(0:Int)<=(k:Int)+1:=by omega
 have htn:((k:Int)+1).toNat=k+1:=by omega
 have hb2:¬ (c=k+1):=by omega
 have hb3:(k:Int)<=(n:Int)+1:=by omega
 have hb4:¬ (c=k):=by omega
 have hb5:k<=n:=by omega
 have hb6:(k:Int)+1<=(n:Int)+1:=by omega
 go_enter func131,ntmps131
 go_wp2_with (simp only [hov])
 go_region_law_o (refine step_copy_runI rfl _ _ 48 48 rfl _ _ (by simp [Act.eval,Act.put]) (by simp [Act.eval,Act.put]) (hcp1 _ _ _) ?_)
 go_wp2_with (refine wpList_copy_runI _ rfl _ _ 48 48 rfl _ _ rfl rfl (hcp2 _ H1.o HB.o _ _) ?_)
 go_ret
 exact ⟨rfl,HF.o _ H1.o HG.o⟩
theorem ins_grow (g n c k bx:Nat) (L:List Wl) (X:Wl) (tl:List Value) (w:World) (hn:L.length=n) (hk:k < n) (hc:c < n+1) (hc2:n<=c) (hL:n<=1000000) (hg:Box w g (L.flatMap cW ++ tl) 57) (hbx:Box w bx (cW X) 57):Calls prog 131 #[.slice (some ⟨g,0,none⟩) n c,.int .i64 k,.slice (some ⟨bx,0,none⟩) 1 1] w λe w'=>∃ G tl',e=.returned (.slice (some ⟨w,0,none⟩) (n+1) G)/\w.grownBy w' none/\n+1<=G/\G<=maxLen/\tl'.length=(G - (n+1)) * 5/\Box w' w.heap.size ((L.take k ++ X :: L.drop k).flatMap cW ++ tl') 57:=by
 obtain ⟨i0,hi0,hz0,hzs,hzb⟩:=info_parts xG;have hA:((L.take k).flatMap cW).length=k * 5:=by rw [zP y6,X4];omega
 have hD:((L.drop k).flatMap cW).length=(n - k) * 5:=by rw [zP y6,X7,hn]
 have hC:L.flatMap cW=(L.take k).flatMap cW ++ (L.drop k).flatMap cW:=by rw [<-X0,X9]
 have hR:∀ tl',(L.take k ++ X :: L.drop k).flatMap cW ++ tl'=(L.take k).flatMap cW ++ (cW X ++ ((L.drop k).flatMap cW ++ tl')):=λtl'=>by
  rw [X0,Yj];simp only [Yp]
 have h1D:∀ v∈(L.drop k).flatMap cW,v.oneCell'=true:=λu hu=>by
  obtain ⟨x,_,hx⟩:=Yw.1 hu;exact ka x u hx
 simp only [hR];rw [hC,Yp] at hg;clear hR hC;generalize (L.take k).flatMap cW=A at *
 generalize (L.drop k).flatMap cW=D at *
 have hgw:=hg.lt;have hbw:=hbx.lt;have hik:k+(n+1 - k)=n+1:=by omega
 have hold:(Builtin.firstCells i0.size k (.slice (some ⟨g,0,none⟩) k c)).run prog w.drew=.ok A.toArray w.drew:=by
  rw [hzs];exact run_firstCells_some w.drew 5 k ⟨g,0,none⟩ k c A hA (λj v hj=>by
   rw [Addr.add_lit,hg.drew.f.1,Xa,Xs (Yr.1 hj).1];exact hj)
 obtain ⟨G,hG⟩:∃ G,G=grownCap w (n+1) c 57:=⟨_,rfl⟩;have hGn:n+1<=G:=by rw [hG];exact grownCap_ge w _ _ _
 have hGm:G<=maxLen:=by rw [hG];exact grownCap_le_maxLen w _ _ _ (by unfold maxLen;omega)
 obtain ⟨Z,hZ⟩:∃ Z,Z=(Builtin.zeroCells (Value.agg #[(),(),(),(),()]).cells (n+1 - k)).toList ++ (Builtin.zeroCells (Value.agg #[(),(),(),(),()]).cells (G - (n+1))).toList:=⟨_,rfl⟩;have hZl:Z.length=(G - k) * 5:=by
  rw [hZ];simp only [Yi,JS,size_zeroCells,Value.cells];simp;omega
 have hrz : ∀ ty, (Builtin.append_ #[48, 3] ty #[.slice (some ⟨g, 0, none⟩) k c, .int .i64 ((n : Int) + 1 - (k : Int))]).run prog w =
     .ok (.slice (some ⟨w,0,none⟩) (n+1) G) (w.drew.alloc (.cells (A ++ Z).toArray 57)):=λty=>by
  have h:=Lib.run_append_grow_zeros w 48 3 ty 57 i0 _ .i64 .i64 underlying48 underlying3 hi0 hz0 (some ⟨g,0,none⟩) k c A hold (n+1 - k) (by omega) (by omega) (by omega) (by omega) (by rw [hzb];omega) (by rw [hzb,hik];exact growslice_fits hc (by omega));rw [hik,<-hG] at h;rw [show (n:Int)+1 - (k:Int)=((n+1 - k:Nat):Int) by omega,hZ];rw [h];congr 3
  apply Array.ext';simp
 obtain ⟨R0,hR0⟩:∃ R:Array Value,R=(A ++ Z).toArray:=⟨_,rfl⟩;have e1:(A ++ Z).take (k * 5) ++ cW X ++ (A ++ Z).drop (k * 5+(cW X).length)=A ++ (cW X ++ Z.drop 5):=by
  rw [<-hA,JJ,Xd,y6];simp only [Yp]
 have e2:(A ++ (cW X ++ Z.drop 5)).take ((k+1) * 5) ++ D ++ (A ++ (cW X ++ Z.drop 5)).drop ((k+1) * 5+D.length)=A ++ (cW X ++ (D ++ (Z.drop 5).drop D.length)):=by
  rw [<-Yp,show (k+1) * 5=(A ++ cW X).length by rw [Yi,y6];omega,JJ,Xd];simp only [Yp]
 have hb0:Box (w.drew.alloc (.cells R0 57)) w.heap.size (A ++ Z) 57:=by rw [hR0];exact Box.new rfl
 have hbx0:=(hbx.drew).old (.cells R0 57);have hg0:=(hg.drew).old (.cells R0 57);rw [<-hR0] at hrz;have hcpA:=λ(W:World) (h1:Box W w (A ++ Z) 57) (h2:Box W bx (cW X) 57) (ty:TypeId) (dc:Nat)=>ji (w:=W) ty w.heap.size (k * 5) (n+1 - k) dc ⟨bx,0,none⟩ 1 1 _ (cW X) _ h1 (by rw [y6,show Nat.min 1 (n+1 - k)=1 by simp only [Nat.min_def];split <;> omega]) (λj v hj=>by
  rw [Addr.add_lit,h2.f.1,Xa];exact hj) (by simp only [Yi,y6];omega) (ka X)
 rw [e1] at hcpA;have hcpB:=λ(W:World) (h1:Box W w (A ++ (cW X ++ Z.drop 5)) 57) (h2:Box W g (A ++ (D ++ tl)) 57) (ty:TypeId) (dc sc:Nat)=>ji (w:=W) ty w.heap.size ((k+1) * 5) (n - k) dc ⟨g,k * 5,none⟩ (n - k) sc _ D _ h1 (by rw [hD,show Nat.min (n - k) (n - k)=n - k by simp]) (λj v hj=>by
  rw [Addr.add_lit,h2.f.1,<-hA,KN (by omega),show A.length+j - A.length=j by omega,Xs (Yr.1 hj).1];exact hj) (by simp only [Yi,X7,y6];omega) h1D
 rw [e2] at hcpB;obtain ⟨R1,hR1⟩:∃ R:Array Value,R=(A ++ (cW X ++ Z.drop 5)).toArray:=⟨_,rfl⟩;obtain ⟨R2,hR2⟩:∃ R:Array Value,R=(A ++ (cW X ++ (D ++ (Z.drop 5).drop D.length))).toArray:=⟨_,rfl⟩;rw [<-hR1] at hcpA;rw [<-hR2] at hcpB;have hset1:∀ W:World,Box W w (A ++ Z) 57->Box (W.setRow w.heap.size R1) w.heap.size (A ++ (cW X ++ Z.drop 5)) 57:=λW h=>by rw [hR1];exact h.setRow
 have hset2:∀ W:World,Box W w (A ++ (cW X ++ Z.drop 5)) 57->Box (W.setRow w.heap.size R2) w.heap.size (A ++ (cW X ++ (D ++ (Z.drop 5).drop D.length))) 57:=λW h=>by rw [hR2];exact h.setRow
 have hne:g≠w.heap.size:=by omega
 have hkeep:∀ (W:World) (R:Array Value),Box W g (A ++ (D ++ tl)) 57->Box (W.setRow w.heap.size R) g (A ++ (D ++ tl)) 57:=λW R h=>by
  unfold Box;rw [setRow_other _ _ _ _ hne];exact h
 have hgrow:∀ (W:World) (R:Array Value),w.grownBy W none->w.grownBy (W.setRow w.heap.size R) none:=λW R ⟨a1,a2,a3,a4,a5⟩=>
  ⟨a1,a2,a3,by simpa [World.setRow] using a4,λq hq hq2=>by rw [setRow_other _ _ _ _ (by omega)];exact a5 q hq hq2⟩
 have hgr0:w.grownBy (w.drew.alloc (.cells R0 57)) none:=⟨rfl,rfl,rfl,by simp,λq hq _=>(by first | exact heap_alloc_old w.drew _ q hq | exact heap_alloc_old w.drew _ hq)⟩;have htl:((Z.drop 5).drop D.length).length=(G - (n+1)) * 5:=by rw [X7,X7];omega
 have HF:=hdd (And.intro hset1 (And.intro hset2 (And.intro hkeep hgrow)));have H0:=hdd (And.intro hb0 (And.intro hbx0 (And.intro hg0 hgr0)));have HT:=hdd htl;have HGm:=hdd hGm;have hG63:G<=9223372036854775807:=by unfold maxLen at hGm;omega
 have hGi:¬ (G=k):=by omega
 have hGim:¬ (G=k+1):=by omega
 have hci:¬ (c=k):=by omega
 have hw1:IntKind.i64.wrap ((k:Int)+1)=(k:Int)+1:=by rw [IntKind.wrap_i64];omega
 have hb1:(0:Int)<=(k:Int)+1:=by omega
 have htn:((k:Int)+1).toNat=k+1:=by omega
 have hb3:(k:Int)<=(n:Int)+1:=by omega
 have hb5:k<=n:=by omega
 have hb6:(k:Int)+1<=(n:Int)+1:=by omega
 have hb7:(k:Int)<=(n:Int):=by omega
 have hz1:¬ ((k:Int)=(n:Int)):=by omega
 have hz2:(c:Int) < (n:Int)+1:=by omega
 have mixed:prog.follows .mixedOrders=true:=by kernel_rfl
 clear hR0 hR1 hR2 hG hZ hset1 hset2 hkeep hgrow hgr0 hb0 hbx0 hg0 htl hGm hg hbx e1 e2 hA hD h1D hZl hold hi0 hz0 hzs hzb i0
 go_enter func131,ntmps131
 go_wp2_with (first
  | (at_builtin;refine Lib.wpList_append_run _ rfl _ _ _ _ rfl _ _ rfl rfl _ _ (hrz _) ?_)
  | (refine wpList_copy_runI _ rfl _ _ 48 48 rfl _ _ rfl rfl (hcpA _ H0.o.1 H0.o.2.1 _ _) ?_))
 go_region_law_o (refine step_copy_runI rfl _ _ 48 48 rfl (.slice (some ⟨w.heap.size,(k+1) * 5,none⟩) (n - k) (G - (k+1))) (.slice (some ⟨g,k * 5,none⟩) (n - k) (c - k)) (by simp [Act.eval,Act.put]) (by simp [Act.eval,Act.put]) (hcpB _ (HF.o.1 _ H0.o.1).drew (HF.o.2.2.1 _ _ H0.o.2.2.1).drew 3 (G - (k+1)) (c - k)) ?_)
 go_wp2
 go_ret
 exact ⟨G,_,rfl,HF.o.2.2.2 _ _ (grownBy_drew (HF.o.2.2.2 _ _ H0.o.2.2.2)),hGn,HGm.o,HT.o,HF.o.2.1 _ (HF.o.1 _ H0.o.1)⟩
end
section
open Go.Lib
def Fresh (v v':Value) (n:Nat):Prop:=∀ g,v'.ownBlock=some g->v.ownBlock=some g\/n<=g
theorem ke {w:World} {ops:Array Oper} {rest:List Oper} {o:Oper} {a:Act} {Q:Exit->Act->World->Prop} (hgd:o.guard=none) (s x:Operand) (ho:o.op=.call { callee:=.builtin .append,args:=#[s,x],argTypes:=#[48,48] }) (B:Nat) (v:Value) (L:List Wl) (hs:a.eval s=v) (hown:WRow w B v L) (bx:Nat) (X:Wl) (hx:a.eval x=.slice (some ⟨bx,0,none⟩) 1 1) (hbx:Box w bx (cW X) 57) (hn:L.length<=1000000) (hbase:B<=w.heap.size) (h:∀ w' v',WRow w' B v' (L ++ [X])->w.grownBy w' v.ownBlock->Fresh v v' w.heap.size->wpList prog ops Q rest (a.put o.dst v') w'):wpList prog ops Q (o :: rest) a w:=by
 obtain ⟨i0,hi,hz0,hz1,hz2⟩:=info_parts xG;refine wpList_append_lies w hgd s x 48 ho B 57 i0 _ 5 40 underlying48 hi hz0 hz1 hz2 rfl (by decide) v L.length _ hs hown ⟨bx,0,none⟩ 1 1 (cW X) hx rfl ?_ (ka X) (by decide) ?_ ?_ hbase _ rfl ?_
 ·intro j u hj;have:=hbx.f.1 j;rw [hj] at this;rw [Addr.add_lit,Xa];exact this
 ·unfold maxLen;omega
 ·omega
 ·intro g cap w' hown' hg hf _;refine h w' _ ?_ hg (λg' e=>?_)
  ·unfold WRow;rw [Yi,XX,X0]
   simpa using hown'
  ·simp only [Value.ownBlock,KG] at e;subst e;rcases hf with hf | hf
   ·exact .inl hf
   ·exact .inr (by omega)
theorem ins_end0 (B bx:Nat) (X:Wl) (w:World) (hB:B<=w.heap.size) (hbx:Box w bx (cW X) 57):Calls prog 131 #[.slice none 0 0,(),.slice (some ⟨bx,0,none⟩) 1 1] w λe w'=>∃ v',e=.returned v'/\WRow w' B v' [X]/\w.grownBy w' none/\Fresh (.slice none 0 0) v' w.heap.size:=by
 have hown:=WRow.nil0 w B
 go_enter func131,ntmps131
 go_wp2_with (at_builtin;refine ke rfl _ _ rfl B _ [] rfl hown bx X rfl hbx (XZ _) hB ?_;intro w4 v4 hown4 hg4 hf4)
 go_ret
 exact ⟨_,rfl,hown4,hg4,hf4⟩
theorem ins_end (B g n c bx:Nat) (L:List Wl) (X:Wl) (w:World) (hn:L.length=n) (hL:n<=1000000) (hc:n<=c) (hown:WRow w B (.slice (some ⟨g,0,none⟩) n c) L) (hB:B<=w.heap.size) (hbx:Box w bx (cW X) 57):Calls prog 131 #[.slice (some ⟨g,0,none⟩) n c,n,.slice (some ⟨bx,0,none⟩) 1 1] w λe w'=>∃ v',e=.returned v'/\WRow w' B v' (L ++ [X])/\w.grownBy w' (some g)/\Fresh (.slice (some ⟨g,0,none⟩) n c) v' w.heap.size:=by
 have hL2:L.length<=1000000:=by omega
 have hcap:c<=9223372036854775807:=by
  rcases hown.box with ⟨h,_⟩ | ⟨_,_,_,h,_,_,_,h2,_⟩
  ·cases h
  ·simp only [Value.slice.injEq] at h;unfold maxLen at h2;omega
 by_cases hcn:c=n
 ·subst hcn
  go_enter func131,ntmps131
  go_wp2_with (at_builtin;refine ke rfl _ _ rfl B _ L rfl hown bx X rfl hbx hL2 hB ?_;intro w4 v4 hown4 hg4 hf4)
  go_ret
  exact ⟨_,rfl,hown4,hg4,hf4⟩
 ·go_enter func131,ntmps131
  go_wp2_with (at_builtin;refine ke rfl _ _ rfl B _ L rfl hown bx X rfl hbx hL2 hB ?_;intro w4 v4 hown4 hg4 hf4)
  go_ret
  exact ⟨_,rfl,hown4,hg4,hf4⟩
theorem insW_any (B:Nat) (v:Value) (k bx:Nat) (L:List Wl) (X:Wl) (w:World) (hk:k<=L.length) (hL:L.length<=1000000) (hown:WRow w B v L) (hB:B<=w.heap.size) (hbx:Box w bx (cW X) 57) (hne:v.ownBlock≠some bx):Calls prog 131 #[v,k,.slice (some ⟨bx,0,none⟩) 1 1] w λe w'=>∃ v',e=.returned v'/\WRow w' B v' (L.take k ++ X :: L.drop k)/\w.grownBy w' v.ownBlock/\Fresh v v' w.heap.size:=by
 have hlen:k<=L.length->(L.take k ++ X :: L.drop k).length=L.length+1:=λh=>by simp only [Yi,XO,X4,X7];omega
 rcases hown.box with ⟨rfl,rfl⟩ | ⟨g,cap,tl,rfl,hBg,hg,h1,h2,h3⟩
 ·obtain rfl:k=0:=by simpa using hk
  exact ins_end0 B bx X w hB hbx
 ·rcases Nat.eq_or_lt_of_le hk with rfl | hk2
  ·rw [List.take_length,List.drop_length];exact ins_end B g L.length cap bx L X w rfl hL h1 hown hB hbx
  ·rcases KF cap (L.length+1) with hc | hc
   ·refine (ins_grow g L.length cap k bx L X tl w rfl hk2 hc h1 hL hg hbx).mono ?_;rintro e w' ⟨G,tl',rfl,hgr,hG1,hG2,hG3,hb⟩;refine ⟨_,rfl,?_,⟨hgr.1,hgr.2,hgr.3,hgr.4,λq hq _=>hgr.5 q hq (by simp)⟩,λq e=>.inr (by simp only [Value.ownBlock,KG] at e;omega)⟩;have:=WRow.of_box hB hb (by rw [hlen hk];exact hG1) hG2 (by rw [hlen hk];exact hG3)
    rwa [hlen hk] at this
   ·refine (ins_room g L.length cap k bx L X tl w rfl hk2 hc h2 h3 hg hbx (λe=>hne (by rw [e];rfl))).mono ?_;rintro e w' ⟨rfl,hgr,hb⟩;refine ⟨_,rfl,?_,hgr,λq e=>.inl e⟩;have:=WRow.of_box hBg hb (by rw [hlen hk];exact hc) h2 (by rw [hlen hk,X7,h3];omega)
    rwa [hlen hk] at this
end
section
open Go.Lib
theorem step_append_run {P:Program} {ops:Array Oper} {o:Oper} {a:Act} {w:World} {K:Act->World->Prop} {Q:Exit->Act->World->Prop} {E:Prop} (hg:o.guard=none) (d x:Operand) (dT sT:TypeId) (hop:o.op=Op.call { callee:=Callee.builtin Builtin.append,args:=#[d,x],argTypes:=#[dT,sT] }) (v u:Value) (hd:a.eval d=v) (hx:a.eval x=u) {v':Value} {w':World} (hr:(Builtin.append_ #[dT,sT] o.type #[v,u]).run P w=.ok v' w') (hK:K (a.put o.dst v') w'):if Region.wanted o (yielded ops a.tmps)=true then Oper.wp P o a w K Q else E:=by
 have hw:Region.wanted o (yielded ops a.tmps)=true:=by simp [Region.wanted,hg]
 rw [Yn hw];unfold Oper.wp;simp [execOp,hop,resolve,invoke,builtin,hd,hx,hr,Result.andThen];exact hK
def z5:List Value:=[(),(),(),(),()]
def zN:Nat->List Value
 | 0=>[]
 | n+1=>z5 ++ zN n
theorem vZ:∀ n,(zN n).length=n * 5
 | 0=>rfl
 | n+1=>by rw [zN,Yi,vZ n];simp [z5];omega
theorem YU:∀ n i,i < n * 5->(zN n)[i]? = some (.int .i64 0)
 | 0,i,h=>by omega
 | n+1,i,h=>by
  rw [zN];by_cases hi:i < 5
  ·rw [Xs (by simpa [z5] using hi)];have:i=0\/i=1\/i=2\/i=3\/i=4:=by omega
   rcases this with rfl | rfl | rfl | rfl | rfl <;> rfl
  ·rw [KN (by simp [z5];omega)];exact YU n _ (by simp [z5];omega)
theorem zeros_wl (n:Nat):(Builtin.zeroCells #[(),(),(),(),()] n).toList=zN n:=by
 apply Kh;intro i;by_cases h:i < n * 5
 ·rw [YU n i h,Array.getElem?_toList];have:i % 5=0\/i % 5=1\/i % 5=2\/i % 5=3\/i % 5=4:=by omega
  simp only [Builtin.zeroCells];rcases this with e | e | e | e | e <;> simp [h,e]
 ·rw [Xw (by rw [JS,size_zeroCells];simp;omega),Xw (by rw [vZ];omega)]
theorem tK {w:World} (ty:TypeId) (g o n c:Nat) (C:List Value) (hn:0 < n) (hg:Box w g C 57) (hfit:o+n * 5<=C.length):(Builtin.clear_ #[48] ty #[.slice (some ⟨g,o,none⟩) n c]).run prog w=.ok (.tuple #[]) (w.setRow g (C.take o ++ zN n ++ C.drop (o+n * 5)).toArray):=by
 have hst:=run_storeCells_at prog g o 57 (zN n) 0 C.toArray w hg (by rw [vZ];simpa using hfit) (by
  intro v hv;obtain ⟨i,hi,rfl⟩:=Xz.1 hv;have:=YU n i (by rwa [vZ] at hi);rw [Yo hi] at this;simp at this;rw [this];rfl)
 simp only [Nat.add_zero,vZ] at hst;obtain ⟨m,rfl⟩:∃ m,n=m+1:=⟨n - 1,by omega⟩;have hz:=zeros_wl (m+1);simp [Builtin.clear_,run_underlying underlying48,Value.cells,hz,hst]
theorem room_run {w:World} (ty:TypeId) (g n c:Nat) (a:Addr) (m cs:Nat) (C news:List Value) (hg:Box w g C 57) (hl:news.length=m * 5) (hnews:∀ j u,news[j]? = some u->w.cell? (a.add j)=some u) (h1:∀ u∈news,u.oneCell'=true) (hroom:n+m<=c) (hfit:n * 5+news.length<=C.length):(Builtin.append_ #[48,48] ty #[.slice (some ⟨g,0,none⟩) n c,.slice (some a) m cs]).run prog w=.ok (.slice (some ⟨g,0,none⟩) (n+m) c) (w.setRow g (C.take (n * 5) ++ news ++ C.drop (n * 5+news.length)).toArray):=by
 obtain ⟨i0,hi0,hz0,hzs,hzb⟩:=info_parts xG;have:=run_append_room (P:=prog) w 48 ty 57 i0 underlying48 hi0 g n c C.toArray hg a m cs news (by rw [hzs];exact hl) hnews h1 hroom (by rw [hzs];simpa using hfit);rw [hzs] at this
 simpa using this
theorem del_some (g n c k:Nat) (L:List Wl) (tl:List Value) (w:World) (hn:L.length=n) (hk:k < n) (hc:n<=c) (hc2:c<=maxLen) (htl:tl.length=(c - n) * 5) (hg:Box w g (L.flatMap cW ++ tl) 57):Calls prog 129 #[.slice (some ⟨g,0,none⟩) n c,.int .i64 k,.int .i64 ((k:Int)+1)] w λe w'=>∃ tl',e=.returned (.slice (some ⟨g,0,none⟩) (n - 1) c)/\w.grownBy w' (some g)/\tl'.length=(c - (n - 1)) * 5/\Box w' g ((L.take k ++ L.drop (k+1)).flatMap cW ++ tl') 57:=by
 have hmx:c<=9223372036854775807:=by unfold maxLen at hc2;omega
 have hkL:k < L.length:=by omega
 have hA:((L.take k).flatMap cW).length=k * 5:=by rw [zP y6,X4];omega
 have hD:((L.drop (k+1)).flatMap cW).length=(n - (k+1)) * 5:=by rw [zP y6,X7,hn]
 have hC:L.flatMap cW=(L.take k).flatMap cW ++ (cW L[k] ++ (L.drop (k+1)).flatMap cW):=by
  rw [<-Yj,<-X0,Ko hkL,X9]
 have h1D:∀ v∈(L.drop (k+1)).flatMap cW,v.oneCell'=true:=λu hu=>by
  obtain ⟨x,_,hx⟩:=Yw.1 hu;exact ka x u hx
 simp only [X0,Yp];rw [hC] at hg;simp only [Yp] at hg;clear hC;generalize (L.take k).flatMap cW=A at *
 generalize (L.drop (k+1)).flatMap cW=D at *
 have hX:(cW L[k]).length=5:=rfl;generalize cW L[k]=X at *
 obtain ⟨Y,hY⟩:∃ Y,Y=(X ++ D).drop D.length:=⟨_,rfl⟩;have hYl:Y.length=5:=by rw [hY,X7,Yi];omega
 have e1:(A ++ (X ++ (D ++ tl))).take (k * 5) ++ D ++ (A ++ (X ++ (D ++ tl))).drop (k * 5+D.length)=A ++ (D ++ (Y ++ tl)):=by
  rw [<-hA,JJ,Xd,<-Yp X D tl,List.drop_append_of_le_length (by rw [Yi];omega),<-hY];simp only [Yp]
 have e2:(A ++ (D ++ (Y ++ tl))).take ((n - 1) * 5) ++ zN 1 ++ (A ++ (D ++ (Y ++ tl))).drop ((n - 1) * 5+1 * 5)=A ++ (D ++ (zN 1 ++ tl)):=by
  rw [<-Yp A D,show (n - 1) * 5=(A ++ D).length by rw [Yi];omega,JJ,Xd,show 1 * 5=Y.length by omega,List.drop_left];simp only [Yp]
 obtain ⟨ad,had,hsrc⟩:∃ ad:Addr,(if c=k+1 then some (⟨g,0,none⟩:Addr) else some ⟨g,(k+1) * 5,none⟩)=some ad/\∀ W,Box W g (A ++ (X ++ (D ++ tl))) 57->∀ j u,D[j]? = some u->W.cell? (ad.add j)=some u:=by
  by_cases h:c=k+1
  ·refine ⟨⟨g,0,none⟩,by simp [h],λW _ j u hu=>?_⟩;have h0:D=[]:=Xh (by rw [hD];omega);rw [h0] at hu;simp at hu
  ·refine ⟨⟨g,(k+1) * 5,none⟩,by simp [h],λW hW j u hu=>?_⟩;rw [Addr.add_lit,hW.f.1,<-Yp,show (k+1) * 5=(A ++ X).length by rw [Yi];omega,KN (by omega),Nat.add_sub_cancel_left,Xs (Yr.1 hu).1];exact hu
 have hap:=λ(W:World) (h:Box W g (A ++ (X ++ (D ++ tl))) 57) (ty:TypeId) (cs:Nat)=>room_run ty g k c ad (n - (k+1)) cs _ D h hD (hsrc W h) h1D (by omega) (by simp only [Yi];omega);rw [e1,show k+(n - (k+1))=n - 1 by omega] at hap;have hcl:=λ(W:World) (h:Box W g (A ++ (D ++ (Y ++ tl))) 57) (ty:TypeId) (cs:Nat)=>tK ty g ((n - 1) * 5) 1 cs _ (by omega) h (by simp only [Yi];omega);rw [e2] at hcl;obtain ⟨R1,hR1⟩:∃ R:Array Value,R=(A ++ (D ++ (Y ++ tl))).toArray:=⟨_,rfl⟩;obtain ⟨R2,hR2⟩:∃ R:Array Value,R=(A ++ (D ++ (zN 1 ++ tl))).toArray:=⟨_,rfl⟩;rw [<-hR1] at hap;rw [<-hR2] at hcl;have hset1:∀ W:World,Box W g (A ++ (X ++ (D ++ tl))) 57->Box (W.setRow g R1) g (A ++ (D ++ (Y ++ tl))) 57:=λW h=>by rw [hR1];exact h.setRow
 have hset2:∀ W:World,Box W g (A ++ (D ++ (Y ++ tl))) 57->Box (W.setRow g R2) g (A ++ (D ++ (zN 1 ++ tl))) 57:=λW h=>by rw [hR2];exact h.setRow
 have hgrow:∀ (W:World) (R:Array Value),w.grownBy W (some g)->w.grownBy (W.setRow g R) (some g):=λW R ⟨a1,a2,a3,a4,a5⟩=>
  ⟨a1,a2,a3,by simpa [World.setRow] using a4,λq hq hq2=>by rw [setRow_other _ _ _ _ (λe=>hq2 (by rw [e]))];exact a5 q hq hq2⟩
 have hgr0:w.grownBy w.drew (some g):=⟨rfl,rfl,rfl,Yq _,λ_ _ _=>rfl⟩;have HF:=hdd (And.intro hset1 (And.intro hset2 hgrow));have H0:=hdd (And.intro hg hgr0);obtain ⟨q,hq⟩:∃ q,n - 1=q:=⟨_,rfl⟩;rw [hq] at hcl hap ⊢;have hq1:(q:Int)<=(n:Int):=by omega
 have hq2:n - q=1:=by omega
 have hq3:¬ (c=q):=by omega
 have hq4:q<=n:=by omega
 have hq5:q<=c:=by omega
 have hq6:(n:Int)<=(c:Int):=by omega
 have hcl2:=hcl _ (hset1 _ hg.drew);have hcl3:=hcl _ (hset1 _ hg.drew).drew;have hap2:=hap _ hg.drew;have HT:=hdd (show (zN 1 ++ tl).length=(c - q) * 5 by rw [Yi,vZ,htl];omega);have hw1:IntKind.i64.wrap ((k:Int)+1)=(k:Int)+1:=by rw [IntKind.wrap_i64];omega
 have hb1:(0:Int)<=(k:Int)+1:=by omega
 have htn:((k:Int)+1).toNat=k+1:=by omega
 have hb3:(k:Int)+1<=(n:Int):=by omega
 have hb4:(k:Int)<=(k:Int)+1:=by omega
 have hb5:k<=n:=by omega
 have hb6:(k:Int)<=(n:Int):=by omega
 have hb7:¬ ((k:Int)=(k:Int)+1):=by omega
 have hb8:(k:Int)<=(c:Int):=by omega
 have hb9:¬ (n=k):=by omega
 have mixed:prog.follows .mixedOrders=true:=by kernel_rfl
 clear hR1 hR2 hset1 hset2 hgrow hgr0 hg e1 e2 hA hD h1D hap hcl hsrc htl hX hYl hY hc2 hkL hn hq
 go_enter func129,ntmps129
 go_wp2
 go_region_law_o (refine step_append_run rfl _ _ 48 48 rfl (.slice (some ⟨g,0,none⟩) k c) (.slice (some ad) (n - (k+1)) (c - (k+1))) (by simp [Act.eval,Act.put]) (by simp [Act.eval,Act.put]) (hap2 _ _) ?_)
 go_wp2
 go_ret
 exact ⟨_,rfl,HF.o.2.2 _ _ (HF.o.2.2 _ _ H0.o.2),HT.o,HF.o.2.1 _ (HF.o.1 _ H0.o.1.drew)⟩
theorem del_any (B:Nat) (v:Value) (k:Nat) (L:List Wl) (w:World) (hk:k < L.length) (hown:WRow w B v L):Calls prog 129 #[v,.int .i64 k,.int .i64 ((k:Int)+1)] w λe w'=>∃ v',e=.returned v'/\WRow w' B v' (L.take k ++ L.drop (k+1))/\w.grownBy w' v.ownBlock/\Fresh v v' w.heap.size:=by
 have hlen:(L.take k ++ L.drop (k+1)).length=L.length - 1:=by simp only [Yi,X4,X7];omega
 rcases hown.box with ⟨rfl,rfl⟩ | ⟨g,cap,tl,rfl,hBg,hg,h1,h2,h3⟩
 ·simp at hk
 ·refine (del_some g L.length cap k L tl w rfl hk h1 h2 h3 hg).mono ?_;rintro e w' ⟨tl',rfl,hgr,ht,hb⟩;refine ⟨_,rfl,?_,hgr,λq e=>.inl e⟩;have:=WRow.of_box hBg hb (by rw [hlen];omega) h2 (by rw [hlen];exact ht)
  rwa [hlen] at this
end
structure Frm (w w':World) (p:Nat->Prop):Prop where
 os:w'.os=w.os
 tape:w'.tape=w.tape
 output:w'.output=w.output
 size:w.heap.size<=w'.heap.size
 block:∀ k,k < w.heap.size->¬ p k->w'.heap[k]? = w.heap[k]?
theorem Frm.of_below {w w':World} {p:Nat->Prop} (h:Below w w w'):Frm w w' p:=⟨h.1,h.2,h.3,h.4,λk hk _=>h.block k hk⟩
theorem Frm.of_grown {w w':World} {p:Nat->Prop} {r:Option Nat} (h:w.grownBy w' r) (hr:∀ g,r=some g->p g):Frm w w' p:=⟨h.1,h.2,h.3,h.4,λk hk hn=>h.block k hk (λe=>hn (hr k e.symm))⟩
theorem Frm.trans {w w' w2:World} {p:Nat->Prop} (h:Frm w w' p) (h2:Frm w' w2 p):Frm w w2 p:=⟨h2.os.trans h.os,h2.tape.trans h.tape,h2.output.trans h.output,XD h.size h2.size,λk hk hn=>(h2.block k (Xi hk h.size) hn).trans (h.block k hk hn)⟩
theorem Frm.trans2 {w w' w2:World} {p q:Nat->Prop} (h:Frm w w' p) (h2:Frm w' w2 q) (hq:∀ k,q k->k < w.heap.size->p k):Frm w w2 p:=⟨h2.os.trans h.os,h2.tape.trans h.tape,h2.output.trans h.output,XD h.size h2.size,λk hk hn=>(h2.block k (Xi hk h.size) (λhh=>hn (hq k hh hk))).trans (h.block k hk hn)⟩
theorem Frm.setCell {w w':World} {p:Nat->Prop} (h:Frm w w' p) (q:Addr) (hq:p q.block) (v:Value):Frm w (w'.setCell q v) p:=
 ⟨h.os,h.tape,h.output,by simpa using h.size,λk hk hn=>by
  have hne:¬ q.block=k:=λe=>hn (e▸hq);simp only [World.setCell,KR,Ye hne];exact h.block k hk hn⟩
theorem Frm.below {w w':World} {p:Nat->Prop} {n:Nat} (h:Frm w w' p) (hp:∀ k,p k->n<=k) (hn:n<=w.heap.size):Below n w w':=⟨h.os,h.tape,h.output,h.size,λk hk=>h.block k (by omega) (λe=>by have:=hp k e;omega)⟩
theorem Frm.box {w w':World} {p:Nat->Prop} {b:Nat} {cs:List Value} {T:TypeId} (h:Frm w w' p) (hb:Box w b cs T) (hn:¬ p b):Box w' b cs T:=by
 have hl:=hb.lt;unfold Box at *;rw [h.block b hl hn];exact hb
theorem Frm.row {w w':World} {p:Nat->Prop} {B:Nat} {v:Value} {L:List Wl} (h:Frm w w' p) (hr:WRow w B v L) (hn:∀ g,v.ownBlock=some g->¬ p g):WRow w' B v L:=by
 refine ⟨hr.1,?_⟩;rcases hr.2 with h' | ⟨g,cap,cur,h0,h1,h2,h3⟩
 ·exact .inl h'
 ·refine .inr ⟨g,cap,cur,h0,h1,?_,h3⟩;have hl:g < w.heap.size:=(XQ.1 h2).1;rw [h.block g hl (hn g (by rw [h0];rfl))];exact h2
structure SetAt (w:World) (sb:Nat) (v:Value) (L:List Wl):Prop where
 box:Box w sb [v] 98
 row:WRow w 0 v L
 ne:v.ownBlock≠some sb
 le:L.length<=1000000
 ris:Ris L
 good:∀ x∈L,GoodW x
theorem SetAt.rd {w:World} {sb:Nat} {v:Value} {L:List Wl} (S:SetAt w sb v L):∃ a c,v=.slice a L.length c/\SetRd w sb a c L.length L:=by
 obtain ⟨a,c,h1,h2,h3⟩:=S.row.row;refine ⟨a,c,h1,h1▸S.box,h2,rfl,S.le,?_,h3,λe=>?_,S.ris,S.good⟩
 ·rcases S.row.box with ⟨e,e2⟩ | ⟨_,_,_,e,_,_,h,_⟩
  ·rw [e2];exact XZ _
  ·rw [h1] at e;simp only [Value.slice.injEq] at e;omega
 ·rcases S.row.box with ⟨_,e2⟩ | ⟨_,_,_,e2,_⟩
  ·exact e2
  ·rw [h1,e] at e2;simp at e2
theorem WRow.drew {w:World} {B:Nat} {v:Value} {L:List Wl} (h:WRow w B v L):WRow w.drew B v L:=h
theorem WRow.form {w:World} {B:Nat} {v:Value} {L:List Wl} (h:WRow w B v L):∃ a n c,v=.slice a n c:=by
 obtain ⟨a,c,h1,_⟩:=h.row;exact ⟨a,_,c,h1⟩
theorem SetAt.rdx {w:World} {sb:Nat} {L:List Wl} (v:Value) (c:Nat) (a0:Option Addr) (hv:v=.slice a0 L.length c) (S:SetAt w sb v L):SetRd w sb a0 c L.length L:=by
 obtain ⟨a,c',h1,h2⟩:=S.rd;rw [hv] at h1;simp only [Value.slice.injEq,true_and] at h1;obtain ⟨rfl,rfl⟩:=h1;exact h2
theorem SetAt.keep {w w':World} {sb:Nat} {v:Value} {L:List Wl} {p:Nat->Prop} (S:SetAt w sb v L) (h:Frm w w' p) (h1:¬ p sb) (h2:∀ g,v.ownBlock=some g->¬ p g):SetAt w' sb v L:=
 ⟨h.box S.box h1,h.row S.row h2,S.ne,S.le,S.ris,S.good⟩
theorem SetAt.ext {w w':World} {sb:Nat} {v:Value} {L:List Wl} {n:Nat} (S:SetAt w sb v L) (hb:Below n w w') (hn:n=w.heap.size):SetAt w' sb v L:=
 ⟨S.box.ext hb hn,S.row.ext hb hn,S.ne,S.le,S.ris,S.good⟩
theorem SetAt.ee {w w':World} {sb:Nat} {v:Value} {L:List Wl} (S:SetAt w sb v L) (hb:Below w w w'):SetAt w' sb v L:=S.ext hb rfl
def Foot (sb:Nat) (v:Value) (k:Nat):Prop:=k=sb\/v.ownBlock=some k
theorem mkOk_good {X:Wl} (h:unm X=false):GoodW X:=by
 unfold unm at h;simp only [Bool.or_eq_false_iff,Bool.not_eq_false',Yh] at h;obtain ⟨h1,h2⟩:=h;have h3:=h1;unfold mkOk mkK at h3;simp only [Yf,KS,Yh,Kg,KI] at h3;obtain ⟨hk,hab,ha,hb⟩:=h3;unfold mkW at h2;rw [Yn h1] at h2;have hA:lo2 X.A X.B=X.A:=congrArg Wl.A h2;refine ⟨ha,hb,?_,hk⟩;have hn:¬ cmpP X.B X.A < 0:=λe=>by unfold lo2 at hA;rw [Yn e] at hA;exact hab hA.symm
 have h0:cmpP X.A X.B≠0:=λe=>hab (zc.1 e);rw [zv] at hn;omega
theorem ZF {X:Wl} (h:GoodW X):unm X=false:=by
 have hab:X.A≠X.B:=λe=>by have:=h.ab;rw [e,zc.2 rfl] at this;omega
 have hk:mkOk X.A X.B X.K=true:=by unfold mkOk mkK;simp [h.va,h.vb,hab];exact h.k
 have hn:¬ cmpP X.B X.A < 0:=by have:=h.ab;rw [zv];omega
 unfold unm mkW;rw [hk];simp [lo2,hi2,hn]
theorem ky {X:Wl} (h:GoodW X):lo2 X.A X.B=X.A/\hi2 X.A X.B=X.B:=by
 have hn:¬ cmpP X.B X.A < 0:=by have:=h.ab;rw [zv];omega
 exact ⟨by unfold lo2;rw [Ye hn],by unfold hi2;rw [Ye hn]⟩
def addE (L:List Wl) (X:Wl):Int:=if unm X=true then 2 else clashW L X.A X.B
def addL (L:List Wl) (X:Wl):List Wl:=if unm X=false/\clashW L X.A X.B=0 then L.take (posW L X.A X.B) ++ X :: L.drop (posW L X.A X.B) else L
theorem Frm.refl (w:World) (p:Nat->Prop):Frm w w p:=⟨rfl,rfl,rfl,Yq _,λ_ _ _=>rfl⟩
theorem add_end {w w4 wq:World} {sb:Nat} {v v':Value} {L L':List Wl} {o:Obj} (S:SetAt w sb v L) (hw:Below w w w4) (hgr:(w4.alloc o).drew.grownBy wq v.ownBlock) (hf:Fresh v v' (w4.alloc o).drew.heap.size) (hown:WRow wq 0 v' L'):Box (wq.setCell ⟨sb,0,none⟩ v') sb [v'] 98/\WRow (wq.setCell ⟨sb,0,none⟩ v') 0 v' L'/\Frm w (wq.setCell ⟨sb,0,none⟩ v') (Foot sb v)/\Fresh v v' (w.heap.size+1)/\v'.ownBlock≠some sb:=by
 have hs:=hw.size;have hsb:=S.box.lt;have hsz:(w4.alloc o).drew.heap.size=w4.heap.size+1:=by show (w4.alloc o).heap.size=_;simp
 have hne:v'.ownBlock≠some sb:=λe=>by
  rcases hf _ e with h | h
  ·exact S.ne h
  ·rw [hsz] at h;omega
 have BQ:Box wq sb [v] 98:=Box.grownBy ((S.box.ee hw).old o).drew hgr (λe=>S.ne e.symm);have f1:Frm w wq (Foot sb v):=(Frm.of_below ((hw.alloc hs o).drew)).trans (Frm.of_grown hgr λg e=>.inr e);refine ⟨BQ.set 0 v',((Frm.refl wq (· = sb)).setCell ⟨sb,0,none⟩ rfl v').row hown (λg e=>λh=>hne (by rw [e,h])),f1.setCell ⟨sb,0,none⟩ (.inl rfl) v',λg e=>?_,hne⟩;rcases hf g e with h | h
 ·exact .inl h
 ·rw [hsz] at h;exact .inr (by omega)
theorem add_u (s:Value) (X:Wl) (hu:unm X=true) (w:World):Calls prog 85 #[s,.agg #[X.A.x,X.A.y,X.B.x,X.B.y,X.K]] w (Rt w (.int .i64 2)):=by
 go_enter func85,ntmps85
 have c1:=uP X;rw [hu] at c1;go_wp2_with fail;refine qE1 λW1 Bx hw=>?_;refine qC1 (c1 _) Bx hw λw2 Bx hw Fx=>?_;go_wp2
 go_ret
 exact ⟨rfl,by have hl:=hw.size;go_grown⟩
theorem add_c (sb:Nat) (a0:Option Addr) (c n:Nat) (L:List Wl) (X:Wl) (z:Int) (hu:unm X=false) (hc:clashW L X.A X.B=z) (hz:z≠0) (w:World) (S:SetRd w sb a0 c n L):Calls prog 85 #[pt0 sb,.agg #[X.A.x,X.A.y,X.B.x,X.B.y,X.K]] w (Rt w (.int .i64 z)):=by
 go_enter func85,ntmps85
 have hsb:=S.box.lt;have c1:=uP X;rw [hu] at c1;have hd:(z != 0)=true:=by simpa using hz
 go_wp2_with fail;refine qE1 λW1 Bx hw=>?_;refine qC1 (c1 _) Bx hw λw2 Bx hw Fx=>?_;go_wp2_with fail;have c2:=tL sb a0 c n L X.A X.B w2 (S.ee hw);rw [hc] at c2;clear Fx;refine qC1 (c2) Bx hw λw3 Bx hw Fx=>?_;go_wp2
 go_ret
 exact ⟨rfl,by have hl:=hw.size;go_grown⟩
theorem add_ok (sb:Nat) (a0:Option Addr) (c:Nat) (v:Value) (L:List Wl) (hv:v=.slice a0 L.length c) (X:Wl) (hu:unm X=false) (hc:clashW L X.A X.B=0) (hA:lo2 X.A X.B=X.A) (hB:hi2 X.A X.B=X.B) (m:Nat) (hm0:posW L X.A X.B=m) (w:World) (S:SetAt w sb v L):Calls prog 85 #[pt0 sb,.agg #[X.A.x,X.A.y,X.B.x,X.B.y,X.K]] w λe w'=>∃ v',e=.returned (.int .i64 0)/\Box w' sb [v'] 98/\WRow w' 0 v' (L.take m ++ X :: L.drop m)/\Frm w w' (Foot sb v)/\Fresh v v' (w.heap.size+1)/\v'.ownBlock≠some sb:=by
 go_enter func85,ntmps85
 have hsb:=S.box.lt;have c1:=uP X;rw [hu] at c1;go_wp2_with fail;refine qE1 λW1 Bx hw=>?_;refine qC1 (c1 _) Bx hw λw2 Bx hw Fx=>?_;go_wp2_with fail;have SS:=S.rdx v c a0 hv;have c2:=tL sb a0 c L.length L X.A X.B w2 (SS.ee hw);rw [hc] at c2;clear Fx;refine qC1 (c2) Bx hw λw3 Bx hw Fx=>?_;go_wp2_with fail;have c3:=kX sb a0 c L.length L X.A X.B w3 (SS.ee hw);rw [hA,hB,hm0] at c3;generalize fnd L m X.A X.B=bb at *
 clear Fx;refine qK1 (c3) Bx hw λw4 Bx hw=>?_;have hown:=S.row.ee hw;have BS:=S.box.ee hw;have hne:=S.ne;have hle:=S.le;have hm:=(kJ S.ris X.A X.B).2;rw [hm0] at hm;have Fx:=Bx.f;have FS:=BS.f;go_wp2_with fail;have nxb:v.ownBlock≠some w.heap.size:=λe=>by have:=(S.row.lt _ e).2;omega
 have nnb:v.ownBlock≠some w4.heap.size:=λe=>by have:=(S.row.lt _ e).2;have:=hw.size;omega
 have hz:=hw.size;clear c1 c2 c3 SS hv
 go_region_with (go_at_call 131;refine (insW_any 0 v m w4.heap.size L X _ hm hle (by first | exact (hown.alloc _).drew | exact hown.alloc _) (XZ _) (by first | exact Box.drew (Box.new rfl) | exact Box.new rfl) nnb).mono ?_;rintro e wq ⟨v',rfl,hown',hgr,hfr⟩;have BQ:=Box.grownBy (BS.old _).drew hgr (λe=>hne e.symm);obtain ⟨q0,q1,q2,q3⟩:=BQ.f;obtain ⟨aq,nq,cq,rfl⟩:=hown'.form)
 all_goals
  go_wp2
  go_ret
  obtain ⟨r1,r2,r3,r4,r5⟩:=add_end S hw hgr hfr hown';exact ⟨_,rfl,r1,r2,r3,r4,r5⟩
theorem ins_mem {L:List Wl} {X x:Wl} {m:Nat}:x∈L.take m ++ X :: L.drop m↔x=X\/x∈L:=by
 rw [Ys,Yg,or_left_comm,<-Ys,X9]
theorem Zi (sb:Nat) (v:Value) (L:List Wl) (X:Wl) (hL:L.length < 1000000) (w:World) (S:SetAt w sb v L):Calls prog 85 #[pt0 sb,.agg #[X.A.x,X.A.y,X.B.x,X.B.y,X.K]] w λe w'=>∃ v',e=.returned (.int .i64 (addE L X))/\SetAt w' sb v' (addL L X)/\Frm w w' (Foot sb v)/\Fresh v v' (w.heap.size+1):=by
 unfold addE addL;cases hu:unm X with
 | true=>
  rw [Yn rfl,Ye (by simp)];refine (add_u _ X hu w).mono ?_;rintro e w' ⟨rfl,hb⟩;exact ⟨v,rfl,S.ee hb,Frm.of_below hb,λg e=>.inl e⟩
 | false=>
  rw [Ye (by simp)];have hg:=mkOk_good hu;obtain ⟨hA,hB⟩:=ky hg;by_cases hz:clashW L X.A X.B=0
  ·rw [Yn ⟨rfl,hz⟩,hz];obtain ⟨a0,c,hv,_⟩:=S.rd;refine (add_ok sb a0 c v L hv X hu hz hA hB _ rfl w S).mono ?_;rintro e w' ⟨v',rfl,h1,h2,h3,h4,h5⟩;obtain ⟨p1,p2⟩:=kJ S.ris X.A X.B;refine ⟨v',rfl,⟨h1,h2,h5,?_,?_,?_⟩,h3,h4⟩
   ·simp only [Yi,XO,X4,X7];omega
   ·have hK:∀ x∈L,0 < x.K:=λx hx=>by have:=(S.good x hx).k;omega
    have hf:fnd L (posW L X.A X.B) X.A X.B=false:=by
     cases hf:fnd L (posW L X.A X.B) X.A X.B with
     | false=>rfl
     | true=>
      obtain ⟨hm,hfi,_⟩:=kT S.ris hf hK;have:=vK S.ris hf hK hm;have h0:=hK _ (Yx hm);have hz2:=hz;unfold clashW at hz2;rw [hA,hB] at hz2;split at hz2
      ·rw [Ye (by omega)] at hz2;cases hz2
      ·cases hz2
    have hno:=jb S.ris hf hK;rw [Xb] at hno;have hne:∀ x∈L,x.A≠X.A\/x.B≠X.B:=λx hx=>by
     have:=hno x hx;rw [yw] at this;by_cases h:x.A=X.A
     ·exact .inr λh2=>this ⟨h,h2⟩
     ·exact .inl h
    have key:∀ x,(x.A≠X.A\/x.B≠X.B)->(cmpW x X < 0↔cmpW x ⟨X.A,X.B,0⟩ < 0):=λx hx=>by
     rw [kZ,kZ];constructor
     ·rintro (h | ⟨h,h2 | ⟨h2,h3⟩⟩)
      ·exact .inl h
      ·exact .inr ⟨h,.inl h2⟩
      ·rcases hx with hx | hx
       ·exact absurd h hx
       ·exact absurd h2 hx
     ·rintro (h | ⟨h,h2 | ⟨h2,h3⟩⟩)
      ·exact .inl h
      ·exact .inr ⟨h,.inl h2⟩
      ·rcases hx with hx | hx
       ·exact absurd h hx
       ·exact absurd h2 hx
    refine (qp wholeW S.ris p2 (λi hi=>(key _ (hne _ (Yx _))).2 ((p1 i (by omega)).2 hi)) (λi hi h2=>?_)).1;have n1:¬ cmpW L[i] X < 0:=λh=>by have:=(p1 i h2).1 ((key _ (hne _ (Yx _))).1 h);omega
    have n2:cmpW L[i] X≠0:=λh=>by
     have e:=uJ.1 h;rcases hne _ (Yx h2) with h | h
     ·exact h (by rw [e])
     ·exact h (by rw [e])
    omega
   ·intro x hx;rcases ins_mem.1 hx with rfl | hx
    ·exact hg
    ·exact S.good x hx
  ·rw [Ye (λh=>hz h.2)];obtain ⟨a0,c,hv,R⟩:=S.rd;refine (add_c sb a0 c L.length L X _ hu rfl hz w R).mono ?_;rintro e w' ⟨rfl,hb⟩;exact ⟨v,rfl,S.ee hb,Frm.of_below hb,λg e=>.inl e⟩
theorem rem_0 (sb:Nat) (a0:Option Addr) (c n:Nat) (L:List Wl) (a b:Pt) (hf:(fnd L (posW L (lo2 a b) (hi2 a b)) (lo2 a b) (hi2 a b))=false) (w:World) (S:SetRd w sb a0 c n L):Calls prog 84 #[pt0 sb,a,b] w (Rt w (.int .i64 16)):=by
 go_enter func84,ntmps84
 have hsb:=S.box.lt;go_wp2_with fail;refine qE2 λW1 Ba Bb hw=>?_;have cf:=kX sb a0 c n L a b W1 (S.ee hw);rw [hf] at cf;refine qC2 (cf) Ba Bb hw λw2 Ba Bb hw Gq=>?_;go_wp2
 go_ret
 exact ⟨rfl,by have hl:=hw.size;go_grown⟩
theorem rem_end {w w4 wq:World} {sb:Nat} {v v':Value} {L L':List Wl} (S:SetAt w sb v L) (hw:Below w w w4) (hgr:w4.grownBy wq v.ownBlock) (hf:Fresh v v' w4.heap.size) (hown:WRow wq 0 v' L'):Box (wq.setCell ⟨sb,0,none⟩ v') sb [v'] 98/\WRow (wq.setCell ⟨sb,0,none⟩ v') 0 v' L'/\Frm w (wq.setCell ⟨sb,0,none⟩ v') (Foot sb v)/\Fresh v v' w.heap.size/\v'.ownBlock≠some sb:=by
 have hs:=hw.size;have hsb:=S.box.lt;have hne:v'.ownBlock≠some sb:=λe=>by
  rcases hf _ e with h | h
  ·exact S.ne h
  ·omega
 have BQ:Box wq sb [v] 98:=Box.grownBy (S.box.ee hw) hgr (λe=>S.ne e.symm);have f1:Frm w wq (Foot sb v):=(Frm.of_below hw).trans (Frm.of_grown hgr λg e=>.inr e);refine ⟨BQ.set 0 v',((Frm.refl wq (· = sb)).setCell ⟨sb,0,none⟩ rfl v').row hown (λg e=>λh=>hne (by rw [e,h])),f1.setCell ⟨sb,0,none⟩ (.inl rfl) v',λg e=>?_,hne⟩;rcases hf g e with h | h
 ·exact .inl h
 ·exact .inr (by omega)
theorem rem_1 (sb:Nat) (a0:Option Addr) (c:Nat) (v:Value) (L:List Wl) (hv:v=.slice a0 L.length c) (a b:Pt) (hf:(fnd L (posW L (lo2 a b) (hi2 a b)) (lo2 a b) (hi2 a b))=true) (m:Nat) (hm0:posW L (lo2 a b) (hi2 a b)=m) (hm:m < L.length) (w:World) (S:SetAt w sb v L):Calls prog 84 #[pt0 sb,a,b] w λe w'=>∃ v',e=.returned (.int .i64 0)/\Box w' sb [v'] 98/\WRow w' 0 v' (L.take m ++ L.drop (m+1))/\Frm w w' (Foot sb v)/\Fresh v v' w.heap.size/\v'.ownBlock≠some sb:=by
 go_enter func84,ntmps84
 have hsb:=S.box.lt;go_wp2_with fail;refine qE2 λW1 Ba Bb hw=>?_;have SS:=S.rdx v c a0 hv;have cf:=kX sb a0 c L.length L a b W1 (SS.ee hw);rw [hf,hm0] at cf;clear hv SS;refine qK2 (cf) Ba Bb hw λw2 Ba Bb hw=>?_;have BS:=S.box.ee hw;have hown:=S.row.ee hw;have hne:=S.ne;have e1:IntKind.i64.wrap ((m:Int)+1)=(m:Int)+1:=by rw [IntKind.wrap_i64];have:=S.le;omega
 have e2:wrap64 ((m:Int)+1)=(m:Int)+1:=by rw [w64];have:=S.le;omega
 have Kt:=J3 Ba.f Bb.f BS.f;go_wp2_with fail;refine (del_any 0 v m L _ hm hown).mono ?_;rintro e wq ⟨v',rfl,hown',hgr,hfr⟩;have BQ:=Box.grownBy BS hgr (λe=>hne e.symm);obtain ⟨q0,q1,q2,q3⟩:=BQ.f;obtain ⟨aq,nq,cq,rfl⟩:=hown'.form;go_wp2
 go_ret
 obtain ⟨r1,r2,r3,r4,r5⟩:=rem_end S hw hgr hfr hown';exact ⟨_,rfl,r1,r2,r3,r4,r5⟩
def remE (L:List Wl) (p q:Pt):Int:=if fnd L (posW L p q) p q=true then 0 else 16
def remL (L:List Wl) (p q:Pt):List Wl:=if fnd L (posW L p q) p q=true then L.take (posW L p q) ++ L.drop (posW L p q+1) else L
theorem cut_sub (L:List Wl) (m:Nat):(L.take m ++ L.drop (m+1)).Sublist L:=by
 induction L generalizing m with
 | nil=>simp
 | cons x L ih=>
  cases m with
  | zero=>simp
  | succ m=>simpa using ih m
theorem rem_any (sb:Nat) (v:Value) (L:List Wl) (a b:Pt) (w:World) (S:SetAt w sb v L):Calls prog 84 #[pt0 sb,a,b] w λe w'=>∃ v',e=.returned (.int .i64 (remE L (lo2 a b) (hi2 a b)))/\SetAt w' sb v' (remL L (lo2 a b) (hi2 a b))/\Frm w w' (Foot sb v)/\Fresh v v' w.heap.size:=by
 unfold remE remL;obtain ⟨a0,c,hv,R⟩:=S.rd;have hK:∀ x∈L,0 < x.K:=λx hx=>by have:=(S.good x hx).k;omega
 cases hf:(fnd L (posW L (lo2 a b) (hi2 a b)) (lo2 a b) (hi2 a b)) with
 | false=>
  rw [Ye (by simp),Ye (by simp)];refine (rem_0 sb a0 c L.length L a b hf w R).mono ?_;rintro e w' ⟨rfl,hb⟩;exact ⟨v,rfl,S.ee hb,Frm.of_below hb,λg e=>.inl e⟩
 | true=>
  rw [Yn rfl,Yn rfl];obtain ⟨hm,_⟩:=kT S.ris hf hK;refine (rem_1 sb a0 c v L hv a b hf _ rfl hm w S).mono ?_;rintro e w' ⟨v',rfl,h1,h2,h3,h4,h5⟩;have hs:=cut_sub L (posW L (lo2 a b) (hi2 a b));exact ⟨v',rfl,⟨h1,h2,h5,XD hs.length_le S.le,S.ris.sublist hs,λx hx=>S.good x (hs.subset hx)⟩,h3,h4⟩
end
end Go.Proofs.YtmpfadapbbjbkaaGreat
namespace Go.Proofs.YtmpfadapbbjbkaaGreat.FT
open Go.RowKit Go.Sort
section
variable {P:Program} {ops:Array Oper} {md:Region.Mode} {Q:Exit->Act->World->Prop} {n:Nat}
inductive Plan where
 | run (i:Nat) (rest:Plan)
 | alt (h:Nat) (after other:Plan)
 | stop
 | tail
def flow (P:Program) (ops:Array Oper) (n:Nat) (Q:Exit->Act->World->Prop):Plan->(World->Prop)->Act->World->Prop
 | .run i rest,C,a,w=>∃ o,ops[i]? = some o/\if Region.wanted o (yielded ops a.tmps) then rOper P o a C (λa'=>flow P ops n Q rest C a' w) else flow P ops n Q rest C (a.put o.dst undef) w
 | .alt h after other, C, a, w => (∃ o, ops[h]? = some o /\ ∀ w', Ext w w' -> if Region.wanted o (yielded ops a.tmps) then
       o.wp P a w' (λa' w2=>∃ C':World->Prop,(∀ x,C' x->C x)/\(∀ x y,Ext x y->C' x->C' y)/\C' w2/\flow P ops n Q after C' a' w2) Q
     else ∃ C':World->Prop,(∀ x,C' x->C x)/\(∀ x y,Ext x y->C' x->C' y)/\C' w'/\flow P ops n Q after C' (a.put o.dst undef) w')/\flow P ops n Q other C a w
 | .stop,_,_,_=>True
 | .tail,_,a,w=>∀ w',Ext w w'->wpList P ops Q (ops.toList.drop n) a w'
theorem flow_run {i:Nat} {rest:Plan} {C:World->Prop} {a:Act} {w:World} {o:Oper} (ho:ops[i]? = some o) (h:∀ K:Act->Prop,(∀ a,flow P ops n Q rest C a w->K a)->if Region.wanted o (yielded ops a.tmps) then rOper P o a C K else K (a.put o.dst undef)):flow P ops n Q (.run i rest) C a w:=
 ⟨o,ho,h _ (λ_ h=>h)⟩
def Plan.runs:Plan->List Nat
 | .run i r=>i :: r.runs
 | _=>[]
def Plan.drop (i:Nat):Plan->Plan
 | .run j r=>if j=i then r else .run j (r.drop i)
 | p=>p
def Plan.goto (h:Nat):Plan->Plan
 | .run j r=>.run j (r.goto h)
 | .alt k a o=>if k=h then a else o.goto h
 | p=>p
def planB (md:Region.Mode) (n:Nat) (ops:Array Oper):List Nat->Plan->Array Bool->Bool
 | seen,.run i r,l=>decide (i < n) && seen.isEmpty && (Region.ready md ops l).contains i && Region.free md ops l i && planB md n ops [] r (l.setIfInBounds i true)
 | seen,.alt h a o,l=>decide (h < n) && (Region.ready md ops l).contains h && planB md n ops [] a (l.setIfInBounds h true) && planB md n ops (h :: seen) o l
 | seen,.stop,l => !seen.isEmpty && (Region.ready md ops l).all seen.contains
 | seen,.tail,l=>seen.isEmpty && Region.seqB md ops (ops.size - n) n l
theorem uw {l:Array Bool} {i j:Nat} (h:Region.free md ops l j=true):Region.free md ops (l.setIfInBounds i true) j=true:=by
 unfold Region.free at *;cases ho:ops[j]? with
 | none=>rw [ho] at h;cases h
 | some oj=>
  rw [ho] at h;simp only [Xq,XT,KS,beq_iff_eq] at h ⊢;intro k hk;rcases h k hk with (h1 | h1) | h1
  ·exact .inl (.inl h1)
  ·by_cases hik:i=k
   ·subst hik;refine .inl (.inr ?_);rcases KF i l.size with h' | h'
    ·simp [h']
    ·simp [h']
   ·exact .inl (.inr (by rw [getD_set_ne true hik];exact h1))
  ·exact .inr h1
theorem Zg {l:Array Bool} {i j:Nat} {oi oj:Oper} (hj:ops[j]? = some oj) (hf:Region.free md ops l j=true) (hji:j≠i) (hun:l.getD j true=false) (hi:ops[i]? = some oi) (hr:i∈Region.ready md ops l):oj.apart ops oi=true:=by
 obtain ⟨h0,o,ho,hall⟩:=mem_ready.1 hr;have:o=oi:=XF (ho.symm.trans hi);subst this;refine Region.free_spec hj hf i o hi (Ne.symm hji) h0 λe he hb heq=>?_;have h1:=hall e he hb;rw [heq,getD_both hun] at h1;cases h1
theorem wpOp_putR {C:World->Prop} {j:Nat} {oi oj:Oper} {v:Value} (hj:ops[j]? = some oj) (hap:oi.apart ops oj=true) (hsi:∀ cs b,oi.op≠.select cs b) (hsj:∀ cs b,oj.op≠.select cs b) (hQ:∀ c x v a w,Q (.panic c) (Act.put a x v) w->Q (.panic c) a w) {K:Act->World->Prop} {a:Act} {w:World} (hy:rYields P ops C oi v a) (h:wpOp P ops Q j K (a.put oi.dst v) w):wpOp P ops Q j (λa' w'=>rYields P ops C oi v a'/\K (a'.put oi.dst v) w') a w:=by
 obtain ⟨g1,g2,g3⟩:=Oper.apart_spec hap;have e1:=execOp_put (ops:=ops) oj hsj a oi.dst v g1;have e2:=wanted_put oj a oi.dst v g1;have kp:∀ b u,rYields P ops C oi v b->rYields P ops C oi v (b.put oj.dst u):=λb u hb=>hb.same (execOp_put (ops:=ops) oi hsi b oj.dst u g3) (wanted_put oi b oj.dst u g3);have kd:∀ d,rYields P ops C oi v { a with defers:=d :: a.defers }:=λd=>hy.same rfl rfl;have cm:∀ (b:Act) u,(b.put oi.dst v).put oj.dst u=(b.put oj.dst u).put oi.dst v:=λb u=>Act.put_comm b v u g2;unfold wpOp at h ⊢;simp only [hj,e2] at h ⊢;cases hw:Region.wanted oj (yielded ops a.tmps) with
 | false=>
  simp only [hw,KB,Jf] at h ⊢;exact ⟨kp a _ hy,by rw [<-cm];exact h⟩
 | true=>
  simp only [hw,Q0] at h ⊢;rcases h with h | ⟨h,hl⟩
  ·left
   unfold Oper.wp at h ⊢;rw [e1] at h;generalize (execOp a.eval oj).run P w=r at h ⊢
   cases r with
   | halt x w'=>cases x <;> first | exact hQ _ _ _ _ _ h | exact h
   | ok n w'=>
    cases n <;> simp only [Oper.upon] at h ⊢
    case value u=>exact ⟨kp a u hy,by rw [<-cm];exact h⟩
    case skip=>exact ⟨kp a _ hy,by rw [<-cm];exact h⟩
    case defer d=>exact ⟨kp _ _ (kd d),by rw [<-cm,<-Act.put_defers];exact h⟩
    case enter f args=>
     refine Calls.mono h λe w2 he=>?_;cases e with
     | returned u=>exact ⟨kp a u hy,by rw [<-cm];exact he⟩
     | panicked c=>exact hQ _ _ _ _ _ he
     | outgrown=>exact he
    case row row args=>exact Rows.mono h λu w2 he=>⟨kp a u hy,by rw [<-cm];exact he⟩
  ·right
   exact ⟨by unfold Oper.asks at h ⊢;rw [e1] at h;exact h,hl⟩
theorem rYields.sub {C C':World->Prop} {o:Oper} {v:Value} {a:Act} (h:rYields P ops C o v a) (hs:∀ x,C' x->C x):rYields P ops C' o v a:=
 h.imp (λ⟨h1,h2⟩=>⟨h1,λw hw=>h2 w (hs w hw)⟩) id
theorem qT {i:Nat} {o:Oper} {rest:Plan} {C:World->Prop} {v:Value} {a:Act} {w:World} (ho:ops[i]? = some o) (hy:rYields P ops C o v a) (h:flow P ops n Q rest C (a.put o.dst v) w):flow P ops n Q (.run i rest) C a w:=by
 refine ⟨o,ho,?_⟩;rcases hy with ⟨h1,h2⟩ | ⟨h1,rfl⟩
 ·rw [Yn h1];exact ⟨v,h2,h⟩
 ·rw [Ye (by rw [h1];simp)];exact h
theorem qE {i:Nat} {rest:Plan} {C:World->Prop} {a:Act} {w:World} (h:flow P ops n Q (.run i rest) C a w):∃ o v,ops[i]? = some o/\rYields P ops C o v a/\flow P ops n Q rest C (a.put o.dst v) w:=by
 obtain ⟨o,ho,h⟩:=h;cases hw:Region.wanted o (yielded ops a.tmps) with
 | true=>
  rw [Yn hw] at h;obtain ⟨v,h1,h2⟩:=h;exact ⟨o,v,ho,.inl ⟨hw,h1⟩,h2⟩
 | false=>
  rw [Ye (by rw [hw];simp)] at h;exact ⟨o,undef,ho,.inr ⟨hw,rfl⟩,h⟩
theorem ux (hsel : Region.noSelect ops = true) {C : World -> Prop} {i : Nat} {w : World} : ∀ (pl : Plan) (l : Array Bool) (a : Act), planB md n ops [] pl l = true -> i ∈ Region.ready md ops l -> i ∈ pl.runs -> flow P ops n Q pl C a w ->
    ∃ o v,ops[i]? = some o/\rYields P ops C o v a/\flow P ops n Q (pl.drop i) C (a.put o.dst v) w/\planB md n ops [] (pl.drop i) (l.setIfInBounds i true)=true
 | .run j r,l,a,hB,hr,hm,hf=>by
  simp only [planB,Yf,Jl,QC] at hB;obtain ⟨⟨⟨hjn,hjr⟩,hfr⟩,hB⟩:=hB;have hjr':j∈Region.ready md ops l:=by simpa using hjr
  obtain ⟨oj,u,hoj,hyj,hf⟩:=qE hf;by_cases hji:j=i
  ·subst hji;simp only [Plan.drop,Q0];exact ⟨oj,u,hoj,hyj,hf,hB⟩
  ·have hm' : i ∈ r.runs := by
     simp only [Plan.runs,Yg] at hm;rcases hm with hm | hm
     ·exact absurd hm.symm hji
     ·exact hm
   obtain ⟨oi,v,hoi,hyi,hfi,hBi⟩:=ux hsel r _ _ hB (ready_mono hr (Ne.symm hji)) hm' hf;obtain ⟨g1,g2,g3⟩:=Oper.apart_spec (Zg hoj hfr hji (mem_ready.1 hjr').1 hoi hr);have s:=λk o (ho:ops[k]? = some o) cs b=>Region.noSelect_spec hsel k o cs b ho;have hyi':rYields P ops C oi v a:=hyi.same (execOp_put (ops:=ops) oi (s i oi hoi) a oj.dst u g1).symm (wanted_put oi a oj.dst u g1).symm;have hyj':rYields P ops C oj u (a.put oi.dst v):=hyj.same (execOp_put (ops:=ops) oj (s j oj hoj) a oi.dst v g3) (wanted_put oj a oi.dst v g3);refine ⟨oi,v,hoi,hyi',?_,?_⟩
   ·simp only [Plan.drop,Ye hji];refine qT hoj hyj' ?_;rw [<-Act.put_comm a u v g2];exact hfi
   ·simp only [Plan.drop,Ye hji,planB,Yf,Jl,QC];refine ⟨⟨⟨hjn,by simpa using ready_mono hjr' hji⟩,uw hfr⟩,?_⟩;rw [Xf _ _ (Ne.symm hji)];exact hBi
 | .alt _ _ _,_,_,_,_,hm,_=>by cases hm
 | .stop,_,_,_,_,hm,_=>by cases hm
 | .tail,_,_,_,_,hm,_=>by cases hm
theorem kA (hsel : Region.noSelect ops = true) (hQ : ∀ c x v a w, Q (.panic c) (Act.put a x v) w -> Q (.panic c) a w) {C : World -> Prop} {i : Nat} {w0 w : World} (hw : Ext w0 w) : ∀ (pl : Plan) (seen : List Nat) (l : Array Bool) (a : Act), planB md n ops seen pl l = true -> i ∈ Region.ready md ops l ->
    i ∉ pl.runs->i ∉ seen->i < n->flow P ops n Q pl C a w0 ->
    wpOp P ops Q i (λa' w'=>∃ C':World->Prop,(∀ x,C' x->C x)/\(∀ x y,Ext x y->C' x->C' y)/\C' w'/\flow P ops n Q (pl.goto i) C' a' w') a w/\planB md n ops [] (pl.goto i) (l.setIfInBounds i true)=true
 | .run j r,seen,l,a,hB,hr,hm,_,hin,hf=>by
  simp only [planB,Yf] at hB;obtain ⟨⟨⟨⟨hjn,_⟩,hjr⟩,hfr⟩,hB⟩:=hB;have hjr':j∈Region.ready md ops l:=by simpa using hjr
  have hji:j≠i:=λe=>hm (by rw [e];exact Yy);obtain ⟨oj,u,hoj,hyj,hf⟩:=qE hf;obtain ⟨h1,h2⟩:=kA hsel hQ hw r [] _ _ hB (ready_mono hr (Ne.symm hji)) (λh=>hm (X6 _ h)) (by simp) hin hf;obtain ⟨_,oi,hoi,_⟩:=mem_ready.1 hr;have s:=λk o (ho:ops[k]? = some o) cs b=>Region.noSelect_spec hsel k o cs b ho;have hap:=Zg hoj hfr hji (mem_ready.1 hjr').1 hoi hr;refine ⟨wpOp_mono (λa' w' h=>?_) (wpOp_putR hoi hap (s j oj hoj) (s i oi hoi) hQ hyj h1),?_⟩
  ·obtain ⟨hy,C',hs,hc,hC,hf⟩:=h;exact ⟨C',hs,hc,hC,qT hoj (rYields.sub hy hs) hf⟩
  ·simp only [Plan.goto,planB,Yf,Jl,QC];refine ⟨⟨⟨hjn,by simpa using ready_mono hjr' hji⟩,uw hfr⟩,?_⟩;rw [Xf _ _ (Ne.symm hji)];exact h2
 | .alt k a2 o,seen,l,a,hB,hr,hm,hs,hin,hf=>by
  simp only [planB,Yf] at hB;obtain ⟨⟨⟨_,_⟩,hB1⟩,hB2⟩:=hB;obtain ⟨⟨ok,hok,h1⟩,h2⟩:=hf;by_cases hki:k=i
  ·subst hki;simp only [Plan.goto,Q0];refine ⟨?_,hB1⟩;have:=h1 w hw;unfold wpOp;simp only [hok];split
   ·rename_i hwt;rw [Yn hwt] at this;exact .inl this
   ·rename_i hwt;rw [Ye hwt] at this;exact this
  ·simp only [Plan.goto,Ye hki];have hs':i ∉ k :: seen:=λh=>by
    rcases Yg.1 h with h | h
    ·exact hki h.symm
    ·exact hs h
   cases o with
   | run j r=>simp [planB] at hB2
   | alt k2 a3 o2=>exact kA hsel hQ hw (.alt k2 a3 o2) _ _ _ hB2 hr (by simp [Plan.runs]) hs' hin h2
   | stop=>exact kA hsel hQ hw .stop _ _ _ hB2 hr (by simp [Plan.runs]) hs' hin h2
   | tail=>simp [planB] at hB2
 | .stop,seen,l,a,hB,hr,_,hs,_,_=>by
  simp only [planB,Yf] at hB;have:=Xq.1 hB.2 i hr;exact absurd (by simpa using this) hs
 | .tail,seen,l,a,hB,hr,_,hs,hin,_=>by
  simp only [planB,Yf] at hB;have:=seqB_ready hB.2 i hr;omega
def undone (n:Nat) (l:Array Bool):Nat:=((List.range n).filter λi => !l.getD i true).length
theorem kz {p q:Nat->Bool} {x:Nat}:∀ {l:List Nat},(∀ y,q y=true->p y=true)->x∈l->p x=true->q x=false->(l.filter q).length < (l.filter p).length
 | [],_,hx,_,_=>by cases hx
 | y :: l,h,hx,hp,hq=>by
  have le:∀ l:List Nat,(l.filter q).length<=(l.filter p).length:=λl=>by
   induction l with
   | nil=>simp
   | cons z l ih=>
    cases hz:q z with
    | true=>rw [XC hz,XC (h z hz)];simpa using ih
    | false=>
     rw [XH (by rw [hz];simp)];cases hz2:p z with
     | true=>rw [XC hz2,XO];omega
     | false=>rw [XH (by rw [hz2];simp)];exact ih
  rcases Yg.1 hx with rfl | hx
  ·rw [XC hp,XH (by rw [hq];simp),XO];have:=le l;omega
  ·have ih:=kz h hx hp hq;cases hz:q y with
   | true=>rw [XC hz,XC (h y hz)];simpa using ih
   | false=>
    rw [XH (by rw [hz];simp)];cases hz2:p y with
    | true=>rw [XC hz2,XO];omega
    | false=>rw [XH (by rw [hz2];simp)];exact ih
theorem undone_set {l:Array Bool} {i:Nat} (hi:i < n) (hs:l.size=ops.size) (hi2:i < ops.size) (hu:l.getD i true=false):undone n (l.setIfInBounds i true) < undone n l:=by
 refine kz (x:=i) (λy hy=>?_) (XT.2 hi) (by rw [hu];rfl) (by simp [hs,hi2]);by_cases hiy:i=y
 ·subst hiy;rw [hu];rfl
 ·rw [getD_set_ne true hiy] at hy;exact hy
theorem jo:∀ (f:Nat) (l:Array Bool) (a:Act) (w:World),wpAny P md ops Q f l a w->wpAny P md ops Q (f+1) l a w
 | 0,l,a,w,h=>⟨λ_=>h.2,λi hi=>by rw [h.1] at hi;cases hi⟩
 | f+1,l,a,w,h=>⟨h.1,λi hi=>wpOp_mono (λa' w' h'=>jo f _ a' w' h') (h.2 i hi)⟩
theorem wpAny_le {f g:Nat} (hfg:f<=g) {l:Array Bool} {a:Act} {w:World} (h:wpAny P md ops Q f l a w):wpAny P md ops Q g l a w:=by
 induction hfg with
 | refl=>exact h
 | step _ ih=>exact jo _ _ _ _ ih
theorem vO (hsel:Region.noSelect ops=true) (hn:n < ops.size) (hsk:Region.sinkB md ops n=true) (hch:Region.chainB md ops n=true) (hQ:∀ c x v a w,Q (.panic c) (Act.put a x v) w->Q (.panic c) a w):∀ (f:Nat) (pl:Plan) (C:World->Prop) (l:Array Bool) (a:Act) (w0 w:World),planB md n ops [] pl l=true->HeadInv md ops n l->undone n l+(ops.size - n)<=f->(∀ x y,Ext x y->C x->C y)->C w->Ext w0 w->flow P ops n Q pl C a w0->wpAny P md ops Q f l a w:=by
 intro f;induction f with
 | zero=>intro pl C l a w0 w hB hs hu _ _ hw hf;omega
 | succ f ih=>
  intro pl C l a w0 w hB inv hu hc hC hw hf;by_cases hnt:pl=.tail
  ·subst hnt;simp only [planB,Yf,Jl,true_and] at hB;have hl:(ops.toList.drop n).length=ops.size - n:=by simp
   refine wpAny_le (f:=ops.size - n) (by omega) ?_;rw [<-hl];exact wpAny_of_seq _ n l a w (λj=>by simp [KC]) (by rw [hl];exact hB) (hf w hw)
  have hne:Region.ready md ops l≠[]:=λhr=>by
   cases pl with
   | run i r=>simp [planB,hr] at hB
   | alt h a2 o=>simp [planB,hr] at hB
   | stop=>simp [planB] at hB
   | tail=>exact hnt rfl
  refine ⟨λhr=>absurd hr hne,λi hi=>?_⟩;obtain ⟨h0,o,ho,_⟩:=mem_ready.1 hi;have hisz:=(XQ.1 ho).1;rcases KF i n with hin | hin
  ·have hlt:=undone_set (ops:=ops) hin inv.size hisz h0;by_cases hm:i∈pl.runs
   ·obtain ⟨oi,v,hoi,hy,hf2,hB2⟩:=ux hsel pl l a hB hi hm hf;exact zn hoi hC hy λw' hw'=>ih _ C _ _ w0 w' hB2 (inv.set hi hin) (by omega) hc (hc _ _ hw' hC) (Ext.trans hw hw') hf2
   ·obtain ⟨h1,hB2⟩:=kA hsel hQ hw pl [] l a hB hi hm (by simp) hin hf;refine wpOp_mono (λa' w' h=>?_) h1;obtain ⟨C',_,hc',hC',hf2⟩:=h;exact ih _ C' _ _ w' w' hB2 (inv.set hi hin) (by omega) hc' hC' (Below.refl _ _) hf2
  ·exfalso
   have hdone:∀ j,j < n->l.getD j true=true:=λj hj=>by
    cases h:l.getD j true with
    | true=>rfl
    | false=>exact absurd hi (tail_waits hsk hch hn inv _ j rfl hj h i hin)
   cases pl with
   | run j r=>
    simp only [planB,Yf,Yh] at hB;have h1:j∈Region.ready md ops l:=by simpa using hB.1.1.2
    have:=(mem_ready.1 h1).1;rw [hdone j hB.1.1.1.1] at this;cases this
   | alt h a2 o=>
    simp only [planB,Yf,Yh] at hB;have h1:h∈Region.ready md ops l:=by simpa using hB.1.1.2
    have:=(mem_ready.1 h1).1;rw [hdone h hB.1.1.1] at this;cases this
   | stop=>simp [planB] at hB
   | tail=>exact hnt rfl
theorem wp_region_flow {id:Nat} {a:Act} {w:World} {l:List Oper} (n:Nat) (pl:Plan) (hm:P.follows .mixedOrders=true) (hB:(Region.noSelect l.toArray && decide (n < l.toArray.size) && Region.sinkB .any l.toArray n && Region.chainB .any l.toArray n && planB .any n l.toArray [] pl (Array.replicate l.toArray.size false))=true) (hQ:∀ c x v a w,Q (.panic c) (Act.put a x v) w->Q (.panic c) a w) {C:World->Prop} (hC:∀ w',Below w w w'->C w') (hc:∀ w',C w'->Below w w w') (h:flow P l.toArray n Q pl C a w):(Code.region id l.toArray true).wp P Q a w:=by
 simp only [Yf,Yh] at hB;obtain ⟨⟨⟨⟨h1,h2⟩,h3⟩,h4⟩,h5⟩:=hB;refine wp_region_any hm ?_;have hx:Ext w { w with drawn:=w.drawn+1 }:=⟨rfl,rfl,rfl,Yq _,λ_ _=>rfl⟩;exact vO h1 h2 h3 h4 hQ _ pl C _ a w _ h5 headInv0 (by
  have:=KP (λi => !(Array.replicate l.toArray.size false).getD i true) (List.range n);rw [JD] at this;unfold undone;omega) (λx y hxy hx=>hC _ (Ext.trans (a:=w) (hc _ hx) hxy)) (hC _ hx) hx h
theorem flow_at {k:Nat} {after other:Plan} {C:World->Prop} {a:Act} {w:World} {o:Oper} (hC:∀ x y,Ext x y->C x->C y) (ho:ops[k]? = some o) (h2:flow P ops n Q other C a w) (h:∀ w',Ext w w'->∀ K:Act->World->Prop,(∀ a' w2,C w2->flow P ops n Q after C a' w2->K a' w2)->if Region.wanted o (yielded ops a.tmps) then o.wp P a w' K Q else K (a.put o.dst undef) w'):flow P ops n Q (.alt k after other) C a w:=
 ⟨⟨o,ho,λw' hw'=>h w' hw' _ λ_ _ h1 h2=>⟨C,λ_ h=>h,hC,h1,h2⟩⟩,h2⟩
end
end Go.Proofs.YtmpfadapbbjbkaaGreat.FT
