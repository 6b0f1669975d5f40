import Derived.Test.YthhcehmmglmlfaaGreatPgo5
import Derived.Maps.AppendAt
import Derived.Laws.AppendOwnNone
set_option maxRecDepth 100000
set_option maxHeartbeats 8000000
set_option linter.all false
namespace Go.Proofs.YthhcehmmglmlfaaGreat
open _root_.Go.Proofs.Tryz
section
open Go.RowKit
theorem Yi {a b c d:Pt} (s:Seg2 a b c d):Seg2 b a c d:=⟨s.vb,s.va,s.vc,s.vd,s.nab.symm,s.ncd⟩
theorem uz {a b c d:Pt} (s:Seg2 a b c d):Seg2 a b d c:=⟨s.va,s.vb,s.vd,s.vc,s.nab,s.ncd.symm⟩
theorem vB {a b c d:Pt} (s:Seg2 a b c d):Seg2 c d a b:=⟨s.vc,s.vd,s.va,s.vb,s.ncd,s.nab⟩
theorem Zv {a b c d:Pt} (s:Seg2 a b c d) (h:det a b c=0/\det a b d=0):det c d a=0/\det c d b=0:=by
 have i1:=I1 a b c d;have i2:=I2 a b c d;have hE:=tw s.nab;rw [h.1,h.2] at i1 i2;simp only [Jh,Jn,Qp] at i1 i2;constructor
 ·rcases JF.1 i1 with h | h
  ·omega
  ·exact h
 ·rcases JF.1 i2 with h | h
  ·omega
  ·exact h
theorem X7 (a b c d:Pt):meetS b a c d=meetS a b c d:=by
 by_cases s:Seg2 a b c d
 case neg=>rw [yQ s,yQ (λk=>s (Yi k))]
 case pos=>
 have d1:=zW a b c;have d2:=zW a b d;by_cases hl:det a b c=0/\det a b d=0
 ·rw [yI s hl,yI (Yi s) (by omega),q8 s,q8 (Yi s)]
  (repeat' split) <;> omega
 ·by_cases e:a=c\/a=d\/b=c\/b=d
  ·rw [xF s hl e,xF (Yi s) (by omega) (by rcases e with e | e | e | e <;> simp [e])]
  ·rw [yv s hl e,yv (Yi s) (by omega) (λk=>e (by rcases k with k | k | k | k <;> simp [k])),d1,d2,xI,xI];unfold fin;(repeat' split) <;> omega
theorem X6 (a b c d:Pt):meetS a b d c=meetS a b c d:=by
 by_cases s:Seg2 a b c d
 case neg=>rw [yQ s,yQ (λk=>s (uz k))]
 case pos=>
 have d1:=zW c d a;have d2:=zW c d b;by_cases hl:det a b c=0/\det a b d=0
 ·rw [yI s hl,yI (uz s) (by omega),q8 s,q8 (uz s)]
  (repeat' split) <;> omega
 ·by_cases e:a=c\/a=d\/b=c\/b=d
  ·rw [xF s hl e,xF (uz s) (by omega) (by rcases e with e | e | e | e <;> simp [e])]
  ·rw [yv s hl e,yv (uz s) (by omega) (λk=>e (by rcases k with k | k | k | k <;> simp [k])),d1,d2,xI,xI];unfold fin;(repeat' split) <;> omega
theorem jY (a b c d:Pt):meetS c d a b=meetS a b c d:=by
 by_cases s:Seg2 a b c d
 case neg=>rw [yQ s,yQ (λk=>s (vB k))]
 case pos=>
 by_cases hl:det a b c=0/\det a b d=0
 ·rw [yI s hl,yI (vB s) (Zv s hl),q8 s,q8 (vB s)]
  (repeat' split) <;> omega
 ·have hl2:¬ (det c d a=0/\det c d b=0):=λk=>hl (Zv (vB s) k);by_cases e:a=c\/a=d\/b=c\/b=d
  ·rw [xF s hl e,xF (vB s) hl2 (by rcases e with e | e | e | e <;> simp [e])]
  ·rw [yv s hl e,yv (vB s) hl2 (λk=>e (by rcases k with k | k | k | k <;> simp [k]))];unfold fin;(repeat' split) <;> omega
theorem meet_bd (a b c d:Pt):0<=meetS a b c d/\meetS a b c d<=3:=by
 by_cases s:Seg2 a b c d
 case neg=>rw [yQ s];omega
 case pos=>
 by_cases hl:det a b c=0/\det a b d=0
 ·rw [yI s hl,q8 s];split <;> omega
 ·by_cases e:a=c\/a=d\/b=c\/b=d
  ·rw [xF s hl e];omega
  ·rw [yv s hl e];unfold fin;(repeat' split) <;> omega
theorem meet_self {a b:Pt} (ha:vld a) (hb:vld b) (h:a≠b):meetS a b b a=3:=by
 have s:Seg2 a b b a:=⟨ha,hb,hb,ha,h,h.symm⟩;have n:=key_n s;rw [yI s ⟨det_2 _ _,det_1 _ _⟩,q8 s,JH (by omega)]
theorem meet_one {a b c d:Pt} (h:meetS a b c d=1):ori a b c * ori a b d = -1/\ori c d a * ori c d b = -1:=by
 by_cases s:Seg2 a b c d
 case neg=>rw [yQ s] at h;omega
 case pos=>
 rw [ori_v s.va s.vb s.vc,ori_v s.va s.vb s.vd,ori_v s.vc s.vd s.va,ori_v s.vc s.vd s.vb];by_cases hl:det a b c=0/\det a b d=0
 ·rw [yI s hl,q8 s] at h;split at h <;> omega
 ·by_cases e:a=c\/a=d\/b=c\/b=d
  ·rw [xF s hl e] at h;omega
  ·rw [yv s hl e] at h;have c1:=zL (det c d a);have c2:=zL (det c d b);have c3:=zL (det a b c);have c4:=zL (det a b d);generalize sgn (det c d a)=A at *
   generalize sgn (det c d b)=B at *
   generalize sgn (det a b c)=C at *
   generalize sgn (det a b d)=D at *
   have hh:A≠B/\C≠D/\A≠0/\B≠0/\C≠0/\D≠0:=by
    unfold fin at h;(repeat' split at h) <;> omega
   have k1:A=1/\B = -1\/A = -1/\B=1:=by omega
   have k2:C=1/\D = -1\/C = -1/\D=1:=by omega
   rcases k1 with ⟨rfl,rfl⟩ | ⟨rfl,rfl⟩ <;> rcases k2 with ⟨rfl,rfl⟩ | ⟨rfl,rfl⟩ <;> decide
theorem qe {p a b:Pt} (hp:vld p) (ha:vld a) (hb:vld b) (hd:det a b p=0) (h:key a<=key p/\key p<=key b\/key b<=key p/\key p<=key a):onS p a b=true:=by
 unfold onS;rw [hp,ha,hb,ori_v ha hb hp,hd,xO ha hp,xO hp hb];have c1:=zL (key a - key p);have c2:=zL (key p - key b);have:0<=sgn (key a - key p) * sgn (key p - key b):=by
  rcases c1 with ⟨e1,t1⟩ | ⟨e1,t1⟩ | ⟨e1,t1⟩ <;> rcases c2 with ⟨e2,t2⟩ | ⟨e2,t2⟩ | ⟨e2,t2⟩ <;> rw [e1,e2] <;> omega
 simp [s0,this]
theorem Yf {p a b:Pt} (h:tch p a b≠0):onS p a b=true:=by
 rw [on_eq];unfold tch at h;cases k:onR p a b with
 | true=>rfl
 | false=>rw [JH k] at h;exact absurd rfl h
theorem meet_two {a b c d:Pt} (h:2<=meetS a b c d):(onS a c d || (onS b c d || (onS c a b || onS d a b)))=true:=by
 by_cases s:Seg2 a b c d
 case neg=>rw [yQ s] at h;omega
 case pos=>
 by_cases hl:det a b c=0/\det a b d=0
 ·rw [yI s hl,q8 s] at h;have l2:=Zv s hl;split at h
  case isFalse=>omega
  case isTrue k=>
  rcases VW (min (key a) (key b)) (min (key c) (key d)) with t | t
  ·rcases VW (key c) (key d) with u | u
   ·rw [qe s.vc s.va s.vb hl.1 (by omega)];simp
   ·rw [qe s.vd s.va s.vb hl.2 (by omega)];simp
  ·rcases VW (key a) (key b) with u | u
   ·rw [qe s.va s.vc s.vd l2.1 (by omega)];simp
   ·rw [qe s.vb s.vc s.vd l2.2 (by omega)];simp
 ·rw [vQ,kJ s hl] at h;split at h
  ·omega
  ·by_cases t1:tch a c d=0
   ·by_cases t2:tch b c d=0
    ·by_cases t3:tch c a b=0
     ·by_cases t4:tch d a b=0
      ·rw [t1,t2,t3,t4] at h;exact absurd h (by decide)
      ·rw [Yf t4];simp
     ·rw [Yf t3];simp
    ·rw [Yf t2];simp
   ·rw [Yf t1];simp
-- moved along the grid
def mv (p:Pt) (x y:Int):Pt:=⟨p.x+x,p.y+y⟩
section
variable (x y:Int)
variable {a b c d:Pt} (ha:vld a) (hb:vld b) (hc:vld c) (hd:vld d) (ha':vld (mv a x y)) (hb':vld (mv b x y)) (hc':vld (mv c x y)) (hd':vld (mv d x y))
include ha hb hc hd ha' hb' hc' hd'
end
section
variable {a:Pt} {x y k i:Int}
def pI (a:Pt) (x y i:Int):Pt:=⟨a.x+i * x,a.y+i * y⟩
end
theorem lo_le {a b:Pt}:(lo2 a b=a/\hi2 a b=b/\¬ cmpP b a < 0)\/(lo2 a b=b/\hi2 a b=a/\cmpP b a < 0):=by
 unfold lo2 hi2;by_cases h:cmpP b a < 0
 ·simp [h]
 ·simp [h]
def ff (al be:Int) (p:Pt):Int:=al * p.x+be * p.y
theorem cross_eq (al be:Int) (a b c d:Pt):det a b d * ff al be c - det a b c * ff al be d=det c d a * ff al be b - det c d b * ff al be a:=by
 unfold det ff;grind
theorem cross_d (a b c d:Pt):det a b d - det a b c=det c d a - det c d b:=by unfold det;grind
theorem on_ff {p a b:Pt} (al be:Int) (hab:a≠b) (h:onS p a b) {m:Int}:(ff al be a < m->ff al be b < m->ff al be p < m)/\(m<=ff al be a->m<=ff al be b->m<=ff al be p):=by
 unfold onS at h;simp only [JB,JA] at h;obtain ⟨hp,ha,hb,h0,h1⟩:=h;have hd:det a b p=0:=by rw [ori_v ha hb hp] at h0;exact yZ.1 h0
 obtain ⟨k0,k1⟩:=(on_k hab hd).1 h1;obtain ⟨c1,c2⟩:=coll hd;have hE:=tw hab;have e:EE a b * (ff al be p - ff al be a)=kk a b p * (ff al be b - ff al be a):=by
  have:EE a b * (ff al be p - ff al be a)=al * (EE a b * (p.x - a.x))+be * (EE a b * (p.y - a.y)):=by unfold ff;grind
  rw [this,c1,c2];unfold ff;grind
 generalize ff al be p=fp at *
 generalize ff al be a=fa at *
 generalize ff al be b=fb at *
 generalize EE a b=E at *
 generalize kk a b p=k at *
 have e2:E * (fp - m)=k * (fb - m)+(E - k) * (fa - m):=by grind
 constructor
 ·intro ha' hb';have x1:k * (fb - m)<=0:=QV k0 (by omega);have x2:(E - k) * (fa - m)<=0:=QV (by omega) (by omega);have x3:E * (fp - m) < 0:=by
   rcases Jy k0 with hk | hk
   ·have:=QE hk (show fb - m < 0 by omega);omega
   ·have:(E - k) * (fa - m) < 0:=QE (by omega) (by omega);omega
  rcases VH (fp - m) 0 with h | h
  ·omega
  ·have:=JD (Jb hE) h;omega
 ·intro ha' hb';have x1:0<=k * (fb - m):=JD k0 (by omega);have x2:0<=(E - k) * (fa - m):=JD (by omega) (by omega);rcases VH (fp - m) 0 with h | h
  ·have:=QE hE h;omega
  ·omega
theorem meet_apart {a b c d:Pt} (al be m:Int) (ha:ff al be a < m) (hb:ff al be b < m) (hc:m<=ff al be c) (hd:m<=ff al be d):meetS a b c d=0:=by
 have hbd:=meet_bd a b c d;by_cases hs:Seg2 a b c d
 case neg=>exact yQ hs
 by_cases h2:2<=meetS a b c d
 ·have h:=meet_two h2;simp only [V0] at h;rcases h with h | h | h | h
  ·have:=(on_ff al be hs.ncd h (m:=m)).2 hc hd;omega
  ·have:=(on_ff al be hs.ncd h (m:=m)).2 hc hd;omega
  ·have:=(on_ff al be hs.nab h (m:=m)).1 ha hb;omega
  ·have:=(on_ff al be hs.nab h (m:=m)).1 ha hb;omega
 ·by_cases h1:meetS a b c d=1
  ·obtain ⟨o1,o2⟩:=meet_one h1;rw [ori_v hs.va hs.vb hs.vc,ori_v hs.va hs.vb hs.vd] at o1;rw [ori_v hs.vc hs.vd hs.va,ori_v hs.vc hs.vd hs.vb] at o2;have e:=cross_eq al be a b c d;have e':=cross_d a b c d;generalize ff al be a=fa at *
   generalize ff al be b=fb at *
   generalize ff al be c=fc at *
   generalize ff al be d=fd at *
   generalize det a b c=s at *
   generalize det a b d=t at *
   generalize det c d a=u at *
   generalize det c d b=v at *
   have x:t * (fc - m) - s * (fd - m)=u * (fb - m) - v * (fa - m):=by grind
   rcases zL s with ⟨s1,s2⟩ | ⟨s1,s2⟩ | ⟨s1,s2⟩ <;> rcases zL t with ⟨t1,t2⟩ | ⟨t1,t2⟩ | ⟨t1,t2⟩ <;> rw [s1,t1] at o1 <;> try omega
   ·rcases zL u with ⟨u1,u2⟩ | ⟨u1,u2⟩ | ⟨u1,u2⟩ <;> rcases zL v with ⟨v1,v2⟩ | ⟨v1,v2⟩ | ⟨v1,v2⟩ <;> rw [u1,v1] at o2 <;> try omega
    have y1:0<=t * (fc - m):=JD (by omega) (by omega);have y2:s * (fd - m)<=0:=VP (by omega) (by omega);have y3:u * (fb - m) < 0:=QE u2 (by omega);have y4:0 < v * (fa - m):=Qt v2 (by omega);omega
   ·rcases zL u with ⟨u1,u2⟩ | ⟨u1,u2⟩ | ⟨u1,u2⟩ <;> rcases zL v with ⟨v1,v2⟩ | ⟨v1,v2⟩ | ⟨v1,v2⟩ <;> rw [u1,v1] at o2 <;> try omega
    have y1:t * (fc - m)<=0:=VP (by omega) (by omega);have y2:0<=s * (fd - m):=JD (by omega) (by omega);have y3:0 < u * (fb - m):=Qt u2 (by omega);have y4:v * (fa - m) < 0:=QE v2 (by omega);omega
  ·omega
def Apart (L:List Wl):Prop:=L.Pairwise λx y=>meetS x.A x.B y.A y.B=0
theorem xc {X:Wl} (h:GoodW X):meetS X.A X.B X.A X.B≠0:=by
 have hab:X.A≠X.B:=λe=>by have:=h.ab;rw [e,zP.2 rfl] at this;omega
 rw [X6,meet_self h.va h.vb hab];decide
open Go.Sort
attribute [local go_sem] rOper rAt rUpon cell_set sg_i64 sg_u64 alloc_cell alloc_frozen
attribute [local go_sem 10000] pt_eql pt_neq wal_eql wal_neq
attribute [local irreducible] rWalk
theorem alike_W (a1 a2:Option Addr) (c1 c2:Nat) (L1 L2:List Wl) (w:World) (h1:RowAt cW 5 w a1 L1) (h2:RowAt cW 5 w a2 L2) (hl1:L1.length<=1000000):Calls prog 12 #[.slice a1 L1.length c1,.slice a2 L2.length c2] w (Rt w (.bool (decide (L1=L2)))):=by
 by_cases hl:L1.length=L2.length
 case neg=>
  have hne:L1≠L2:=λe=>hl (by rw [e]);have hd:decide (L1=L2)=false:=by simpa using hne
  rw [hd];have hb2:((L1.length:Int) != L2.length)=true:=by rw [UU];omega
  clear h1 h2 hne hd;generalize L1.length=n1 at *
  generalize L2.length=n2 at *
  go_enter func12,ntmps12
  go_wp2
  go_ret
  exact ⟨rfl,Below.refl _ _⟩
 case pos=>
  obtain ⟨n,hn1⟩:∃ n,L1.length=n:=⟨_,rfl⟩;have hn2:L2.length=n:=by rw [<-hl,hn1]
  have hb2:((n:Int) != n)=false:=by simp
  rw [hn1,hn2];have hn:n<=1000000:=hn1▸hl1;have H1:=hdd hn1;have H2:=hdd hn2;clear hn1 hn2 hl hl1
  go_enter func12,ntmps12
  go_wp2
  go_loopw [5] (λi wr=>∃ k:Nat,k<=n/\i=.int .i64 k/\Hi (L1.take k=L2.take k)/\Below w w wr) (λi _=>n - (intOf i).toNat)
  case atStart=>exact ⟨0,Jl _,rfl,hdd rfl,Below.refl _ _⟩
  case round=>
   obtain ⟨k,hk,rfl,hT,hw⟩:=hrel;by_cases hlt:k < n
   ·have r1:=h1.ee hw;have r2:=h2.ee hw;obtain ⟨ad1,A1,ea1,eA1,hA1⟩:=r1.five (j:=k) (by rw [H1.o];exact hlt);obtain ⟨_,q0,q1,q2,q3,q4⟩:=hA1.f;obtain ⟨ad2,A2,ea2,eA2,hA2⟩:=r2.five (j:=k) (by rw [H2.o];exact hlt);obtain ⟨_,p0,p1,p2,p3,p4⟩:=hA2.f;clear r1 r2 hA1 hA2;have e1:L1[k]'(by rw [H1.o];exact hlt)=L1[k]'(by rw [H1.o];exact hlt):=rfl;by_cases he:L1[k]'(by rw [H1.o];exact hlt)=L2[k]'(by rw [H2.o];exact hlt)
    ·have hd:weqI (L1[k]'(by rw [H1.o];exact hlt)).A.x (L1[k]'(by rw [H1.o];exact hlt)).A.y (L1[k]'(by rw [H1.o];exact hlt)).B.x (L1[k]'(by rw [H1.o];exact hlt)).B.y (L1[k]'(by rw [H1.o];exact hlt)).K (L2[k]'(by rw [H2.o];exact hlt)).A.x (L2[k]'(by rw [H2.o];exact hlt)).A.y (L2[k]'(by rw [H2.o];exact hlt)).B.x (L2[k]'(by rw [H2.o];exact hlt)).B.y (L2[k]'(by rw [H2.o];exact hlt)).K=true:=Z0.2 he;have HE:=hdd he;clear he e1;go_wp2
     go_quiet (fail)
     go_wp2
     go_roundw
     case rel => 
      refine ⟨k+1,by omega,by go_num,hdd ?_,?_⟩
      ·rw [JK (by rw [H1.o];exact hlt),JK (by rw [H2.o];exact hlt),hT.o,HE.o]
      ·exact hw.trans ⟨rfl,rfl,rfl,JJ _,λ_ _=>rfl⟩
     case measure=>simp [intOf];omega
    ·have hd:weqI (L1[k]'(by rw [H1.o];exact hlt)).A.x (L1[k]'(by rw [H1.o];exact hlt)).A.y (L1[k]'(by rw [H1.o];exact hlt)).B.x (L1[k]'(by rw [H1.o];exact hlt)).B.y (L1[k]'(by rw [H1.o];exact hlt)).K (L2[k]'(by rw [H2.o];exact hlt)).A.x (L2[k]'(by rw [H2.o];exact hlt)).A.y (L2[k]'(by rw [H2.o];exact hlt)).B.x (L2[k]'(by rw [H2.o];exact hlt)).B.y (L2[k]'(by rw [H2.o];exact hlt)).K=false:=by rw [<-QO,Z0];exact he
     have hne:decide (L1=L2)=false:=by rw [QF];intro e;subst e;exact he rfl
     have HN:=hdd hne;clear he e1 hne;go_wp2
     go_quiet (fail)
     go_wp2
     go_ret
     exact ⟨yO HN.o.symm,hw.trans ⟨rfl,rfl,rfl,JJ _,λ_ _=>rfl⟩⟩
   ·have he : L1 = L2 := by
      have:=hT.o
      rwa [JV (by rw [H1.o];omega),JV (by rw [H2.o];omega)] at this
    have hd:decide (L1=L2)=true:=by simpa using he
    have HN:=hdd hd;clear he hd;go_wp2
    go_ret
    exact ⟨yO HN.o.symm,hw⟩
theorem rcmpW_0 (S T:Wl) (h0:¬ cmpP S.A T.A=0) (w:World):Calls prog 82 #[.agg #[S.A.x,S.A.y,S.B.x,S.B.y,S.K],.agg #[T.A.x,T.A.y,T.B.x,T.B.y,T.K]] w (Rt w (.int .i64 (cmpP S.A T.A))):=by
 have c1:=zV S.A T.A;have hd:(cmpP S.A T.A == 0)=false:=by simpa using h0
 clear h0;generalize cmpP S.A T.A=n at *
 go_enter func82,ntmps82
 go_wp2_with fail;refine qE2 λW1 Bs Bt hw=>?_;refine qC2 (c1 _) Bs Bt hw λw2 Bs Bt hw Gu=>?_;go_wp2
 go_ret
 exact ⟨rfl,by have hl:=hw.size;go_grown⟩
theorem rcmpW_1 (S T:Wl) (h0:cmpP S.A T.A=0) (h1:¬ cmpP S.B T.B=0) (w:World):Calls prog 82 #[.agg #[S.A.x,S.A.y,S.B.x,S.B.y,S.K],.agg #[T.A.x,T.A.y,T.B.x,T.B.y,T.K]] w (Rt w (.int .i64 (cmpP S.B T.B))):=by
 have c1:=zV S.A T.A;have c2:=zV S.B T.B;rw [h0] at c1;have hd:(cmpP S.B T.B == 0)=false:=by simpa using h1
 clear h0 h1;generalize cmpP S.B T.B=n at *
 go_enter func82,ntmps82
 go_wp2_with fail;refine qE2 λW1 Bs Bt hw=>?_;refine qC2 (c1 _) Bs Bt hw λw2 Bs Bt hw Gu=>?_;go_wp2_with fail;clear Gu;refine qC2 (c2 _) Bs Bt hw λw3 Bs Bt hw Gu=>?_;go_wp2
 go_ret
 exact ⟨rfl,by have hl:=hw.size;go_grown⟩
theorem rcmpW_2 (S T:Wl) (h0:cmpP S.A T.A=0) (h1:cmpP S.B T.B=0) (hs:0<=S.K/\S.K<=2) (ht:0<=T.K/\T.K<=2) (w:World):Calls prog 82 #[.agg #[S.A.x,S.A.y,S.B.x,S.B.y,S.K],.agg #[T.A.x,T.A.y,T.B.x,T.B.y,T.K]] w (Rt w (.int .i64 (cmpN S.K T.K))):=by
 have c1:=zV S.A T.A;have c2:=zV S.B T.B;rw [h0] at c1;rw [h1] at c2;have c3:∀ W:World,Calls prog 129 #[.int .i64 (S.K - T.K)] W λe w'=>e=.returned (.int .i64 (sgn (S.K - T.K)))/\Below W W w':=λW=>(Zd (S.K - T.K) W).mono λ_ _ ⟨h1,h2⟩=>⟨h1,by rw [h2];exact Below.refl _ _⟩;have hw0:wrap64 (S.K - T.K)=S.K - T.K:=by rw [w64];omega
 rw [show cmpN S.K T.K=sgn (S.K - T.K) by rfl];generalize sgn (S.K - T.K)=n at *
 clear h0 h1
 go_enter func82,ntmps82
 go_wp2_with fail;refine qE2 λW1 Bs Bt hw=>?_;refine qC2 (c1 _) Bs Bt hw λw2 Bs Bt hw Gu=>?_;go_wp2_with fail;clear Gu;refine qC2 (c2 _) Bs Bt hw λw3 Bs Bt hw Gu=>?_;go_wp2_with fail;clear Gu;refine qC2 (c3 _) Bs Bt hw λw4 Bs Bt hw Gu=>?_;go_wp2
 go_ret
 exact ⟨rfl,by have hl:=hw.size;go_grown⟩
theorem rcmpW_any (S T:Wl) (hs:0<=S.K/\S.K<=2) (ht:0<=T.K/\T.K<=2) (w:World):Calls prog 82 #[.agg #[S.A.x,S.A.y,S.B.x,S.B.y,S.K],.agg #[T.A.x,T.A.y,T.B.x,T.B.y,T.K]] w (Rt w (.int .i64 (cmpW S T))):=by
 by_cases h0:cmpP S.A T.A=0
 ·by_cases h1:cmpP S.B T.B=0
  ·rw [show cmpW S T=cmpN S.K T.K by unfold cmpW;simp [h0,h1]];exact rcmpW_2 S T h0 h1 hs ht w
  ·rw [show cmpW S T=cmpP S.B T.B by unfold cmpW;simp [h0,h1]];exact rcmpW_1 S T h0 h1 w
 ·rw [show cmpW S T=cmpP S.A T.A by unfold cmpW;simp [h0]];exact rcmpW_0 S T h0 w
section
theorem RowAt.partW {α : Type} {c : α -> List Value} {k : Nat} {w : World} {a : Option Addr} {L : List α} (h : RowAt c k w a L) (lo m cap : Nat) (hcap : L.length <= cap) :
    RowAt c k w (if cap=lo then a else a.map λx=>x.add (lo * k)) ((L.drop lo).take m):=λj x hj=>by
 have hj2:L[lo+j]? = some x:=by
  rw [QX] at hj;split at hj
  ·rwa [Qr] at hj
  ·cases hj
 obtain ⟨ad,h1,h2,h3⟩:=h (lo+j) x hj2;have hl:=(JR.1 hj2).1;refine ⟨ad.add (lo * k),?_,by rw [zj];exact h2,λi u hu=>?_⟩
 ·rw [J0 (by omega),h1];rfl
 ·rw [show (ad.add (lo * k)).add (j * k)=ad.add ((lo+j) * k) by rw [Go.Deep.add_add,<-UR]];exact h3 i u hu
theorem jT (a:Option Addr) (n cap lo:Nat) (h1:lo<=n) (w:World):(Instr.slice 41 (.slice a n cap) (some (.int .i64 lo)) none none).run prog w=.ok (.slice (if cap=lo then a else a.map λx=>x.add (lo * 5)) (n - lo) (cap - lo)) w:=by
 simp [Instr.slice,Instr.sliceBounds,Instr.sliceBound,asIntOf,run_underlying underlying41,go_sem,h1]
theorem run_upto_wal (a:Option Addr) (n cap hi:Nat) (h1:hi<=cap) (w:World):(Instr.slice 41 (.slice a n cap) none (some (.int .i64 hi)) none).run prog w=.ok (.slice a hi cap) w:=by
 cases a <;> simp [Instr.slice,Instr.sliceBounds,Instr.sliceBound,asIntOf,run_underlying underlying41,go_sem,h1,Addr.add]
attribute [local go_sem ↓ 10000] jT run_upto_wal
theorem ze {ops:Array Oper} {o:Oper} {a:Act} {w:World} {K:Act->World->Prop} {Q:Exit->Act->World->Prop} {E:Prop} (hw:Region.wanted o (yielded ops a.tmps)) (d x:Operand) (hop:o.op=Op.call { callee:=Callee.builtin Builtin.append,args:=#[d,x],argTypes:=#[41,41] }) (B:Nat) (v:Value) (L:List Wl) (hd:a.eval d=v) (hown:WRow w B v L) (ad:Option Addr) (n c:Nat) (M:List Wl) (hx:a.eval x=.slice ad n c) (hM:M.length=n) (hrow:RowAt cW 5 w ad M) (hfl:Flat ad) (hnil:ad=none->n=0/\c=0) (hL:L.length+n<=1000000) (hbase:B<=w.heap.size) (d0:Option Tmp) (hd0:o.dst=d0) (h:∀ w' v',WRow w' B v' (L ++ M)->Frm w w' (λk=>v.ownBlock=some k)->Fresh v v' w.heap.size->K (a.put d0 v') w'):if Region.wanted o (yielded ops a.tmps)=true then Oper.wp prog o a w K Q else E:=by
 subst hd0;rw [JH hw];obtain ⟨i0,hi,hz0,hz1,hz2⟩:=info_parts xT;cases ad with
 | none=>
  obtain ⟨rfl,rfl⟩:=hnil rfl;have hM0:M=[]:=QW hM;subst hM0;rw [Ji] at h;have hr:=run_append_owned_none (P:=prog) (w:=w) B 41 o.type 71 i0 5 underlying41 hi v L.length _ hown;unfold Oper.wp;simp [execOp,hop,resolve,invoke,builtin,hd,hx,hr,Result.andThen];exact h w v hown (Frm.refl w _) (λg e=>.inl e)
 | some A=>
  have hA:A=⟨A.block,A.off,none⟩:=by have:=hfl A rfl;cases A;simp_all
  rw [hA] at hx hrow;obtain ⟨v',w',hr,h2,h3,_,h4⟩:=run_append_own_at (P:=prog) w B 41 o.type 71 i0 _ 5 40 underlying41 hi hz0 hz1 hz2 rfl (by decide) v L.length _ hown ⟨A.block,A.off,none⟩ n c (M.flatMap cW) (by rw [zS yS,hM]) (λj u hu=>by rw [Addr.add_lit];exact (hrow.flat j u hu).2) (λu hu=>by
   obtain ⟨y,_,hy⟩:=JO.1 hu;exact jA y u hy) (by unfold maxLen;omega) (by omega) hbase
  have hR:WRow w' B v' (L ++ M):=by
   unfold WRow;rw [JC,Je,hM];exact h2
  unfold Oper.wp;simp [execOp,hop,resolve,invoke,builtin,hd,hx,hr,Result.andThen];exact h w' v' hR (Frm.of_grown h3 (p:=λk=>v.ownBlock=some k) (λg e=>e)) (λg e=>by
   rcases h4 with h4 | h4
   ·exact .inl (h4▸e)
   ·right;rw [h4] at e;exact Nat.le_of_eq (JU e))
theorem kl (w:World) (B:Nat) (hB:B<=w.heap.size):WRow (w.alloc (.cells #[] 71)) B (.slice (some ⟨w,0,none⟩) 0 0) []:=World.ownsRow_made w #[] 0 hB (Jl _) (by simp)
structure DocAt (w:World) (db:Nat) (v:Value) (L:List Wl):Prop where
 box:Box w db [v] 62
 row:WRow w 0 v L
 ne:v.ownBlock≠some db
 le:L.length<=1000000
theorem DocAt.rd {w:World} {db:Nat} {v:Value} {L:List Wl} (S:DocAt w db v L):∃ a c,v=.slice a L.length c/\DocRd w db a c L.length L/\(a=none->L=[]/\c=0):=by
 obtain ⟨a,c,h1,h2,h3⟩:=S.row.row;refine ⟨a,c,h1,⟨h1▸S.box,h2,rfl,S.le,?_,h3⟩,λe=>?_⟩
 ·rcases S.row.box with ⟨e,e2⟩ | ⟨_,_,_,e,_,_,h,_⟩
  ·rw [e2];exact Jl _
  ·rw [h1] at e;simp only [Value.slice.injEq] at e;omega
 ·rcases S.row.box with ⟨e1,e2⟩ | ⟨_,_,_,e2,_⟩
  ·rw [h1] at e1;simp only [Value.slice.injEq] at e1;exact ⟨e2,e1.2.2⟩
  ·rw [h1,e] at e2;simp at e2
theorem DocAt.ext {w w':World} {db:Nat} {v:Value} {L:List Wl} {n:Nat} (S:DocAt w db v L) (hb:Below n w w') (hn:n=w.heap.size):DocAt w' db v L:=
 ⟨S.box.ext hb hn,S.row.ext hb hn,S.ne,S.le⟩
theorem DocAt.ee {w w':World} {db:Nat} {v:Value} {L:List Wl} (S:DocAt w db v L) (hb:Below w w w'):DocAt w' db v L:=S.ext hb rfl
theorem jj {w wq:World} {db:Nat} {v v':Value} {L L':List Wl} (S:DocAt w db v L) (hb:Below w w wq) (hown:WRow wq w.heap.size v' L') (hl:L'.length<=1000000):DocAt (wq.setCell ⟨db,0,none⟩ v') db v' L'/\Frm w (wq.setCell ⟨db,0,none⟩ v') (· = db)/\(∀ g,v'.ownBlock=some g->w.heap.size<=g):=by
 have hdb:=S.box.lt;have hge:∀ g,v'.ownBlock=some g->w.heap.size<=g:=λg e=>(hown.lt g e).1;have BQ:Box wq db [v] 62:=S.box.ee hb;have hne:v'.ownBlock≠some db:=λe=>by have:=hge db e;omega
 exact ⟨⟨BQ.set 0 v',((Frm.refl wq (· = db)).setCell ⟨db,0,none⟩ rfl v').row (hown.base (Jl _)) (λg e=>λh=>hne (by rw [e,h])),hne,hl⟩,(Frm.of_below (p:=(· = db)) hb).setCell ⟨db,0,none⟩ rfl v',hge⟩
def PutAt (L:List Wl) (X:Wl) (k:Nat):Prop:=k<=L.length/\(∀ (j:Nat) (h:j < L.length),k<=j->0 < cmpW L[j] X)/\(∀ h:k - 1 < L.length,0 < k->¬ 0 < cmpW L[k - 1] X)
theorem jO {w:World} {a0:Option Addr} {c n k:Nat} {L:List Wl} (hrow:RowAt cW 5 w a0 L) (hl:L.length=n) (hnc:n<=c) (hfl:Flat a0) (hk:k<=n) (hz:a0=none->L=[]/\c=0):∃ ad,(if c=k then a0 else a0.map λx=>x.add (k * 5))=ad/\RowAt cW 5 w ad (L.drop k)/\Flat ad/\(ad=none->n - k=0/\c - k=0):=by
 have h:=hrow.partW k (n - k) c (by omega);rw [JV (by rw [Ja];omega)] at h;refine ⟨_,rfl,h,λA hA=>?_,λe=>?_⟩
 ·split at hA
  ·exact hfl A hA
  ·cases a0 with
   | none=>cases hA
   | some A0=>
    have h0:=hfl A0 rfl;have:A0=⟨A0.block,A0.off,none⟩:=by cases A0;simp_all
    rw [this] at hA;simp only [Va,Addr.add_lit,Qi] at hA;rw [<-hA]
 ·have h0 : a0 = none := by
    split at e
    ·exact e
    ·cases a0 with
     | none=>rfl
     | some _=>cases e
  obtain ⟨h1,h2⟩:=hz h0;subst h1 h2;simp at hl;omega
theorem xq (db:Nat) (v:Value) (L:List Wl) (X:Wl) (hL:L.length < 1000000) (hgk:∀ x∈L,0<=x.K/\x.K<=2) (hXk:0<=X.K/\X.K<=2) (w:World) (S:DocAt w db v L):Calls prog 42 #[pt0 db,.agg #[X.A.x,X.A.y,X.B.x,X.B.y,X.K]] w λe w'=>∃ k v',e=.returned (.tuple #[])/\PutAt L X k/\DocAt w' db v' (L.take k ++ X :: L.drop k)/\Frm w w' (· = db)/\(∀ g,v'.ownBlock=some g->w.heap.size<=g):=by
 obtain ⟨a0,c,rfl,D,hz⟩:=S.rd;have HS:=hdd S;clear S;have hdb:=D.box.lt;obtain ⟨n,hn⟩:∃ n,L.length=n:=⟨_,rfl⟩;rw [hn] at D hL HS;have HM:=hdd hn;have hnc:=D.nc;have hfl:=D.flat;obtain ⟨d0,d1,d2,d3⟩:=D.box.f;have HD:=hdd D;have HG:=hdd hgk;have HXK:=hdd hXk;clear D hn hgk hXk
 go_enter func42,ntmps42
 go_wp2_with fail;refine zG λW1 hW=>?_;have BX:Box W1 w [X.A.x,X.A.y,X.B.x,X.B.y,X.K] 71:=by rw [hW];exact Box.new rfl
 have hw:Below w w W1:=by rw [hW];go_grown
 clear hW d0 d1 d2 d3
 go_loopw [4] (λvat wr=>∃ k:Nat,k<=n/\vat=.int .i64 k/\Hi (∀ (j:Nat) (h:j < L.length),k<=j->0 < cmpW L[j] X)/\Below w w wr/\Box wr w [X.A.x,X.A.y,X.B.x,X.B.y,X.K] 71) (λvat _=>(intOf vat).toNat)
 case atStart=>exact ⟨n,JJ _,rfl,hdd (λj h hj=>by have:=HM.o;omega),hw,BX⟩
 case round=>
  clear BX hw;obtain ⟨k,hk,rfl,HA,hwr,BX⟩:=hrel;have BD:=(HD.o.ee hwr).box;have hrow:=(HD.o.ee hwr).row;by_cases hk0:k=0
  ·have q1:decide (0 < k)=false:=by simp;omega
   have HK0:=hdd hk0;clear hk0;have G5:=J2 BX.cells BD.cells;obtain ⟨d0,d1,d2,d3⟩:=BD.f;go_wp2_with fail;refine (wp_region_tail 14 (by kernel_rfl) (by kernel_rfl) (C:=λw'=>∃ p:Regrown,w'=grow (redrawn wr p.d) p.os) rgB ?_);simp only [tK1,tK0,dP1,dP0];refine wkx ?_;intro wx hb;replace BX:=BX.ee hb;replace BD:=BD.ee hb;replace hrow:=hrow.ee hb;replace hwr:=upB hwr hb;clear hb;clear G5 d0 d1 d2 d3 q1;have HPUT:Hi (PutAt L X k):=hdd ⟨by rw [HM.o];exact hk,HA.o,λ_ h=>by have:=HK0.o;omega⟩;obtain ⟨ad,had,hdr,hfl2,hnil⟩:=jO hrow HM.o hnc hfl hk hz;have HAD:=hdd had;have HT1:=hdd (show (L.take k).length=k by rw [Jc,HM.o];omega);have HT2:=hdd (show (L.drop k).length=n - k by rw [Ja,HM.o]);clear had HA;have G5:=J2 BX.cells BD.cells;obtain ⟨d0,d1,d2,d3⟩:=BD.f;have z2:k<=c:=by omega
   go_wp2_with fail;clear d0 d1 d2 d3;have hcB:∀ w',(∃ p:Regrown,w'=grow (redrawn wx p.d) p.os)->Below wx wx w':=λw' h=>by obtain ⟨p,rfl⟩:=h;exact below_regrown _ _ _
   refine FT.wp_region_flow 19 (.run 0 (.run 2 (.run 3 (.run 4 (.run 5 (.run 6 (.run 7 (.run 9 (.run 12 (.run 13 (.run 14 (.run 15 (.run 16 (.run 17 (.alt 1 (.alt 8 (.alt 10 (.alt 11 (.alt 18 (.tail) .stop) .stop) .stop) (.alt 10 (.alt 8 (.alt 11 (.alt 18 (.tail) .stop) .stop) .stop) .stop)) (.alt 10 (.alt 1 (.alt 8 (.alt 11 (.alt 18 (.tail) .stop) .stop) .stop) .stop) .stop)))))))))))))))) rfl (by kernel_rfl) (λ_ x _ _ _ h=>by cases x <;> exact h) (C:=λw'=>∃ p:Regrown,w'=grow (redrawn wx p.d) p.os) rgB hcB ?_;have hC:∀ x y,Ext x y->(∃ p:Regrown,x=grow (redrawn wx p.d) p.os)->(∃ p:Regrown,y=grow (redrawn wx p.d) p.os):=λx y h1 h2=>regrown_of_below ((hcB x h2).trans (h1.mono (hcB x h2).size))
   iterate 14 (refine FT.flow_run rfl (λK hK=>?_);go_simp;first | (refine hK _ ?_;clear hK K) | (apply Exists.intro;refine ⟨λ_=>?_,hK _ ?_⟩;rotate_left;clear hK K))
   first | rw [HAD.o] | (have hq:=HAD.o;simp only [Va] at hq;rw [hq];clear hq)
   refine FT.flow_at hC rfl ?y10 (λw1 hw1 K hK=>?y1)
   case y1=>
    go_simp;have hbM:Below wx wx (w1.alloc (.cells #[] 71)):=Below.alloc hw1 (Below.size hw1) _;have hrM:=kl w1 wx.heap.size (Below.size hw1);refine hK _ _ (regrown_of_below hbM) ?_;clear hK K;refine FT.flow_at hC rfl ?z10 (λw2 hw2 K hK=>?z8)
    case z8=>
     have hb2:=hbM.trans (Below.mono hw2 hbM.size);refine ze (by rfl) _ _ (by rfl) wx.heap.size _ [] (by rfl) (hrM.ee hw2) _ k c (L.take k) (by rfl) HT1.o ((hrow.ee hb2).take k) hfl (λe=>⟨by have h1:=(hz e).1;have h2:=HM.o;rw [h1] at h2;simp at h2;omega,(hz e).2⟩) (by simp;omega) (Below.size hb2) (some 35) (by rfl) ?_;intro w3 v12 hr12 hf12 hs12;rw [Jz] at hr12;have hb3:=hb2.trans (hf12.below (λk e=>((hrM.ee hw2).lt k e).1) hb2.size);refine hK _ _ (regrown_of_below hb3) ?_;clear hK K;simp only [Act.put,sT2,sT1,sT0];refine FT.flow_at hC rfl trivial (λw9 hw9 K hK=>?_);go_simp;have hb9:=(upB hb3 hw9);have hbW:=hb9.alloc hb9.size (.cells #[X.A.x,X.A.y,X.B.x,X.B.y,X.K] 71);refine hK _ _ (regrown_of_below hbW) ?_;clear hK K;obtain ⟨bx,hbx0⟩:∃ bx,w9.heap.size=bx:=⟨_,rfl⟩;have hbx:Box (w9.alloc (.cells #[X.A.x,X.A.y,X.B.x,X.B.y,X.K] 71)) bx (cW X) 71:=by rw [<-hbx0];exact Box.new rfl
     replace hr12:=(hr12.ee hw9).alloc (.cells #[X.A.x,X.A.y,X.B.x,X.B.y,X.K] 71);rw [hbx0];clear hbx0;refine FT.flow_at hC rfl trivial (λw4 hw4 K hK=>?_);have hb4:=(upB hbW hw4);refine ze (by rfl) _ _ (by rfl) wx.heap.size v12 (L.take k) (by rfl) (hr12.ee hw4) (some ⟨bx,0,none⟩) 1 1 [X] (by rfl) rfl (qX (by simpa using hbx.ee hw4)) (kn _ _) (λe=>by cases e) (by rw [HT1.o];omega) hb4.size (some 38) (by rfl) ?_;intro w5 v13 hr13 hf13 hs13;have hb5:=hb4.trans (hf13.below (λk e=>((hr12.ee hw4).lt k e).1) hb4.size);refine hK _ _ (regrown_of_below hb5) ?_;clear hK K;simp only [Act.put,sT2,sT1,sT0];refine FT.flow_at hC rfl trivial (λw6 hw6 K hK=>?_);have hb6:=(upB hb5 hw6);refine ze (by rfl) _ _ (by rfl) wx.heap.size v13 (L.take k ++ [X]) (by rfl) (hr13.ee hw6) ad (n - k) (c - k) (L.drop k) (by rfl) HT2.o (hdr.ee hb6) hfl2 hnil (by rw [JC,HT1.o];simp;omega) hb6.size (some 45) (by rfl) ?_;intro w7 v18 hr18 hf18 hs18;have hb7:=hb6.trans (hf18.below (λk e=>((hr13.ee hw6).lt k e).1) hb6.size);refine hK _ _ (regrown_of_below hb7) ?_;clear hK K;simp only [Act.put,sT2,sT1,sT0];intro w8 hw8;have hb8:=(upB hb7 hw8);have BD8:=BD.ee hb8;have hw8':=(upB hwr hb8);obtain ⟨hS8,hF8,hG8⟩:=jj HS.o hw8' ((hr18.ee hw8).base hwr.size) (by rw [JC,JC,HT1.o,HT2.o,QB];omega);obtain ⟨a18,n18,c18,rfl⟩:=hr18.form;obtain ⟨d0,d1,d2,d3⟩:=BD8.f;clear hr12 hr13 hr18 hf13 hs13 hf18 hs18 hbx G5;simp only [dP1,dP0];go_wp2;rw [JL,Qx] at hS8;exact ⟨rfl,.tuple #[],by simp [results,results42,go_sem],k,_,rfl,HPUT.o,hS8,hF8,hG8⟩
    case z10=>
     refine FT.flow_at hC rfl trivial (λw9 hw9 K hK=>?_);go_simp;have hb9:=hbM.trans (Below.mono hw9 hbM.size);have hbN:=hb9.alloc hb9.size (.cells #[X.A.x,X.A.y,X.B.x,X.B.y,X.K] 71);refine hK _ _ (regrown_of_below hbN) ?_;clear hK K;have hrM9:=(hrM.ee hw9).alloc (.cells #[X.A.x,X.A.y,X.B.x,X.B.y,X.K] 71);obtain ⟨bx,hbx0⟩:∃ bx,w9.heap.size=bx:=⟨_,rfl⟩;have hbx9:Box (w9.alloc (.cells #[X.A.x,X.A.y,X.B.x,X.B.y,X.K] 71)) bx (cW X) 71:=by rw [<-hbx0];exact Box.new rfl
     have hne:¬ Value.ownBlock (.slice (some ⟨w1,0,none⟩) 0 0)=some bx:=λe=>by
      have h1:=Below.size hw9;have e2:w1.heap.size=bx:=by simpa [Value.ownBlock] using e
      simp at h1;omega
     rw [hbx0];clear hbx0;refine FT.flow_at hC rfl trivial (λw2 hw2 K hK=>?_);have hb2:=hbN.trans (Below.mono hw2 hbN.size);refine ze (by rfl) _ _ (by rfl) wx.heap.size _ [] (by rfl) (hrM9.ee hw2) _ k c (L.take k) (by rfl) HT1.o ((hrow.ee hb2).take k) hfl (λe=>⟨by have h1:=(hz e).1;have h2:=HM.o;rw [h1] at h2;simp at h2;omega,(hz e).2⟩) (by simp;omega) (Below.size hb2) (some 35) (by rfl) ?_;intro w3 v12 hr12 hf12 hs12;rw [Jz] at hr12;have hbW:=hb2.trans (hf12.below (λk e=>((hrM9.ee hw2).lt k e).1) hb2.size);have hbx:=hf12.box (hbx9.ee hw2) hne;refine hK _ _ (regrown_of_below hbW) ?_;clear hK K;simp only [Act.put,sT2,sT1,sT0];refine FT.flow_at hC rfl trivial (λw4 hw4 K hK=>?_);have hb4:=(upB hbW hw4);refine ze (by rfl) _ _ (by rfl) wx.heap.size v12 (L.take k) (by rfl) (hr12.ee hw4) (some ⟨bx,0,none⟩) 1 1 [X] (by rfl) rfl (qX (by simpa using hbx.ee hw4)) (kn _ _) (λe=>by cases e) (by rw [HT1.o];omega) hb4.size (some 38) (by rfl) ?_;intro w5 v13 hr13 hf13 hs13;have hb5:=hb4.trans (hf13.below (λk e=>((hr12.ee hw4).lt k e).1) hb4.size);refine hK _ _ (regrown_of_below hb5) ?_;clear hK K;simp only [Act.put,sT2,sT1,sT0];refine FT.flow_at hC rfl trivial (λw6 hw6 K hK=>?_);have hb6:=(upB hb5 hw6);refine ze (by rfl) _ _ (by rfl) wx.heap.size v13 (L.take k ++ [X]) (by rfl) (hr13.ee hw6) ad (n - k) (c - k) (L.drop k) (by rfl) HT2.o (hdr.ee hb6) hfl2 hnil (by rw [JC,HT1.o];simp;omega) hb6.size (some 45) (by rfl) ?_;intro w7 v18 hr18 hf18 hs18;have hb7:=hb6.trans (hf18.below (λk e=>((hr13.ee hw6).lt k e).1) hb6.size);refine hK _ _ (regrown_of_below hb7) ?_;clear hK K;simp only [Act.put,sT2,sT1,sT0];intro w8 hw8;have hb8:=(upB hb7 hw8);have BD8:=BD.ee hb8;have hw8':=(upB hwr hb8);obtain ⟨hS8,hF8,hG8⟩:=jj HS.o hw8' ((hr18.ee hw8).base hwr.size) (by rw [JC,JC,HT1.o,HT2.o,QB];omega);obtain ⟨a18,n18,c18,rfl⟩:=hr18.form;obtain ⟨d0,d1,d2,d3⟩:=BD8.f;clear hr12 hr13 hr18 hf13 hs13 hf18 hs18 hbx G5;simp only [dP1,dP0];go_wp2;rw [JL,Qx] at hS8;exact ⟨rfl,.tuple #[],by simp [results,results42,go_sem],k,_,rfl,HPUT.o,hS8,hF8,hG8⟩
   case y10=>
    refine FT.flow_at hC rfl trivial (λw9 hw9 K hK=>?_);go_simp;have hbN:Below wx wx (w9.alloc (.cells #[X.A.x,X.A.y,X.B.x,X.B.y,X.K] 71)):=Below.alloc hw9 (Below.size hw9) _;refine hK _ _ (regrown_of_below hbN) ?_;clear hK K;obtain ⟨bx,hbx0⟩:∃ bx,w9.heap.size=bx:=⟨_,rfl⟩;have hbx9:Box (w9.alloc (.cells #[X.A.x,X.A.y,X.B.x,X.B.y,X.K] 71)) bx (cW X) 71:=by rw [<-hbx0];exact Box.new rfl
    rw [hbx0];clear hbx0;refine FT.flow_at hC rfl trivial (λw1 hw1 K hK=>?_);have hb1:=hbN.trans (Below.mono hw1 hbN.size);have hrM:=kl w1 wx.heap.size hb1.size;go_simp;have hbM:=hb1.alloc hb1.size (.cells #[] 71);refine hK _ _ (regrown_of_below hbM) ?_;clear hK K;have hbx1:=(hbx9.ee hw1).old (.cells #[] 71);have hne:¬ Value.ownBlock (.slice (some ⟨w1,0,none⟩) 0 0)=some bx:=λe=>by
     have h1:=(hbx9.ee hw1).lt;have e2:w1.heap.size=bx:=by simpa [Value.ownBlock] using e
     omega
    refine FT.flow_at hC rfl trivial (λw2 hw2 K hK=>?_);have hb2:=hbM.trans (Below.mono hw2 hbM.size);refine ze (by rfl) _ _ (by rfl) wx.heap.size _ [] (by rfl) (hrM.ee hw2) _ k c (L.take k) (by rfl) HT1.o ((hrow.ee hb2).take k) hfl (λe=>⟨by have h1:=(hz e).1;have h2:=HM.o;rw [h1] at h2;simp at h2;omega,(hz e).2⟩) (by simp;omega) (Below.size hb2) (some 35) (by rfl) ?_;intro w3 v12 hr12 hf12 hs12;rw [Jz] at hr12;have hbW:=hb2.trans (hf12.below (λk e=>((hrM.ee hw2).lt k e).1) hb2.size);have hbx:=hf12.box (hbx1.ee hw2) hne;refine hK _ _ (regrown_of_below hbW) ?_;clear hK K;simp only [Act.put,sT2,sT1,sT0];refine FT.flow_at hC rfl trivial (λw4 hw4 K hK=>?_);have hb4:=(upB hbW hw4);refine ze (by rfl) _ _ (by rfl) wx.heap.size v12 (L.take k) (by rfl) (hr12.ee hw4) (some ⟨bx,0,none⟩) 1 1 [X] (by rfl) rfl (qX (by simpa using hbx.ee hw4)) (kn _ _) (λe=>by cases e) (by rw [HT1.o];omega) hb4.size (some 38) (by rfl) ?_;intro w5 v13 hr13 hf13 hs13;have hb5:=hb4.trans (hf13.below (λk e=>((hr12.ee hw4).lt k e).1) hb4.size);refine hK _ _ (regrown_of_below hb5) ?_;clear hK K;simp only [Act.put,sT2,sT1,sT0];refine FT.flow_at hC rfl trivial (λw6 hw6 K hK=>?_);have hb6:=(upB hb5 hw6);refine ze (by rfl) _ _ (by rfl) wx.heap.size v13 (L.take k ++ [X]) (by rfl) (hr13.ee hw6) ad (n - k) (c - k) (L.drop k) (by rfl) HT2.o (hdr.ee hb6) hfl2 hnil (by rw [JC,HT1.o];simp;omega) hb6.size (some 45) (by rfl) ?_;intro w7 v18 hr18 hf18 hs18;have hb7:=hb6.trans (hf18.below (λk e=>((hr13.ee hw6).lt k e).1) hb6.size);refine hK _ _ (regrown_of_below hb7) ?_;clear hK K;simp only [Act.put,sT2,sT1,sT0];intro w8 hw8;have hb8:=(upB hb7 hw8);have BD8:=BD.ee hb8;have hw8':=(upB hwr hb8);obtain ⟨hS8,hF8,hG8⟩:=jj HS.o hw8' ((hr18.ee hw8).base hwr.size) (by rw [JC,JC,HT1.o,HT2.o,QB];omega);obtain ⟨a18,n18,c18,rfl⟩:=hr18.form;obtain ⟨d0,d1,d2,d3⟩:=BD8.f;clear hr12 hr13 hr18 hf13 hs13 hf18 hs18 hbx G5;simp only [dP1,dP0];go_wp2;rw [JL,Qx] at hS8;exact ⟨rfl,.tuple #[],by simp [results,results42,go_sem],k,_,rfl,HPUT.o,hS8,hF8,hG8⟩
  ·obtain ⟨i,hik⟩:∃ i,i+1=k:=⟨k - 1,by omega⟩;have hkL:i < L.length:=by rw [HM.o];omega
   have hkn:i < n:=by omega
   obtain ⟨aj,A,ea,eA,hA5⟩:=hrow.five (j:=i) hkL;have c5:=rcmpW_any L[i] X (HG.o _ (JX hkL)) HXK.o;have HZ:Hi (cmpW L[i] X=cmpW L[i] X):=hdd rfl;generalize hz0:cmpW L[i] X=z at c5 HZ
   clear HZ;have HZ:=hdd hz0;clear hz0;have HY:Hi (L[i]=L[i]):=hdd rfl;generalize hY:L[i]=Y at hA5 c5 HY HZ
   clear HY;have HY:=hdd hY;clear hY;obtain ⟨s0,s1,s2,s3,s4⟩:=hA5.cells;have G5:=J2 BX.cells BD.cells;obtain ⟨d0,d1,d2,d3⟩:=BD.f;have q1:decide (0 < k)=true:=by simp;omega
   have q0:(0:Int) < (k:Int):=by omega
   have q2:IntKind.i64.wrap ((k:Int) - 1)=(i:Int):=by rw [IntKind.wrap_i64];omega
   have q3:(i:Int) < (n:Int):=by omega
   have q4:(0:Int)<=(i:Int):=by omega
   have HIK:=hdd hik;clear hik hk0;subst ea;clear hA5;cases ez:decide (0 < z) with
   | true=>
    have HA2:Hi (∀ (j:Nat) (h:j < L.length),i<=j->0 < cmpW L[j] X):=hdd (λj h hj=>by
     by_cases e:j=i
     ·subst e;rw [HY.o,HZ.o];simpa using ez
     ·exact HA.o j h (by have:=HIK.o;omega))
    clear HA HY HZ;go_wp2_with fail;refine (wp_region_tail 14 (by kernel_rfl) (by kernel_rfl) (C:=λw'=>∃ p:Regrown,w'=grow (redrawn wr p.d) p.os) rgB ?_);simp only [tK1,tK0,dP1,dP0];refine wkx ?_;intro wx hb;replace BX:=BX.ee hb;replace BD:=BD.ee hb;replace hrow:=hrow.ee hb;replace hwr:=upB hwr hb;clear hb;clear G5 d0 d1 d2 d3 q1 q2 q3 q4 s0 s1 s2 s3 s4 c5;have HB:=hdd BX;have HW:=hdd hwr;clear BX hwr BD hrow;go_wp2
    go_roundw
    case rel=>exact ⟨i,by omega,by rw [show (i:Int)=(k:Int) - 1 by have:=HIK.o;omega],HA2,HW.o,HB.o⟩
    case measure=>simp [intOf];omega
   | false=>
    have HTOP:Hi (∀ h:k - 1 < L.length,0 < k->¬ 0 < cmpW L[k - 1] X):=hdd (λh _=>by
     have e:k - 1=i:=by have:=HIK.o;omega
     have h2:L[k - 1]=L[i]:=by simp only [e]
     rw [h2,HY.o,HZ.o];simpa using ez)
    clear HY HZ;go_wp2_with fail;refine (wp_region_tail 14 (by kernel_rfl) (by kernel_rfl) (C:=λw'=>∃ p:Regrown,w'=grow (redrawn wr p.d) p.os) rgB ?_);simp only [tK1,tK0,dP1,dP0];refine wkx ?_;intro wx hb;replace BX:=BX.ee hb;replace BD:=BD.ee hb;replace hrow:=hrow.ee hb;replace hwr:=upB hwr hb;clear hb;clear G5 d0 d1 d2 d3 q0 q1 q2 q3 q4 s0 s1 s2 s3 s4 c5;have HPUT:Hi (PutAt L X k):=hdd ⟨by rw [HM.o];exact hk,HA.o,λh h0=>by have:=HTOP.o h h0;omega⟩;obtain ⟨ad,had,hdr,hfl2,hnil⟩:=jO hrow HM.o hnc hfl hk hz;have HAD:=hdd had;have HT1:=hdd (show (L.take k).length=k by rw [Jc,HM.o];omega);have HT2:=hdd (show (L.drop k).length=n - k by rw [Ja,HM.o]);clear had HA;have G5:=J2 BX.cells BD.cells;obtain ⟨d0,d1,d2,d3⟩:=BD.f;have z2:k<=c:=by omega
    go_wp2_with fail;clear d0 d1 d2 d3;have hcB:∀ w',(∃ p:Regrown,w'=grow (redrawn wx p.d) p.os)->Below wx wx w':=λw' h=>by obtain ⟨p,rfl⟩:=h;exact below_regrown _ _ _
    refine FT.wp_region_flow 19 (.run 0 (.run 2 (.run 3 (.run 4 (.run 5 (.run 6 (.run 7 (.run 9 (.run 12 (.run 13 (.run 14 (.run 15 (.run 16 (.run 17 (.alt 1 (.alt 8 (.alt 10 (.alt 11 (.alt 18 (.tail) .stop) .stop) .stop) (.alt 10 (.alt 8 (.alt 11 (.alt 18 (.tail) .stop) .stop) .stop) .stop)) (.alt 10 (.alt 1 (.alt 8 (.alt 11 (.alt 18 (.tail) .stop) .stop) .stop) .stop) .stop)))))))))))))))) rfl (by kernel_rfl) (λ_ x _ _ _ h=>by cases x <;> exact h) (C:=λw'=>∃ p:Regrown,w'=grow (redrawn wx p.d) p.os) rgB hcB ?_;have hC:∀ x y,Ext x y->(∃ p:Regrown,x=grow (redrawn wx p.d) p.os)->(∃ p:Regrown,y=grow (redrawn wx p.d) p.os):=λx y h1 h2=>regrown_of_below ((hcB x h2).trans (h1.mono (hcB x h2).size))
    iterate 14 (refine FT.flow_run rfl (λK hK=>?_);go_simp;first | (refine hK _ ?_;clear hK K) | (apply Exists.intro;refine ⟨λ_=>?_,hK _ ?_⟩;rotate_left;clear hK K))
    first | rw [HAD.o] | (have hq:=HAD.o;simp only [Va] at hq;rw [hq];clear hq)
    refine FT.flow_at hC rfl ?y10 (λw1 hw1 K hK=>?y1)
    case y1=>
     go_simp;have hbM:Below wx wx (w1.alloc (.cells #[] 71)):=Below.alloc hw1 (Below.size hw1) _;have hrM:=kl w1 wx.heap.size (Below.size hw1);refine hK _ _ (regrown_of_below hbM) ?_;clear hK K;refine FT.flow_at hC rfl ?z10 (λw2 hw2 K hK=>?z8)
     case z8=>
      have hb2:=hbM.trans (Below.mono hw2 hbM.size);refine ze (by rfl) _ _ (by rfl) wx.heap.size _ [] (by rfl) (hrM.ee hw2) _ k c (L.take k) (by rfl) HT1.o ((hrow.ee hb2).take k) hfl (λe=>⟨by have h1:=(hz e).1;have h2:=HM.o;rw [h1] at h2;simp at h2;omega,(hz e).2⟩) (by simp;omega) (Below.size hb2) (some 35) (by rfl) ?_;intro w3 v12 hr12 hf12 hs12;rw [Jz] at hr12;have hb3:=hb2.trans (hf12.below (λk e=>((hrM.ee hw2).lt k e).1) hb2.size);refine hK _ _ (regrown_of_below hb3) ?_;clear hK K;simp only [Act.put,sT2,sT1,sT0];refine FT.flow_at hC rfl trivial (λw9 hw9 K hK=>?_);go_simp;have hb9:=(upB hb3 hw9);have hbW:=hb9.alloc hb9.size (.cells #[X.A.x,X.A.y,X.B.x,X.B.y,X.K] 71);refine hK _ _ (regrown_of_below hbW) ?_;clear hK K;obtain ⟨bx,hbx0⟩:∃ bx,w9.heap.size=bx:=⟨_,rfl⟩;have hbx:Box (w9.alloc (.cells #[X.A.x,X.A.y,X.B.x,X.B.y,X.K] 71)) bx (cW X) 71:=by rw [<-hbx0];exact Box.new rfl
      replace hr12:=(hr12.ee hw9).alloc (.cells #[X.A.x,X.A.y,X.B.x,X.B.y,X.K] 71);rw [hbx0];clear hbx0;refine FT.flow_at hC rfl trivial (λw4 hw4 K hK=>?_);have hb4:=(upB hbW hw4);refine ze (by rfl) _ _ (by rfl) wx.heap.size v12 (L.take k) (by rfl) (hr12.ee hw4) (some ⟨bx,0,none⟩) 1 1 [X] (by rfl) rfl (qX (by simpa using hbx.ee hw4)) (kn _ _) (λe=>by cases e) (by rw [HT1.o];omega) hb4.size (some 38) (by rfl) ?_;intro w5 v13 hr13 hf13 hs13;have hb5:=hb4.trans (hf13.below (λk e=>((hr12.ee hw4).lt k e).1) hb4.size);refine hK _ _ (regrown_of_below hb5) ?_;clear hK K;simp only [Act.put,sT2,sT1,sT0];refine FT.flow_at hC rfl trivial (λw6 hw6 K hK=>?_);have hb6:=(upB hb5 hw6);refine ze (by rfl) _ _ (by rfl) wx.heap.size v13 (L.take k ++ [X]) (by rfl) (hr13.ee hw6) ad (n - k) (c - k) (L.drop k) (by rfl) HT2.o (hdr.ee hb6) hfl2 hnil (by rw [JC,HT1.o];simp;omega) hb6.size (some 45) (by rfl) ?_;intro w7 v18 hr18 hf18 hs18;have hb7:=hb6.trans (hf18.below (λk e=>((hr13.ee hw6).lt k e).1) hb6.size);refine hK _ _ (regrown_of_below hb7) ?_;clear hK K;simp only [Act.put,sT2,sT1,sT0];intro w8 hw8;have hb8:=(upB hb7 hw8);have BD8:=BD.ee hb8;have hw8':=(upB hwr hb8);obtain ⟨hS8,hF8,hG8⟩:=jj HS.o hw8' ((hr18.ee hw8).base hwr.size) (by rw [JC,JC,HT1.o,HT2.o,QB];omega);obtain ⟨a18,n18,c18,rfl⟩:=hr18.form;obtain ⟨d0,d1,d2,d3⟩:=BD8.f;clear hr12 hr13 hr18 hf13 hs13 hf18 hs18 hbx G5;simp only [dP1,dP0];go_wp2;rw [JL,Qx] at hS8;exact ⟨rfl,.tuple #[],by simp [results,results42,go_sem],k,_,rfl,HPUT.o,hS8,hF8,hG8⟩
     case z10=>
      refine FT.flow_at hC rfl trivial (λw9 hw9 K hK=>?_);go_simp;have hb9:=hbM.trans (Below.mono hw9 hbM.size);have hbN:=hb9.alloc hb9.size (.cells #[X.A.x,X.A.y,X.B.x,X.B.y,X.K] 71);refine hK _ _ (regrown_of_below hbN) ?_;clear hK K;have hrM9:=(hrM.ee hw9).alloc (.cells #[X.A.x,X.A.y,X.B.x,X.B.y,X.K] 71);obtain ⟨bx,hbx0⟩:∃ bx,w9.heap.size=bx:=⟨_,rfl⟩;have hbx9:Box (w9.alloc (.cells #[X.A.x,X.A.y,X.B.x,X.B.y,X.K] 71)) bx (cW X) 71:=by rw [<-hbx0];exact Box.new rfl
      have hne:¬ Value.ownBlock (.slice (some ⟨w1,0,none⟩) 0 0)=some bx:=λe=>by
       have h1:=Below.size hw9;have e2:w1.heap.size=bx:=by simpa [Value.ownBlock] using e
       simp at h1;omega
      rw [hbx0];clear hbx0;refine FT.flow_at hC rfl trivial (λw2 hw2 K hK=>?_);have hb2:=hbN.trans (Below.mono hw2 hbN.size);refine ze (by rfl) _ _ (by rfl) wx.heap.size _ [] (by rfl) (hrM9.ee hw2) _ k c (L.take k) (by rfl) HT1.o ((hrow.ee hb2).take k) hfl (λe=>⟨by have h1:=(hz e).1;have h2:=HM.o;rw [h1] at h2;simp at h2;omega,(hz e).2⟩) (by simp;omega) (Below.size hb2) (some 35) (by rfl) ?_;intro w3 v12 hr12 hf12 hs12;rw [Jz] at hr12;have hbW:=hb2.trans (hf12.below (λk e=>((hrM9.ee hw2).lt k e).1) hb2.size);have hbx:=hf12.box (hbx9.ee hw2) hne;refine hK _ _ (regrown_of_below hbW) ?_;clear hK K;simp only [Act.put,sT2,sT1,sT0];refine FT.flow_at hC rfl trivial (λw4 hw4 K hK=>?_);have hb4:=(upB hbW hw4);refine ze (by rfl) _ _ (by rfl) wx.heap.size v12 (L.take k) (by rfl) (hr12.ee hw4) (some ⟨bx,0,none⟩) 1 1 [X] (by rfl) rfl (qX (by simpa using hbx.ee hw4)) (kn _ _) (λe=>by cases e) (by rw [HT1.o];omega) hb4.size (some 38) (by rfl) ?_;intro w5 v13 hr13 hf13 hs13;have hb5:=hb4.trans (hf13.below (λk e=>((hr12.ee hw4).lt k e).1) hb4.size);refine hK _ _ (regrown_of_below hb5) ?_;clear hK K;simp only [Act.put,sT2,sT1,sT0];refine FT.flow_at hC rfl trivial (λw6 hw6 K hK=>?_);have hb6:=(upB hb5 hw6);refine ze (by rfl) _ _ (by rfl) wx.heap.size v13 (L.take k ++ [X]) (by rfl) (hr13.ee hw6) ad (n - k) (c - k) (L.drop k) (by rfl) HT2.o (hdr.ee hb6) hfl2 hnil (by rw [JC,HT1.o];simp;omega) hb6.size (some 45) (by rfl) ?_;intro w7 v18 hr18 hf18 hs18;have hb7:=hb6.trans (hf18.below (λk e=>((hr13.ee hw6).lt k e).1) hb6.size);refine hK _ _ (regrown_of_below hb7) ?_;clear hK K;simp only [Act.put,sT2,sT1,sT0];intro w8 hw8;have hb8:=(upB hb7 hw8);have BD8:=BD.ee hb8;have hw8':=(upB hwr hb8);obtain ⟨hS8,hF8,hG8⟩:=jj HS.o hw8' ((hr18.ee hw8).base hwr.size) (by rw [JC,JC,HT1.o,HT2.o,QB];omega);obtain ⟨a18,n18,c18,rfl⟩:=hr18.form;obtain ⟨d0,d1,d2,d3⟩:=BD8.f;clear hr12 hr13 hr18 hf13 hs13 hf18 hs18 hbx G5;simp only [dP1,dP0];go_wp2;rw [JL,Qx] at hS8;exact ⟨rfl,.tuple #[],by simp [results,results42,go_sem],k,_,rfl,HPUT.o,hS8,hF8,hG8⟩
    case y10=>
     refine FT.flow_at hC rfl trivial (λw9 hw9 K hK=>?_);go_simp;have hbN:Below wx wx (w9.alloc (.cells #[X.A.x,X.A.y,X.B.x,X.B.y,X.K] 71)):=Below.alloc hw9 (Below.size hw9) _;refine hK _ _ (regrown_of_below hbN) ?_;clear hK K;obtain ⟨bx,hbx0⟩:∃ bx,w9.heap.size=bx:=⟨_,rfl⟩;have hbx9:Box (w9.alloc (.cells #[X.A.x,X.A.y,X.B.x,X.B.y,X.K] 71)) bx (cW X) 71:=by rw [<-hbx0];exact Box.new rfl
     rw [hbx0];clear hbx0;refine FT.flow_at hC rfl trivial (λw1 hw1 K hK=>?_);have hb1:=hbN.trans (Below.mono hw1 hbN.size);have hrM:=kl w1 wx.heap.size hb1.size;go_simp;have hbM:=hb1.alloc hb1.size (.cells #[] 71);refine hK _ _ (regrown_of_below hbM) ?_;clear hK K;have hbx1:=(hbx9.ee hw1).old (.cells #[] 71);have hne:¬ Value.ownBlock (.slice (some ⟨w1,0,none⟩) 0 0)=some bx:=λe=>by
      have h1:=(hbx9.ee hw1).lt;have e2:w1.heap.size=bx:=by simpa [Value.ownBlock] using e
      omega
     refine FT.flow_at hC rfl trivial (λw2 hw2 K hK=>?_);have hb2:=hbM.trans (Below.mono hw2 hbM.size);refine ze (by rfl) _ _ (by rfl) wx.heap.size _ [] (by rfl) (hrM.ee hw2) _ k c (L.take k) (by rfl) HT1.o ((hrow.ee hb2).take k) hfl (λe=>⟨by have h1:=(hz e).1;have h2:=HM.o;rw [h1] at h2;simp at h2;omega,(hz e).2⟩) (by simp;omega) (Below.size hb2) (some 35) (by rfl) ?_;intro w3 v12 hr12 hf12 hs12;rw [Jz] at hr12;have hbW:=hb2.trans (hf12.below (λk e=>((hrM.ee hw2).lt k e).1) hb2.size);have hbx:=hf12.box (hbx1.ee hw2) hne;refine hK _ _ (regrown_of_below hbW) ?_;clear hK K;simp only [Act.put,sT2,sT1,sT0];refine FT.flow_at hC rfl trivial (λw4 hw4 K hK=>?_);have hb4:=(upB hbW hw4);refine ze (by rfl) _ _ (by rfl) wx.heap.size v12 (L.take k) (by rfl) (hr12.ee hw4) (some ⟨bx,0,none⟩) 1 1 [X] (by rfl) rfl (qX (by simpa using hbx.ee hw4)) (kn _ _) (λe=>by cases e) (by rw [HT1.o];omega) hb4.size (some 38) (by rfl) ?_;intro w5 v13 hr13 hf13 hs13;have hb5:=hb4.trans (hf13.below (λk e=>((hr12.ee hw4).lt k e).1) hb4.size);refine hK _ _ (regrown_of_below hb5) ?_;clear hK K;simp only [Act.put,sT2,sT1,sT0];refine FT.flow_at hC rfl trivial (λw6 hw6 K hK=>?_);have hb6:=(upB hb5 hw6);refine ze (by rfl) _ _ (by rfl) wx.heap.size v13 (L.take k ++ [X]) (by rfl) (hr13.ee hw6) ad (n - k) (c - k) (L.drop k) (by rfl) HT2.o (hdr.ee hb6) hfl2 hnil (by rw [JC,HT1.o];simp;omega) hb6.size (some 45) (by rfl) ?_;intro w7 v18 hr18 hf18 hs18;have hb7:=hb6.trans (hf18.below (λk e=>((hr13.ee hw6).lt k e).1) hb6.size);refine hK _ _ (regrown_of_below hb7) ?_;clear hK K;simp only [Act.put,sT2,sT1,sT0];intro w8 hw8;have hb8:=(upB hb7 hw8);have BD8:=BD.ee hb8;have hw8':=(upB hwr hb8);obtain ⟨hS8,hF8,hG8⟩:=jj HS.o hw8' ((hr18.ee hw8).base hwr.size) (by rw [JC,JC,HT1.o,HT2.o,QB];omega);obtain ⟨a18,n18,c18,rfl⟩:=hr18.form;obtain ⟨d0,d1,d2,d3⟩:=BD8.f;clear hr12 hr13 hr18 hf13 hs13 hf18 hs18 hbx G5;simp only [dP1,dP0];go_wp2;rw [JL,Qx] at hS8;exact ⟨rfl,.tuple #[],by simp [results,results42,go_sem],k,_,rfl,HPUT.o,hS8,hF8,hG8⟩
end
end
section
open Go.RowKit Go.Sort
attribute [local go_sem] rOper rAt rUpon cell_set sg_i64 sg_u64 alloc_cell alloc_frozen
attribute [local go_sem 10000] pt_eql pt_neq tri_eql
attribute [local irreducible] rWalk
def badsD (E:Es) (W:List Wl) (D:Es):List Wl:=D.filterMap λe=>if decide (cmpP e.1.1 e.1.2 < 0) && badD E W e.1.1 e.1.2 then some ⟨e.1.1,e.1.2,1⟩ else none
theorem qx (E:Es) (W:List Wl) (D F:Es):badsD E W (D ++ F)=badsD E W D ++ badsD E W F:=by unfold badsD;rw [List.filterMap_append]
theorem ur (E:Es) (W:List Wl) (u x:Pt) (T:Tri3):badsD E W [((u,x),T)]=if (decide (cmpP u x < 0) && badD E W u x)=true then [⟨u,x,1⟩] else []:=by
 unfold badsD;simp only [List.filterMap_cons,List.filterMap_nil];generalize (decide (cmpP u x < 0) && badD E W u x)=c
 cases c <;> rfl
theorem YS (E:Es) (W:List Wl) (D:Es):(badsD E W D).length<=D.length:=List.length_filterMap_le _ _
theorem badsD_perm (E:Es) (W:List Wl) {D F:Es} (h:D.Perm F):(badsD E W D).Perm (badsD E W F):=h.filterMap _
theorem badsD_kind {E:Es} {W:List Wl} {D:Es} {x:Wl} (h:x∈badsD E W D):x.K=1:=by
 unfold badsD at h;rw [VR] at h;obtain ⟨e,_,he⟩:=h;split at he
 ·simp only [Qi] at he;rw [<-he]
 ·cases he
theorem xV {L:List Wl} {X:Wl} (k:Nat):(L.take k ++ X :: L.drop k).Perm (X :: L):=by
 refine (QM).trans ?_;rw [Jj]
theorem Frm.grown {w w':World} {b:Nat} (h:Frm w w' (· = b)):w.grownBy w' (some b):=⟨h.os,h.tape,h.output,h.size,λi hi hn=>h.block i hi (λe=>hn (by rw [e]))⟩
def BadPost (E:Es) (W:List Wl) (w:World) (e:Ending) (w':World):Prop:=∃ a c L,e=.returned (.slice a L.length c)/\L.Perm (badsD E W E)/\RowAt cW 5 w' a L/\Below w w w'
theorem rBad_any (mb b db:Nat) (a0:Option Addr) (c n:Nat) (E:Es) (W:List Wl) (hE:E.length<=100000) (hok:∀ e∈E,okW e.1) (w:World) (Bm:Box w mb [.map (some b)] 98) (Hm:Hs w b E) (Dw:DocRd w db a0 c n W):Calls prog 83 #[pt0 mb,pt0 db] w (BadPost E W w):=by
 have cB:=λp q hk w B H D=>Yp mb b db a0 c n E W p q hk w B H D;have Fm:=Bm.f
 go_enter func83,ntmps83
 go_wp2_with (at_range;refine yK _ rfl _ rfl kvR rfl (Hm.alloc _) ?_)
 intro w0 HR0 hw0 hs0;have So0:DocAt w0 w.heap.size (.slice none 0 0) []:=⟨(Box.new rfl).ext hw0 (by simp),World.ownsRow_nil _ _ _ _,by simp [Value.ownBlock],by simp⟩;replace hw0:Below w w w0:=((Below.refl w.heap.size w).alloc (JJ _) _).trans (hw0.mono (by simp));clear Fm;go_wp2
 go_loopw [] (λwr=>∃ (D R:Es) (v:Value) (L:List Wl),Hi ((D ++ R).Perm E)/\Hi (L.Perm (badsD E W D))/\DocAt wr w.heap.size v L/\Ranging eW eT okW wr b (w.heap.size+1) E R/\Below w w wr) (λwr=>wr.rangeLeft b (w.heap.size+1))
 case atStart=>exact ⟨[],E,_,[],hdd (by simp),hdd (.refl _),So0,by simpa using HR0,hw0⟩
 case round=>
  clear HR0 hw0 So0;obtain ⟨D,R,v,L,hD,hL,So,HR,hw⟩:=hrel;go_wp2_with (at_next;refine yN _ rfl _ rfl rfl HR ?_ ?_)
  ·intro hR;subst hR;have hp0:=hdd (show L.Perm (badsD E W E) from hL.o.trans (badsD_perm E W (by simpa using hD.o)));obtain ⟨a,c',rfl,Dr,_⟩:=So.rd;have Fo:=Dr.box.f;go_wp2
   go_ret
   exact ⟨a,c',L,rfl,hp0.o,Dr.row,hw⟩
  ·intro u x T R' w1 hperm HR1 hg1 hs1 hen;have hD2:=hdd (show ((D ++ [((u,x),T)]) ++ R').Perm E by have:=(hperm.append_left D).symm.trans hD.o;simpa using this);have hk:okW (u,x):=hok ((u,x),T) (hD2.o.mem_iff.1 (by simp));have So1:DocAt w1 w.heap.size v L:=⟨So.box.grown1 hg1,So.row.kept hg1 (.inr (λe=>zw So.row HR e.symm)),So.ne,So.le⟩;have hw1:=hw.grown hg1 hw.size (λk hk=>by cases hk;omega);have HL:=hdd (show w1.rangeLeft b (w.heap.size+1) < wr.rangeLeft b (w.heap.size+1) by rw [zT HR1,zT HR,hperm.length_eq];simp);have hen2:(Instr.entry (.pointer (some ⟨w+1,0,none⟩))).run prog w1=.ok (.tuple #[.agg #[u.x,u.y,x.x,x.y],T]) w1:=hen;have hle:L.length < 1000000:=by have:=hL.o.length_eq;have:=YS E W D;have:=hD2.o.length_eq;simp at *;omega
   have hgk:∀ X∈L,0<=X.K/\X.K<=2:=λX hX=>by have:=badsD_kind (hL.o.mem_iff.1 hX);omega
   have HB:=hdd hw1.size;clear So HR hg1 hs1 hen hperm hw;go_wp2_with fail;refine zI λW2 hW=>?_;have Be:Box W2 w1 [u.x,u.y,x.x,x.y] 100:=by rw [hW];exact Box.new rfl
   have hw2:Below w1 w1 W2:=by rw [hW];go_grown
   clear hW;have So2:=So1.ee hw2;have HR2:=HR1.ee hw2;have hwx:=(upB hw1 hw2);have HL2:=hdd (show W2.rangeLeft b (w.heap.size+1) < wr.rangeLeft b (w.heap.size+1) by rw [zT HR2,<-zT HR1];exact HL.o);clear So1 HR1 hw1 hw2 HL HB;refine (zV u x _).mono ?_;rintro e w3 ⟨rfl,hb⟩;replace Be:=Be.ee hb;replace So2:=So2.ee hb;have HR3:=HR2.ee hb;replace hwx:=upB hwx hb;have HL3:=hdd (show w3.rangeLeft b (w.heap.size+1) < wr.rangeLeft b (w.heap.size+1) by rw [zT HR3,<-zT HR2];exact HL2.o);have HF:=hdd (λ(h1:decide (cmpP u x < 0)=false)=>show L.Perm (badsD E W (D ++ [((u,x),T)])) by
    rw [qx,ur,h1,Bool.false_and,J0 (by decide),Ji];exact hL.o)
   have HG:=hdd (λ(h1:badD E W u x=false)=>show L.Perm (badsD E W (D ++ [((u,x),T)])) by
    rw [qx,ur,h1,Bool.and_false,J0 (by decide),Ji];exact hL.o)
   have HH:=hdd (λ(h1:decide (cmpP u x < 0)=true) (h2:badD E W u x)=>show ∀ k,(L.take k ++ (⟨u,x,1⟩:Wl) :: L.drop k).Perm (badsD E W (D ++ [((u,x),T)])) from λk=>by
    rw [qx,ur,h1,h2,Qq,JH rfl];exact (xV k).trans ((hL.o.cons _).trans (Jq (l₁:=[(⟨u,x,1⟩:Wl)]))))
   have hl6:L.length+1<=1000000:=hle;clear hb HR2 HL2 hL;have Fe:=Be.f;cases h1:decide (cmpP u x < 0) with
   | false=>
    have HQ:=hdd (HF.o h1);clear HF HG HH;go_wp2
    go_roundw
    case rel=>exact ⟨D ++ [((u,x),T)],R',v,L,hD2,HQ,So2,HR3,hwx⟩
    case measure=>exact HL3.o
   | true=>
    have HH:=hdd (HH.o h1);clear HF;go_wp2_with fail;refine (cB u x hk _ (Bm.ee hwx) HR3.holds (Dw.ee hwx)).mono ?_;rintro e w4 ⟨rfl,hb⟩;clear Fe;replace Be:=Be.ee hb;have So4:=So2.ee hb;have HR4:=HR3.ee hb;have hw4:=(upB hwx hb);have HL4:=hdd (show w4.rangeLeft b (w.heap.size+1) < wr.rangeLeft b (w.heap.size+1) by rw [zT HR4,<-zT HR3];exact HL3.o);clear hb So2 HR3 hwx HL3;have Fe:=Be.f;cases h2:badD E W u x with
    | false=>
     have HQ:=hdd (HG.o h2);clear HG HH;go_wp2
     go_roundw
     case rel=>exact ⟨D ++ [((u,x),T)],R',v,L,hD2,HQ,So4,HR4,hw4⟩
     case measure=>exact HL4.o
    | true=>
     have HQ:=hdd (HH.o h2);clear HG HH h2;have cp:=xq w.heap.size v L ⟨u,x,1⟩ hle hgk ⟨by show (0:Int)<=1;decide,by show (1:Int)<=2;decide⟩ w4 So4;go_wp2_with fail;refine cp.mono ?_;rintro e w5 ⟨k,v',rfl,hk5,So5,hf5,hv5⟩;have hg5:=hf5.grown;have HR5:=HR4.kept hg5 (λe=>So4.box.ne_map HR4.holds (JU e).symm) (by simp);have hw5:=hf5.below (n:=w.heap.size) (λk hk=>Nat.le_of_eq hk.symm) hw4.size;have HL5:=hdd (show w5.rangeLeft b (w.heap.size+1) < wr.rangeLeft b (w.heap.size+1) by rw [zT HR5,<-zT HR4];exact HL4.o);have HP:=hdd (HQ.o k);clear Fe cp HQ hf5 hg5;go_wp2
     go_roundw
     case rel=>exact ⟨D ++ [((u,x),T)],R',v',_,hD2,HP,So5,HR5,hw4.trans hw5⟩
     case measure=>exact HL5.o
attribute [local go_sem] rmap_nil
theorem uE (mb b:Nat) (E:Es) (T:Tri3) (hk:okT T) (w:World) (Bm:Box w mb [.map (some b)] 98) (Hm:Hs w b E):Calls prog 88 #[pt0 mb,T] w λe w'=>e=.returned (.tuple #[])/\w.grownBy w' (some b)/\Hs w' b (takeT E T):=by
 have ce:=qE T
 go_enter func88,ntmps88
 go_wp2_with fail;refine qE1 λW1 Bt hw=>?_;refine qC1 (ce _) Bt hw λw2 Bt hw Ft=>?_;go_wp2_with fail;refine zG λW3 hW=>?_;obtain ⟨bke,hbe⟩:∃ b,w2.heap.size=b:=⟨_,rfl⟩;rw [hbe];obtain ⟨lte,fe,Be,Bt,hw⟩:=qM1 hW hbe Bt hw;clear hW hbe;have BM:Box W3 (mb) [.map (some b)] 98:=Bm.ee hw;refine wp_loop_rounds 5 ?_;have HF:=Hm.ee hw;have hg:w.grownBy W3 (some b):=zM hw _;clear hw;try rw [rounds_succ]
 have Ft:=Bt.f;have Fe:=Be.f;have FM:=BM.f;go_wp2_with fail;have hw:Below W3 W3 W3:=Below.refl _ _;have Gz:=J3 Bt.cells Be.cells BM.cells;refine rgn 7 (λw4 hb=>?_);clear Gz;clear Ft Fe FM;obtain ⟨Bt,Be,BM,hw,-⟩:=qX3 Bt Be BM hw hb;replace HF:=HF.ee hw;replace hg:=zO hg hw;clear hw;refine xG _ rfl _ _ rfl kvR rfl HF (T.A,T.B) rfl (okT_w hk).1 ?_;intro c0 HG hh hs;replace Bt:=Bt.turn HF hh;replace Be:=Be.turn HF hh;replace BM:=BM.turn HF hh;replace hg:=zR hg hh;clear HF hh hs;have HF:=HG;clear HG;have G8:=J3 Bt.f Be.f BM.f;go_wp2_with fail;clear G8;try rw [rounds_succ]
 have Ft:=Bt.f;have Fe:=Be.f;have FM:=BM.f;go_wp2_with fail;have hw:Below c0 c0 c0:=Below.refl _ _;have Gz:=J3 Bt.cells Be.cells BM.cells;refine rgn 7 (λw5 hb=>?_);clear Gz;clear Ft Fe FM;obtain ⟨Bt,Be,BM,hw,-⟩:=qX3 Bt Be BM hw hb;replace HF:=HF.ee hw;replace hg:=zO hg hw;clear hw;refine xG _ rfl _ _ rfl kvR rfl HF (T.B,T.C) rfl (okT_w hk).2.1 ?_;intro c1 HG hh hs;replace Bt:=Bt.turn HF hh;replace Be:=Be.turn HF hh;replace BM:=BM.turn HF hh;replace hg:=zR hg hh;clear HF hh hs;have HF:=HG;clear HG;have G8:=J3 Bt.f Be.f BM.f;go_wp2_with fail;clear G8;try rw [rounds_succ]
 have Ft:=Bt.f;have Fe:=Be.f;have FM:=BM.f;go_wp2_with fail;have hw:Below c1 c1 c1:=Below.refl _ _;have Gz:=J3 Bt.cells Be.cells BM.cells;refine rgn 7 (λw6 hb=>?_);clear Gz;clear Ft Fe FM;obtain ⟨Bt,Be,BM,hw,-⟩:=qX3 Bt Be BM hw hb;replace HF:=HF.ee hw;replace hg:=zO hg hw;clear hw;refine xG _ rfl _ _ rfl kvR rfl HF (T.C,T.A) rfl (okT_w hk).2.2 ?_;intro c2 HG hh hs;replace Bt:=Bt.turn HF hh;replace Be:=Be.turn HF hh;replace BM:=BM.turn HF hh;replace hg:=zR hg hh;clear HF hh hs;have HF:=HG;clear HG;have G8:=J3 Bt.f Be.f BM.f;go_wp2_with fail;clear G8;try rw [rounds_succ]
 have Ft:=Bt.f;have Fe:=Be.f;have FM:=BM.f;go_wp2;refine bodyPost_end (results_none rfl _ _ _) rfl ⟨rfl,hg,HF⟩
theorem Yo (mb b:Nat) (E:Es) (p q:Pt) (hk:okW (p,q)) (S R U V:Tri3) (C D:Pt) (h0:getE E (p,q)=some S) (h1:getE E (q,p)=some R) (hC:apx S p q=C) (hD:apx R p q=D) (o1:decide (ori p D C<=0)=false) (o2:decide (ori D q C<=0)=false) (hU:mk p D C=U) (hV:mk D q C=V) (he:getE E (D,C)=none) (hf:getE E (C,D)=none) (hc:okW (C,D)) (hS:okT S) (hR:okT R) (hu:okT U) (hv:okT V) (f1:freeE (takeT (takeT E S) R) U=true) (f2:freeE (putT (takeT (takeT E S) R) U) V=true) (w:World) (Bm:Box w mb [.map (some b)] 98) (Hm:Hs w b E):Calls prog 85 #[pt0 mb,p,q] w λe w'=>e=.returned (.int .i64 0)/\w.grownBy w' (some b)/\Hs w' b (putT (putT (takeT (takeT E S) R) U) V):=by
 have cl:=zZ mb b E p q hk;have cr:=zZ mb b E q p ⟨hk.2,hk.1⟩;rw [zf h0] at cl;rw [zf h1] at cr;clear h0 h1;have ca:=xB S p q;have cb:=xB R p q;have c1:=zH p D C;have c2:=zH D q C;rw [hC] at ca;rw [hD] at cb;have cu:=yT p D C;have cv:=yT D q C;rw [hU] at cu;rw [hV] at cv;have ce:=zZ mb b E D C ⟨hc.2,hc.1⟩;have cf:=zZ mb b E C D hc;rw [yW he] at ce;rw [yW hf] at cf;have t1:=uE mb b E S hS;have t2:=uE mb b (takeT E S) R hR;have p1:=uF mb b (takeT (takeT E S) R) U f1 hu;have p2:=uF mb b (putT (takeT (takeT E S) R) U) V f2 hv;clear hU hV hC hD he hf hS hR hu hv f1 f2 hc
 go_enter func85,ntmps85
 go_wp2_with fail;refine qE2 λW1 Bp Bq hw=>?_;refine qC2 (cl _ (Bm.ee hw) (Hm.ee hw)) Bp Bq hw λw2 Bp Bq hw FJ=>?_;go_wp2_with fail;clear FJ;refine zI λW3 hW=>?_;obtain ⟨bks,hbs⟩:∃ b,w2.heap.size=b:=⟨_,rfl⟩;rw [hbs];obtain ⟨lps,lqs,fs,Bs,Bp,Bq,hw⟩:=qM2 hW hbs Bp Bq hw;clear hW hbs;refine qC3 (cr _ (Bm.ee hw) (Hm.ee hw)) Bp Bq Bs hw λw4 Bp Bq Bs hw Gw=>?_;go_wp2_with fail;clear Gw;refine zG λW5 hW=>?_;obtain ⟨bkr,hbr⟩:∃ b,w4.heap.size=b:=⟨_,rfl⟩;rw [hbr];obtain ⟨lpr,lqr,lsr,fr,Br,Bp,Bq,Bs,hw⟩:=qM3 hW hbr Bp Bq Bs hw;clear hW hbr;have G0:=J4 Bp.cells Bq.cells Bs.cells Br.cells;refine zn 10 [⟨8,11,34,[(),()]⟩,⟨9,12,34,[(),()]⟩] ?_ (by kernel_rfl) (by decide) (by decide) (by kernel_rfl) (by decide) (C:=λw'=>∃ p:Regrown,w'=grow (redrawn W5 p.d) p.os) rgB ?_
 ·simp only [QT];refine ⟨⟨_,rfl,rfl,rfl,rfl,λρ W=>by simp [execOp,go_sem]⟩,⟨_,rfl,rfl,rfl,rfl,λρ W=>by simp [execOp,go_sem]⟩,λ_ h=>(by cases h)⟩
 simp only [Q5,Qd,Jm,Qw,dropIdx,Qe,Qj,Nat.reduceBEq,Nat.reduceAdd,V6,VF,VG,QA,VZ,VT];refine wkx ?_;intro w6 β hL;simp only [putD,QY,QZ];have qc:=hL.box ⟨8,11,34,[(),()]⟩ (by simp) (by simp);simp only at qc;have qd:=hL.box ⟨9,12,34,[(),()]⟩ (by simp) (by simp);simp only at qd;have ncd:=hL.apart 11 (by simp) 12 (by simp) (by decide);have ndc:=hL.apart 12 (by simp) 11 (by simp) (by decide);have hb:=hL.below;have lp:=Bp.lt;have lq:=Bq.lt;have ls:=Bs.lt;have lr:=Br.lt;clear G0;replace Bp:=Bp.ee hb;replace Bq:=Bq.ee hb;replace Bs:=Bs.ee hb;replace Br:=Br.ee hb;have hw0:=hw.size;replace hw:=upB hw hb;clear hb hL;generalize β 11=bkc at *
 generalize β 12=bkd at *
 clear β;obtain ⟨fc,Bc⟩:=qc;obtain ⟨fd,Bd⟩:=qd;simp only [Act.put];have Fc:=Bc.f;have Fd:=Bd.f;have Fp:=Bp.f;have Fq:=Bq.f;have Fs:=Bs.f;have Fr:=Br.f;have epbkc:(w.heap.size=bkc)=False:=by simp;omega
 have epbkc':(bkc=w.heap.size)=False:=by simp;omega
 have epbkd:(w.heap.size=bkd)=False:=by simp;omega
 have epbkd':(bkd=w.heap.size)=False:=by simp;omega
 have eqbkc:(w.heap.size+1=bkc)=False:=by simp;omega
 have eqbkc':(bkc=w.heap.size+1)=False:=by simp;omega
 have eqbkd:(w.heap.size+1=bkd)=False:=by simp;omega
 have eqbkd':(bkd=w.heap.size+1)=False:=by simp;omega
 have esbkc:(bks=bkc)=False:=by simp;omega
 have esbkc':(bkc=bks)=False:=by simp;omega
 have esbkd:(bks=bkd)=False:=by simp;omega
 have esbkd':(bkd=bks)=False:=by simp;omega
 have erbkc:(bkr=bkc)=False:=by simp;omega
 have erbkc':(bkc=bkr)=False:=by simp;omega
 have erbkd:(bkr=bkd)=False:=by simp;omega
 have erbkd':(bkd=bkr)=False:=by simp;omega
 have ebkcbkd:(bkc=bkd)=False:=by simp;omega
 have ebkdbkc:(bkd=bkc)=False:=by simp;omega
 go_wp2_with fail;refine zI λW7 hW=>?_;replace Bp:=sto Bp hW;replace Bq:=sto Bq hW;replace Bs:=sto Bs hW;replace Br:=sto Br hW;replace Bc:=sto Bc hW;replace Bd:=sto Bd hW;replace hw:=stw hw hW;clear Fc Fd;clear Fp Fq Fs Fr epbkc epbkc' epbkd epbkd' eqbkc eqbkc' eqbkd eqbkd' esbkc esbkc' esbkd esbkd' erbkc erbkc' erbkd erbkd' ebkcbkd ebkdbkc;clear hW;refine qC6 (c1 _) Bp Bq Bs Br Bc Bd hw λw8 Bp Bq Bs Br Bc Bd hw Gk=>?_;go_wp2_with fail;clear Gk;refine qC6 (c2 _) Bp Bq Bs Br Bc Bd hw λw9 Bp Bq Bs Br Bc Bd hw Gk=>?_;go_wp2_with fail;clear Gk;refine qC6 (cu _) Bp Bq Bs Br Bc Bd hw λw10 Bp Bq Bs Br Bc Bd hw Gk=>?_;go_wp2_with fail;clear Gk;refine zI λW11 hW=>?_;obtain ⟨bku,hbu⟩:∃ b,w10.heap.size=b:=⟨_,rfl⟩;rw [hbu];have lpu:=Bp.lt;rw [hbu] at lpu;have lqu:=Bq.lt;rw [hbu] at lqu;have lsu:=Bs.lt;rw [hbu] at lsu;have lru:=Br.lt;rw [hbu] at lru;have lcu:=Bc.lt;rw [hbu] at lcu;have ldu:=Bd.lt;rw [hbu] at ldu;have fu:=hw.size;rw [hbu] at fu;have Bu:Box W11 bku [U.A.x,U.A.y,U.B.x,U.B.y,U.C.x,U.C.y] 45:=by rw [hW];exact Box.new hbu.symm
 replace Bp:Box W11 w [p.x,p.y] 34:=by rw [hW];exact Bp.old _
 replace Bq:Box W11 (w+1) [q.x,q.y] 34:=by rw [hW];exact Bq.old _
 replace Bs:Box W11 (bks) [S.A.x,S.A.y,S.B.x,S.B.y,S.C.x,S.C.y] 45:=by rw [hW];exact Bs.old _
 replace Br:Box W11 (bkr) [R.A.x,R.A.y,R.B.x,R.B.y,R.C.x,R.C.y] 45:=by rw [hW];exact Br.old _
 replace Bc:Box W11 (bkc) [C.x,C.y] 34:=by rw [hW];exact Bc.old _
 replace Bd:Box W11 (bkd) [D.x,D.y] 34:=by rw [hW];exact Bd.old _
 replace hw:Below w w W11:=by have hl:=hw.size;rw [hW];go_grown
 clear hW hbu;refine (cv _).mono ?_;rintro e w12 ⟨rfl,hb⟩;replace Bp:=Bp.ee hb;obtain ⟨Bq,Bs,Br,Bc,Bd,Bu,hw,-⟩:=qX6 Bq Bs Br Bc Bd Bu hw hb;clear hb;have Hq:=J7 Bp.f Bq.f Bs.f Br.f Bc.f Bd.f Bu.f;go_wp2_with fail;clear Hq;refine zI λW13 hW=>?_;obtain ⟨bkv,hbv⟩:∃ b,w12.heap.size=b:=⟨_,rfl⟩;rw [hbv];have lpv:=Bp.lt;rw [hbv] at lpv;have lqv:=Bq.lt;rw [hbv] at lqv;have lsv:=Bs.lt;rw [hbv] at lsv;have lrv:=Br.lt;rw [hbv] at lrv;have lcv:=Bc.lt;rw [hbv] at lcv;have ldv:=Bd.lt;rw [hbv] at ldv;have luv:=Bu.lt;rw [hbv] at luv;have fv:=hw.size;rw [hbv] at fv;have Bv:Box W13 bkv [V.A.x,V.A.y,V.B.x,V.B.y,V.C.x,V.C.y] 45:=by rw [hW];exact Box.new hbv.symm
 replace Bp:Box W13 w [p.x,p.y] 34:=by rw [hW];exact Bp.old _
 replace Bq:Box W13 (w+1) [q.x,q.y] 34:=by rw [hW];exact Bq.old _
 replace Bs:Box W13 (bks) [S.A.x,S.A.y,S.B.x,S.B.y,S.C.x,S.C.y] 45:=by rw [hW];exact Bs.old _
 replace Br:Box W13 (bkr) [R.A.x,R.A.y,R.B.x,R.B.y,R.C.x,R.C.y] 45:=by rw [hW];exact Br.old _
 replace Bc:Box W13 (bkc) [C.x,C.y] 34:=by rw [hW];exact Bc.old _
 replace Bd:Box W13 (bkd) [D.x,D.y] 34:=by rw [hW];exact Bd.old _
 replace Bu:Box W13 (bku) [U.A.x,U.A.y,U.B.x,U.B.y,U.C.x,U.C.y] 45:=by rw [hW];exact Bu.old _
 replace hw:Below w w W13:=by have hl:=hw.size;rw [hW];go_grown
 clear hW hbv;refine (ce _ (Bm.ee hw) (Hm.ee hw)).mono ?_;rintro e w14 ⟨rfl,hb⟩;replace Bp:=Bp.ee hb;replace Bq:=Bq.ee hb;obtain ⟨Bs,Br,Bc,Bd,Bu,Bv,hw,-⟩:=qX6 Bs Br Bc Bd Bu Bv hw hb;clear hb;have Hk:=J8 Bp.f Bq.f Bs.f Br.f Bc.f Bd.f Bu.f Bv.f;go_wp2_with fail;clear Hk;refine zI λW15 hW=>?_;obtain ⟨bko,hbo⟩:∃ b,w14.heap.size=b:=⟨_,rfl⟩;rw [hbo];have lpo:=Bp.lt;rw [hbo] at lpo;have lqo:=Bq.lt;rw [hbo] at lqo;have lso:=Bs.lt;rw [hbo] at lso;have lro:=Br.lt;rw [hbo] at lro;have lco:=Bc.lt;rw [hbo] at lco;have ldo:=Bd.lt;rw [hbo] at ldo;have luo:=Bu.lt;rw [hbo] at luo;have lvo:=Bv.lt;rw [hbo] at lvo;have fo:=hw.size;rw [hbo] at fo;have Bo:Box W15 bko [(),(),(),(),(),()] 45:=by rw [hW];exact Box.new hbo.symm
 replace Bp:Box W15 w [p.x,p.y] 34:=by rw [hW];exact Bp.old _
 replace Bq:Box W15 (w+1) [q.x,q.y] 34:=by rw [hW];exact Bq.old _
 replace Bs:Box W15 (bks) [S.A.x,S.A.y,S.B.x,S.B.y,S.C.x,S.C.y] 45:=by rw [hW];exact Bs.old _
 replace Br:Box W15 (bkr) [R.A.x,R.A.y,R.B.x,R.B.y,R.C.x,R.C.y] 45:=by rw [hW];exact Br.old _
 replace Bc:Box W15 (bkc) [C.x,C.y] 34:=by rw [hW];exact Bc.old _
 replace Bd:Box W15 (bkd) [D.x,D.y] 34:=by rw [hW];exact Bd.old _
 replace Bu:Box W15 (bku) [U.A.x,U.A.y,U.B.x,U.B.y,U.C.x,U.C.y] 45:=by rw [hW];exact Bu.old _
 replace Bv:Box W15 (bkv) [V.A.x,V.A.y,V.B.x,V.B.y,V.C.x,V.C.y] 45:=by rw [hW];exact Bv.old _
 replace hw:Below w w W15:=by have hl:=hw.size;rw [hW];go_grown
 clear hW hbo;refine (cf _ (Bm.ee hw) (Hm.ee hw)).mono ?_;rintro e w16 ⟨rfl,hb⟩;replace Bp:=Bp.ee hb;replace Bq:=Bq.ee hb;replace Bs:=Bs.ee hb;obtain ⟨Br,Bc,Bd,Bu,Bv,Bo,hw,-⟩:=qX6 Br Bc Bd Bu Bv Bo hw hb;clear hb;have RJ:=J9 Bp.f Bq.f Bs.f Br.f Bc.f Bd.f Bu.f Bv.f Bo.f;go_wp2_with fail;clear RJ;refine zI λW17 hW=>?_;obtain ⟨bkk,hbk⟩:∃ b,w16.heap.size=b:=⟨_,rfl⟩;rw [hbk];have lpk:=Bp.lt;rw [hbk] at lpk;have lqk:=Bq.lt;rw [hbk] at lqk;have lsk:=Bs.lt;rw [hbk] at lsk;have lrk:=Br.lt;rw [hbk] at lrk;have lck:=Bc.lt;rw [hbk] at lck;have ldk:=Bd.lt;rw [hbk] at ldk;have luk:=Bu.lt;rw [hbk] at luk;have lvk:=Bv.lt;rw [hbk] at lvk;have lok:=Bo.lt;rw [hbk] at lok;have fk:=hw.size;rw [hbk] at fk;have Bk:Box W17 bkk [(),(),(),(),(),()] 45:=by rw [hW];exact Box.new hbk.symm
 replace Bp:Box W17 w [p.x,p.y] 34:=by rw [hW];exact Bp.old _
 replace Bq:Box W17 (w+1) [q.x,q.y] 34:=by rw [hW];exact Bq.old _
 replace Bs:Box W17 (bks) [S.A.x,S.A.y,S.B.x,S.B.y,S.C.x,S.C.y] 45:=by rw [hW];exact Bs.old _
 replace Br:Box W17 (bkr) [R.A.x,R.A.y,R.B.x,R.B.y,R.C.x,R.C.y] 45:=by rw [hW];exact Br.old _
 replace Bc:Box W17 (bkc) [C.x,C.y] 34:=by rw [hW];exact Bc.old _
 replace Bd:Box W17 (bkd) [D.x,D.y] 34:=by rw [hW];exact Bd.old _
 replace Bu:Box W17 (bku) [U.A.x,U.A.y,U.B.x,U.B.y,U.C.x,U.C.y] 45:=by rw [hW];exact Bu.old _
 replace Bv:Box W17 (bkv) [V.A.x,V.A.y,V.B.x,V.B.y,V.C.x,V.C.y] 45:=by rw [hW];exact Bv.old _
 replace Bo:Box W17 (bko) [(),(),(),(),(),()] 45:=by rw [hW];exact Bo.old _
 replace hw:Below w w W17:=by have hl:=hw.size;rw [hW];go_grown
 clear hW hbk;have BM:=Bm.ee hw;have HF:=Hm.ee hw;have hg:w.grownBy W17 (some b):=zM hw _;clear hw Bm Hm;refine (t1 _ BM HF).mono ?_;rintro e c18 ⟨rfl,hh,HG⟩;replace Bp:=Bp.turn HF hh;replace Bq:=Bq.turn HF hh;replace Bs:=Bs.turn HF hh;replace Br:=Br.turn HF hh;replace Bc:=Bc.turn HF hh;replace Bd:=Bd.turn HF hh;replace Bu:=Bu.turn HF hh;replace Bv:=Bv.turn HF hh;replace Bo:=Bo.turn HF hh;replace Bk:=Bk.turn HF hh;replace BM:=BM.turn HF hh;replace hg:=zR hg hh;clear HF hh;have HF:=HG;clear HG;have Fp:=Bp.f;have Fq:=Bq.f;have Fs:=Bs.f;have Fr:=Br.f;have Fc:=Bc.f;have Fd:=Bd.f;have Fu:=Bu.f;have Fv:=Bv.f;have Fo:=Bo.f;have Fk:=Bk.f;go_wp2_with fail;refine (t2 _ BM HF).mono ?_;rintro e c19 ⟨rfl,hh,HG⟩;clear Fp Fq Fs Fr Fc Fd Fu Fv Fo Fk;replace Bp:=Bp.turn HF hh;replace Bq:=Bq.turn HF hh;replace Bs:=Bs.turn HF hh;replace Br:=Br.turn HF hh;replace Bc:=Bc.turn HF hh;replace Bd:=Bd.turn HF hh;replace Bu:=Bu.turn HF hh;replace Bv:=Bv.turn HF hh;replace Bo:=Bo.turn HF hh;replace Bk:=Bk.turn HF hh;replace BM:=BM.turn HF hh;replace hg:=zR hg hh;clear HF hh;have HF:=HG;clear HG;have Fp:=Bp.f;have Fq:=Bq.f;have Fs:=Bs.f;have Fr:=Br.f;have Fc:=Bc.f;have Fd:=Bd.f;have Fu:=Bu.f;have Fv:=Bv.f;have Fo:=Bo.f;have Fk:=Bk.f;go_wp2_with fail;refine (p1 _ BM HF).mono ?_;rintro e c20 ⟨rfl,hh,HG⟩;clear Fp Fq Fs Fr Fc Fd Fu Fv Fo Fk;replace Bp:=Bp.turn HF hh;replace Bq:=Bq.turn HF hh;replace Bs:=Bs.turn HF hh;replace Br:=Br.turn HF hh;replace Bc:=Bc.turn HF hh;replace Bd:=Bd.turn HF hh;replace Bu:=Bu.turn HF hh;replace Bv:=Bv.turn HF hh;replace Bo:=Bo.turn HF hh;replace Bk:=Bk.turn HF hh;replace BM:=BM.turn HF hh;replace hg:=zR hg hh;clear HF hh;have HF:=HG;clear HG;have Fp:=Bp.f;have Fq:=Bq.f;have Fs:=Bs.f;have Fr:=Br.f;have Fc:=Bc.f;have Fd:=Bd.f;have Fu:=Bu.f;have Fv:=Bv.f;have Fo:=Bo.f;have Fk:=Bk.f;go_wp2_with fail;refine (p2 _ BM HF).mono ?_;rintro e w99 ⟨rfl,hh,HG⟩;clear Fp Fq Fs Fr Fc Fd Fu Fv Fo Fk;replace hg:=zR hg hh;go_wp2
 go_ret
 exact ⟨rfl,hg,HG⟩
def crs (a b q:Pt):Int:=if a.y<=q.y/\q.y < b.y/\0 < det a b q then 1 else if b.y<=q.y/\q.y < a.y/\det a b q < 0 then -1 else 0
theorem x9 (a b q:Pt):crs b a q = - crs a b q:=by
 unfold crs;rw [zW]
 (repeat' split) <;> omega
theorem zY {a b:Int} (ha:0 < a):0 < a * b↔0 < b:=by
 constructor
 ·intro h;rcases V5 b 0 with k | k | k
  ·have:=QE ha k;omega
  ·rw [k,Jh] at h;omega
  ·exact k
 ·intro h;exact JP ha h
theorem yP {a b:Int} (ha:0 < a):a * b < 0↔b < 0:=by
 have:=zY (b := -b) ha;rw [Ql] at this;omega
theorem zd {a b:Int} (ha:0 < a):0<=a * b↔0<=b:=by
 have:=yP (b:=b) ha;omega
theorem crs_add {a b p:Pt} (h:det a b p=0) (hb:(a.y<=p.y/\p.y<=b.y)\/(b.y<=p.y/\p.y<=a.y)) (q:Pt):crs a b q=crs a p q+crs p b q:=by
 have e1:(b.y - a.y) * det a p q=(p.y - a.y) * det a b q - (q.y - a.y) * det a b p:=by unfold det;grind
 have e2:(b.y - a.y) * det p b q=(b.y - p.y) * det a b q+(q.y - b.y) * det a b p:=by unfold det;grind
 rw [h,Jh] at e1 e2;rw [Qp] at e1;rw [VA] at e2;have key:∀ (s t d f:Int),0 < s->0 < t->s * f=t * d->((0 < f↔0 < d)/\(f < 0↔d < 0)):=by
  intro s t d f hs ht h;refine ⟨?_,?_⟩
  ·rw [<-zY hs,h,zY ht]
  ·rw [<-yP hs,h,yP ht]
 have key':∀ (s t d f:Int),s < 0->t < 0->s * f=t * d->((0 < f↔0 < d)/\(f < 0↔d < 0)):=by
  intro s t d f hs ht h;refine key (-s) (-t) d f (by omega) (by omega) ?_;rw [Vk,Vk,h]
 unfold crs;rcases V5 a.y b.y with hab | hab | hab
 ·have k1:a.y < p.y->((0 < det a p q↔0 < det a b q)/\(det a p q < 0↔det a b q < 0)):=λhp=>key _ _ _ _ (by omega) (by omega) e1;have k2:p.y < b.y->((0 < det p b q↔0 < det a b q)/\(det p b q < 0↔det a b q < 0)):=λhp=>key _ _ _ _ (by omega) (by omega) e2
  (repeat' split) <;> omega
 ·(repeat' split) <;> omega
 ·have k1:p.y < a.y->((0 < det a p q↔0 < det a b q)/\(det a p q < 0↔det a b q < 0)):=λhp=>key' _ _ _ _ (by omega) (by omega) e1;have k2:b.y < p.y->((0 < det p b q↔0 < det a b q)/\(det p b q < 0↔det a b q < 0)):=λhp=>key' _ _ _ _ (by omega) (by omega) e2
  (repeat' split) <;> omega
def hin (T:Tri3) (q:Pt):Int:=crs T.A T.B q+crs T.B T.C q+crs T.C T.A q
theorem xo {a b c q:Pt} (hD:0 < det a b c):(a.y<=q.y->q.y < b.y->c.y<=q.y->det b c q < 0->0 < det a b q)/\(a.y<=q.y->q.y < b.y->q.y < c.y->det c a q < 0->0 < det a b q):=by
 refine ⟨λh1 h2 h3 h4=>?_,λh1 h2 h3 h4=>?_⟩
 ·have e:(b.y - c.y) * det a b q=(b.y - q.y) * det a b c - (b.y - a.y) * det b c q:=by unfold det;grind
  have p1:0 < (b.y - q.y) * det a b c:=JP (by omega) hD;have p2:(b.y - a.y) * det b c q < 0:=QE (by omega) h4;exact (zY (a:=b.y - c.y) (by omega)).1 (by omega)
 ·have e:(c.y - a.y) * det a b q=(q.y - a.y) * det a b c - (b.y - a.y) * det c a q:=by unfold det;grind
  have p1:0<=(q.y - a.y) * det a b c:=JD (by omega) (by omega);have p2:(b.y - a.y) * det c a q < 0:=QE (by omega) h4;exact (zY (a:=c.y - a.y) (by omega)).1 (by omega)
theorem xH {a b c q:Pt}:(a.y<=q.y->q.y < b.y->c.y<=q.y->0 < det a b q->0<=det b c q->0<=det c a q)/\(a.y<=q.y->q.y < b.y->q.y < c.y->0 < det a b q->0<=det c a q->0<=det b c q):=by
 have e:det a b q * (c.y - q.y)+det b c q * (a.y - q.y)+det c a q * (b.y - q.y)=0:=by unfold det;grind
 refine ⟨λh1 h2 h3 h4 h5=>?_,λh1 h2 h3 h4 h5=>?_⟩
 ·have p1:0<=det a b q * (q.y - c.y):=JD (by omega) (by omega);have p2:0<=det b c q * (q.y - a.y):=JD (by omega) (by omega);have:(b.y - q.y) * det c a q=det a b q * (q.y - c.y)+det b c q * (q.y - a.y):=by grind
  exact (zd (a:=b.y - q.y) (by omega)).1 (by omega)
 ·have p1:0 < det a b q * (c.y - q.y):=JP (by omega) (by omega);have p2:0<=det c a q * (b.y - q.y):=JD (by omega) (by omega);have:(q.y - a.y) * det b c q=det a b q * (c.y - q.y)+det c a q * (b.y - q.y):=by grind
  rcases Jy h1 with h | h
  ·exact (zd (a:=q.y - a.y) (by omega)).1 (by omega)
  ·rw [h,VB,Jn] at this;omega
theorem YZ {a b q:Pt} (h1:a.y<=q.y) (h2:q.y < b.y):crs a b q=if 0 < det a b q then 1 else 0:=by
 unfold crs
 (repeat' split) <;> omega
theorem ko {a b q:Pt} (h1:b.y<=q.y) (h2:q.y < a.y):crs a b q=if det a b q < 0 then -1 else 0:=by
 unfold crs
 (repeat' split) <;> omega
theorem qj {a b q:Pt} (h1:a.y<=q.y) (h2:b.y<=q.y):crs a b q=0:=by
 unfold crs
 (repeat' split) <;> omega
theorem qk {a b q:Pt} (h1:q.y < a.y) (h2:q.y < b.y):crs a b q=0:=by
 unfold crs
 (repeat' split) <;> omega
theorem cover_flat {a b c q:Pt} (hD:0 < det a b c) (h1:0 < det a b q) (h2:0 < det b c q) (h3:0 < det c a q):¬ (c.y<=q.y/\a.y<=q.y/\b.y<=q.y)/\¬ (q.y < c.y/\q.y < a.y/\q.y < b.y):=by
 have e:det a b q * (q.y - c.y)+det b c q * (q.y - a.y)+det c a q * (q.y - b.y)=0:=by unfold det;grind
 have e':det a b q * (c.y - q.y)+det b c q * (a.y - q.y)+det c a q * (b.y - q.y)=0:=by unfold det;grind
 refine ⟨λ⟨k1,k2,k3⟩=>?_,λ⟨k1,k2,k3⟩=>?_⟩
 ·have m1:0<=det a b q * (q.y - c.y):=JD (by omega) (by omega);have m2:0<=det b c q * (q.y - a.y):=JD (by omega) (by omega);have m3:0<=det c a q * (q.y - b.y):=JD (by omega) (by omega);have z1:det a b q * (q.y - c.y)=0:=by omega
  have z2:det b c q * (q.y - a.y)=0:=by omega
  have z3:det c a q * (q.y - b.y)=0:=by omega
  have y1:q.y=c.y:=by rcases JF.1 z1 with h | h <;> omega
  have y2:q.y=a.y:=by rcases JF.1 z2 with h | h <;> omega
  have y3:q.y=b.y:=by rcases JF.1 z3 with h | h <;> omega
  have:det a b c=0:=by
   unfold det;rw [show c.y - a.y=0 by omega,show b.y - a.y=0 by omega];simp
  omega
 ·have m1:0 < det a b q * (c.y - q.y):=JP (by omega) (by omega);have m2:0 < det b c q * (a.y - q.y):=JP (by omega) (by omega);have m3:0 < det c a q * (b.y - q.y):=JP (by omega) (by omega);omega
theorem qm {u v w S:Int} (h:S=(if 0 < u then 1 else 0)+(if v < 0 then -1 else 0)) (hp:v < 0->0 < u) (ht:0 < u->0<=v->0<=w):(0<=S/\S<=1)/\(0 < S->0<=u/\0<=v/\0<=w)/\(0 < u->0 < v->0 < w->S=1):=by
 rw [h];clear h
 (repeat' split) <;> omega
theorem XI {a b c:Pt} (hD:0 < det a b c) (q:Pt):(0<=crs a b q+crs b c q+crs c a q/\crs a b q+crs b c q+crs c a q<=1)/\(0 < crs a b q+crs b c q+crs c a q->0<=det a b q/\0<=det b c q/\0<=det c a q)/\(0 < det a b q->0 < det b c q->0 < det c a q->crs a b q+crs b c q+crs c a q=1):=by
 have hD2:0 < det b c a:=by rw [zX];exact hD
 have hD3:0 < det c a b:=by rw [zX,zX];exact hD
 have f:=cover_flat (q:=q) hD;by_cases ha:a.y<=q.y <;> by_cases hb:b.y<=q.y <;> by_cases hc:c.y<=q.y
 ·rw [qj ha hb,qj hb hc,qj hc ha];exact ⟨by omega,by omega,λh1 h2 h3=>absurd ⟨hc,ha,hb⟩ (f h1 h2 h3).1⟩
 ·obtain ⟨r1, r2, r3⟩ := qm (u := det b c q) (v := det c a q) (w := det a b q) (S := crs a b q + crs b c q + crs c a q)
    (by rw [qj ha hb,YZ hb (by omega),ko ha (by omega)];omega) ((xo hD2).1 hb (by omega) ha) (xH.1 hb (by omega) ha)
  exact ⟨r1,λh=>⟨(r2 h).2.2,(r2 h).1,(r2 h).2.1⟩,λh1 h2 h3=>r3 h2 h3 h1⟩
 ·obtain ⟨r1, r2, r3⟩ := qm (u := det a b q) (v := det b c q) (w := det c a q) (S := crs a b q + crs b c q + crs c a q)
    (by rw [YZ ha (by omega),ko hc (by omega),qj hc ha];omega) ((xo hD).1 ha (by omega) hc) (xH.1 ha (by omega) hc)
  exact ⟨r1,λh=>⟨(r2 h).1,(r2 h).2.1,(r2 h).2.2⟩,λh1 h2 h3=>r3 h1 h2 h3⟩
 ·obtain ⟨r1, r2, r3⟩ := qm (u := det a b q) (v := det c a q) (w := det b c q) (S := crs a b q + crs b c q + crs c a q)
    (by rw [YZ ha (by omega),qk (by omega) (by omega),ko ha (by omega)];omega) ((xo hD).2 ha (by omega) (by omega)) (xH.2 ha (by omega) (by omega))
  exact ⟨r1,λh=>⟨(r2 h).1,(r2 h).2.2,(r2 h).2.1⟩,λh1 h2 h3=>r3 h1 h3 h2⟩
 ·obtain ⟨r1, r2, r3⟩ := qm (u := det c a q) (v := det a b q) (w := det b c q) (S := crs a b q + crs b c q + crs c a q)
    (by rw [ko hb (by omega),qj hb hc,YZ hc (by omega)];omega) ((xo hD3).1 hc (by omega) hb) (xH.1 hc (by omega) hb)
  exact ⟨r1,λh=>⟨(r2 h).2.1,(r2 h).2.2,(r2 h).1⟩,λh1 h2 h3=>r3 h3 h1 h2⟩
 ·obtain ⟨r1, r2, r3⟩ := qm (u := det b c q) (v := det a b q) (w := det c a q) (S := crs a b q + crs b c q + crs c a q)
    (by rw [ko hb (by omega),YZ hb (by omega),qk (by omega) (by omega)];omega) ((xo hD2).2 hb (by omega) (by omega)) (xH.2 hb (by omega) (by omega))
  exact ⟨r1,λh=>⟨(r2 h).2.1,(r2 h).1,(r2 h).2.2⟩,λh1 h2 h3=>r3 h2 h1 h3⟩
 ·obtain ⟨r1, r2, r3⟩ := qm (u := det c a q) (v := det b c q) (w := det a b q) (S := crs a b q + crs b c q + crs c a q)
    (by rw [qk (by omega) (by omega),ko hc (by omega),YZ hc (by omega)];omega) ((xo hD3).2 hc (by omega) (by omega)) (xH.2 hc (by omega) (by omega))
  exact ⟨r1,λh=>⟨(r2 h).2.2,(r2 h).2.1,(r2 h).1⟩,λh1 h2 h3=>r3 h3 h2 h1⟩
 ·rw [qk (by omega) (by omega),qk (by omega) (by omega),qk (by omega) (by omega)];exact ⟨by omega,by omega,λh1 h2 h3=>absurd ⟨by omega,by omega,by omega⟩ (f h1 h2 h3).2⟩
def sc (K:Int) (p:Pt):Pt:=⟨K * p.x,K * p.y⟩
theorem Xy (K:Int) (a b c:Pt):det (sc K a) (sc K b) (sc K c)=K * (K * det a b c):=by unfold det sc;grind
def crd (a b v:Pt):Int:=(b.x - a.x) * v.y - (b.y - a.y) * v.x
def ways (T:Tri3):List (Pt×Pt):=[(T.A,T.B),(T.B,T.C),(T.C,T.A)]
def cvr (K:Int):List (Pt×Pt)->Pt->Int
 | [],_=>0
 | w :: l,q=>crs (sc K w.1) (sc K w.2) q+cvr K l q
theorem xk (K:Int) (l m:List (Pt×Pt)) (q:Pt):cvr K (l ++ m) q=cvr K l q+cvr K m q:=by
 induction l with
 | nil=>simp [cvr]
 | cons w l ih=>simp only [Jw,cvr,ih];omega
theorem ug {K:Int} {l m:List (Pt×Pt)} (h:l.Perm m) (q:Pt):cvr K l q=cvr K m q:=by
 induction h with
 | nil=>rfl
 | cons x _ ih=>simp only [cvr,ih]
 | swap x y l=>simp only [cvr];omega
 | trans _ _ h1 h2=>exact h1.trans h2
def onRim (W H:Int) (a b:Pt):Prop:=(a.x=0/\b.x=0)\/(a.x=W/\b.x=W)\/(a.y=0/\b.y=0)\/(a.y=H/\b.y=H)
def inBox (W H:Int) (p:Pt):Prop:=(0<=p.x/\p.x<=W)/\0<=p.y/\p.y<=H
def sqr (W H:Int) (q:Pt):Int:=if (0<=q.x/\q.x < W)/\0<=q.y/\q.y < H then 1 else 0
def sumA:List Tri3->Int
 | []=>0
 | T :: L=>det T.A T.B T.C+sumA L
theorem sumA_append (l m:List Tri3):sumA (l ++ m)=sumA l+sumA m:=by
 induction l with
 | nil=>simp [sumA]
 | cons w l ih=>simp only [Jw,sumA,ih];omega
theorem sumA_perm {l m:List Tri3} (h:l.Perm m):sumA l=sumA m:=by
 induction h with
 | nil=>rfl
 | cons x _ ih=>simp only [sumA,ih]
 | swap x y l=>simp only [sumA];omega
 | trans _ _ h1 h2=>exact h1.trans h2
structure Tiles (W H:Int) (L:List Tri3):Prop where
 pos:∀ T∈L,0 < det T.A T.B T.C
 once:(L.flatMap ways).Nodup
 box:∀ T∈L,inBox W H T.A/\inBox W H T.B/\inBox W H T.C
 rim:∀ w∈L.flatMap ways,(w.2,w.1)∈L.flatMap ways\/onRim W H w.1 w.2
 cov:∀ K,0 < K->∀ q,cvr K (L.flatMap ways) q=sqr (K * W) (K * H) q
 area:sumA L=2 * (W * H)
theorem zv {L M:List Tri3} (h:L.Perm M):(L.flatMap ways).Perm (M.flatMap ways):=h.flatMap_right _
theorem Tiles.perm {W H:Int} {L M:List Tri3} (h:Tiles W H L) (p:L.Perm M):Tiles W H M where
 pos:=λT hT=>h.pos T (p.mem_iff.2 hT)
 once:=(zv p).nodup_iff.1 h.once
 box:=λT hT=>h.box T (p.mem_iff.2 hT)
 rim:=λw hw=>by
  have:=h.rim w ((zv p).mem_iff.2 hw)
  rwa [(zv p).mem_iff] at this
 cov:=λK hK q=>by rw [<-ug (zv p)];exact h.cov K hK q
 area:=by rw [<-sumA_perm p];exact h.area
def hinK (K:Int) (T:Tri3) (q:Pt):Int:=cvr K (ways T) q
theorem XJ (K:Int) (T:Tri3) (q:Pt):hinK K T q=crs (sc K T.A) (sc K T.B) q+crs (sc K T.B) (sc K T.C) q+crs (sc K T.C) (sc K T.A) q:=by
 simp only [hinK,ways,cvr];omega
theorem Ko {K:Int} (hK:0 < K) {a b c:Pt} (h:0 < det a b c):0 < det (sc K a) (sc K b) (sc K c):=by
 rw [Xy];exact JP hK (JP hK h)
theorem hinK_nn {K:Int} (hK:0 < K) {T:Tri3} (h:0 < det T.A T.B T.C) (q:Pt):0<=hinK K T q/\hinK K T q<=1:=by
 rw [XJ];exact (XI (Ko hK h) q).1
theorem cvr_nn {K:Int} (hK:0 < K):∀ {L:List Tri3},(∀ T∈L,0 < det T.A T.B T.C)->∀ q,0<=cvr K (L.flatMap ways) q
 | [],_,q=>by simp [cvr]
 | T :: L,h,q=>by
  rw [JE,xk];have:=cvr_nn hK (L:=L) (λS hS=>h S (by simp [hS])) q;have:=(hinK_nn hK (h T (by simp)) q).1;unfold hinK at this;omega
theorem XY {K:Int} (hK:0 < K):∀ {L:List Tri3},(∀ T∈L,0 < det T.A T.B T.C)->∀ q,0 < cvr K (L.flatMap ways) q->∃ T∈L,0 < hinK K T q
 | [],_,q,h=>by simp [cvr] at h
 | T :: L,h,q,hc=>by
  rw [JE,xk] at hc;by_cases hT:0 < hinK K T q
  ·exact ⟨T,by simp,hT⟩
  ·unfold hinK at hT;obtain ⟨S,hS,h1⟩:=XY hK (L:=L) (λS hS=>h S (by simp [hS])) q (by omega);exact ⟨S,by simp [hS],h1⟩
theorem k7 {α:Type} [DecidableEq α] {L:List α} {a b:α} (ha:a∈L) (hb:b∈L) (h:a≠b):∃ M,L.Perm (a :: b :: M):=by
 have h1:=U9 ha;have hb':b∈L.erase a:=(U8 (λe=>h e.symm)).2 hb;exact ⟨(L.erase a).erase b,h1.trans ((U9 hb').cons a)⟩
section
variable {W H:Int} {L:List Tri3} (h:Tiles W H L)
include h
theorem Tiles.apart {S T:Tri3} (hS:S∈L) (hT:T∈L) (hne:S≠T) {K:Int} (hK:0 < K) (q:Pt):¬ (hinK K S q=1/\hinK K T q=1):=by
 intro ⟨h1,h2⟩;obtain ⟨M,hM⟩:=k7 hS hT hne;have h':=h.perm hM;have hc:=h'.cov K hK q;rw [JE,JE,xk,xk] at hc;have:=cvr_nn hK (L:=M) (λU hU=>h'.pos U (by simp [hU])) q;unfold hinK at h1 h2;have:sqr (K * W) (K * H) q<=1:=by unfold sqr;split <;> omega
 omega
end
def near3 (M:Int) (a b c p v:Pt):Prop:=
 (0 < det (sc M a) (sc M b) p\/(det (sc M a) (sc M b) p=0/\0 < crd a b v)) /\
 (0 < det (sc M b) (sc M c) p\/(det (sc M b) (sc M c) p=0/\0 < crd b c v)) /\
 (0 < det (sc M c) (sc M a) p\/(det (sc M c) (sc M a) p=0/\0 < crd c a v))
def near (M:Int) (T:Tri3) (p v:Pt):Prop:=near3 M T.A T.B T.C p v
theorem ZF {M:Int} {a b c p v:Pt} (h:near3 M a b c p v):near3 M b c a p v:=⟨h.2.1,h.2.2,h.1⟩
theorem ka {M K d c e:Int} (hM:0 < M) (hK:0 < K) (h:0 < d\/(d=0/\0 < c)) (hc:e=K * (K * d+M * c)) (hb:M * c+K > 0):0 < e:=by
 rw [hc];refine JP hK ?_;rcases h with h | ⟨h,k⟩
 ·have : K <= K * d := by
    have k0:0<=K * (d - 1):=JD (by omega) (by omega);rw [VD,Int.mul_one] at k0;omega
  omega
 ·rw [h,Jh,Vn];exact JP hM k
theorem xU (M K:Int) (a b p v:Pt):det (sc (K * M) a) (sc (K * M) b) ⟨K * p.x+v.x,K * p.y+v.y⟩=K * (K * det (sc M a) (sc M b) p+M * crd a b v):=by unfold det sc crd;grind
def big (M:Int) (T:Tri3) (v:Pt):Int:=(M * crd T.A T.B v).natAbs+(M * crd T.B T.C v).natAbs+(M * crd T.C T.A v).natAbs
theorem KO {M:Int} (hM:0 < M) {T:Tri3} {p v:Pt} (hp:0 < det T.A T.B T.C) (hn:near M T p v) {K:Int} (hK:big M T v < K):hinK (K * M) T ⟨K * p.x+v.x,K * p.y+v.y⟩=1:=by
 obtain ⟨h1,h2,h3⟩:=hn;unfold big at hK;have hK0:0 < K:=by omega
 rw [XJ];refine (XI (Ko (JP hK0 hM) hp) _).2.2 ?_ ?_ ?_
 ·exact ka hM hK0 h1 (xU M K _ _ p v) (by omega)
 ·exact ka hM hK0 h2 (xU M K _ _ p v) (by omega)
 ·exact ka hM hK0 h3 (xU M K _ _ p v) (by omega)
theorem Tiles.same {W H:Int} {L:List Tri3} (h:Tiles W H L) {S T:Tri3} (hS:S∈L) (hT:T∈L) {M:Int} (hM:0 < M) {p v:Pt} (h1:near M S p v) (h2:near M T p v):S=T:=by
 refine JQ λhne=>?_;have hK:0 < big M S v+big M T v+1:=by unfold big;omega
 exact h.apart hS hT hne (JP hK hM) _ ⟨KO hM (h.pos S hS) h1 (by unfold big;omega),KO hM (h.pos T hT) h2 (by unfold big;omega)⟩
theorem jt (p:Pt):sc 1 p=p:=by rw [Pt.eq_iff];simp [sc]
def Cyc (T:Tri3) (a b c:Pt):Prop:=(a=T.A/\b=T.B/\c=T.C)\/(a=T.B/\b=T.C/\c=T.A)\/(a=T.C/\b=T.A/\c=T.B)
theorem Cyc.refl (T:Tri3):Cyc T T.A T.B T.C:=.inl ⟨rfl,rfl,rfl⟩
theorem Cyc.turn {T:Tri3} {a b c:Pt} (h:Cyc T a b c):Cyc T b c a:=by
 rcases h with ⟨h1,h2,h3⟩ | ⟨h1,h2,h3⟩ | ⟨h1,h2,h3⟩
 ·exact .inr (.inl ⟨h2,h3,h1⟩)
 ·exact .inr (.inr ⟨h2,h3,h1⟩)
 ·exact .inl ⟨h2,h3,h1⟩
theorem Cyc.det {T:Tri3} {a b c:Pt} (h:Cyc T a b c):det a b c=det T.A T.B T.C:=by
 rcases h with ⟨rfl,rfl,rfl⟩ | ⟨rfl,rfl,rfl⟩ | ⟨rfl,rfl,rfl⟩
 ·rfl
 ·rw [zX]
 ·rw [zX,zX]
theorem Cyc.near {T:Tri3} {a b c:Pt} (h:Cyc T a b c) {M:Int} {p v:Pt} (hn:near3 M a b c p v):near M T p v:=by
 rcases h with ⟨rfl,rfl,rfl⟩ | ⟨rfl,rfl,rfl⟩ | ⟨rfl,rfl,rfl⟩
 ·exact hn
 ·exact ZF (ZF hn)
 ·exact ZF hn
theorem Cyc.ways {T:Tri3} {a b c:Pt} (h:Cyc T a b c):(ways T).Perm [(a,b),(b,c),(c,a)]:=by
 rcases h with ⟨rfl,rfl,rfl⟩ | ⟨rfl,rfl,rfl⟩ | ⟨rfl,rfl,rfl⟩
 ·exact .refl _
 ·exact Jq (l₁:=[(T.A,T.B)]) (l₂:=[(T.B,T.C),(T.C,T.A)])
 ·exact Jq (l₁:=[(T.A,T.B),(T.B,T.C)]) (l₂:=[(T.C,T.A)])
theorem Cyc.way {T:Tri3} {a b c:Pt} (h:Cyc T a b c):(a,b)∈Go.Proofs.YthhcehmmglmlfaaGreat.ways T:=h.ways.mem_iff.2 (by simp)
theorem yd {T:Tri3} {a b:Pt} (h:(a,b)∈ways T):∃ c,Cyc T a b c:=by
 simp only [ways,J1,Jt,JI,Jp] at h;rcases h with ⟨rfl,rfl⟩ | ⟨rfl,rfl⟩ | ⟨rfl,rfl⟩
 ·exact ⟨_,.inl ⟨rfl,rfl,rfl⟩⟩
 ·exact ⟨_,.inr (.inl ⟨rfl,rfl,rfl⟩)⟩
 ·exact ⟨_,.inr (.inr ⟨rfl,rfl,rfl⟩)⟩
def isCnr (T:Tri3) (p:Pt):Prop:=p=T.A\/p=T.B\/p=T.C
theorem qo {T:Tri3} {p:Pt} (h:isCnr T p):∃ b c,Cyc T p b c:=by
 rcases h with rfl | rfl | rfl
 ·exact ⟨_,_,.inl ⟨rfl,rfl,rfl⟩⟩
 ·exact ⟨_,_,.inr (.inl ⟨rfl,rfl,rfl⟩)⟩
 ·exact ⟨_,_,.inr (.inr ⟨rfl,rfl,rfl⟩)⟩
theorem Cyc.cnr {T:Tri3} {a b c:Pt} (h:Cyc T a b c):isCnr T a:=by
 rcases h with ⟨h,_⟩ | ⟨h,_⟩ | ⟨h,_⟩
 ·exact .inl h
 ·exact .inr (.inl h)
 ·exact .inr (.inr h)
theorem Cyc.cnr_iff {T:Tri3} {a b c:Pt} (h:Cyc T a b c) (p:Pt):isCnr T p↔p=a\/p=b\/p=c:=by
 unfold isCnr;rcases h with ⟨rfl,rfl,rfl⟩ | ⟨rfl,rfl,rfl⟩ | ⟨rfl,rfl,rfl⟩ <;> constructor <;> (rintro (h | h | h) <;> simp [h])
def hasT (T:Tri3) (p:Pt):Prop:=0<=det T.A T.B p/\0<=det T.B T.C p/\0<=det T.C T.A p
def insT (T:Tri3) (p:Pt):Prop:=0 < det T.A T.B p/\0 < det T.B T.C p/\0 < det T.C T.A p
def edg (a b c p:Pt):Prop:=det a b p=0/\0 < det b c p/\0 < det c a p
theorem uT {T:Tri3} {p:Pt} (hp:0 < det T.A T.B T.C) (h:hasT T p):isCnr T p\/insT T p\/∃ a b c,Cyc T a b c/\edg a b c p:=by
 obtain ⟨h1,h2,h3⟩:=h;have hs:=qn T.A T.B T.C p;have hp2:0 < det T.B T.C T.A:=by rw [zX];exact hp
 have hp3:0 < det T.C T.A T.B:=by rw [zX,zX];exact hp
 by_cases e1:det T.A T.B p=0 <;> by_cases e2:det T.B T.C p=0 <;> by_cases e3:det T.C T.A p=0
 ·omega
 ·exact .inl (.inr (.inl ((corner0 p hp2).2 ⟨e2,e1⟩)))
 ·exact .inl (.inl ((corner0 p hp).2 ⟨e1,e3⟩))
 ·exact .inr (.inr ⟨_,_,_,.inl ⟨rfl,rfl,rfl⟩,e1,by omega,by omega⟩)
 ·exact .inl (.inr (.inr ((corner0 p hp3).2 ⟨e3,e2⟩)))
 ·exact .inr (.inr ⟨_,_,_,.inr (.inl ⟨rfl,rfl,rfl⟩),e2,by omega,by omega⟩)
 ·exact .inr (.inr ⟨_,_,_,.inr (.inr ⟨rfl,rfl,rfl⟩),e3,by omega,by omega⟩)
 ·exact .inr (.inl ⟨by omega,by omega,by omega⟩)
theorem YL {T:Tri3} {p:Pt} (hp:0 < det T.A T.B T.C) (h:isCnr T p):hasT T p/\¬ insT T p:=by
 have hp2:0 < det T.B T.C T.A:=by rw [zX];exact hp
 have hp3:0 < det T.C T.A T.B:=by rw [zX,zX];exact hp
 have hs:=qn T.A T.B T.C p;unfold hasT insT;rcases h with h | h | h
 ·have:=(corner0 p hp).1 h;omega
 ·have:=(corner0 p hp2).1 h;omega
 ·have:=(corner0 p hp3).1 h;omega
theorem YF {a b c p:Pt} (hp:0 < det a b c) (h:edg a b c p):p≠a/\p≠b/\p≠c:=by
 obtain ⟨h1,h2,h3⟩:=h;refine ⟨?_,?_,?_⟩ <;> rintro rfl
 ·have:=(corner0 p hp).1 rfl;omega
 ·have:=(corner0 p (a:=p) (b:=c) (c:=a) (by rw [zX];exact hp)).1 rfl;omega
 ·omega
theorem near_ins {T:Tri3} {p:Pt} (h:insT T p) (v:Pt):near 1 T p v:=by
 unfold near near3;simp only [jt];exact ⟨.inl h.1,.inl h.2.1,.inl h.2.2⟩
theorem near_has {T:Tri3} {p:Pt} (hp:0 < det T.A T.B T.C) (h:hasT T p):near 1 T p ⟨T.A.x+T.B.x+T.C.x - 3 * p.x,T.A.y+T.B.y+T.C.y - 3 * p.y⟩:=by
 unfold near near3;simp only [jt];have e1:crd T.A T.B ⟨T.A.x+T.B.x+T.C.x - 3 * p.x,T.A.y+T.B.y+T.C.y - 3 * p.y⟩=det T.A T.B T.C - 3 * det T.A T.B p:=by unfold crd det;grind
 have e2:crd T.B T.C ⟨T.A.x+T.B.x+T.C.x - 3 * p.x,T.A.y+T.B.y+T.C.y - 3 * p.y⟩=det T.A T.B T.C - 3 * det T.B T.C p:=by unfold crd det;grind
 have e3:crd T.C T.A ⟨T.A.x+T.B.x+T.C.x - 3 * p.x,T.A.y+T.B.y+T.C.y - 3 * p.y⟩=det T.A T.B T.C - 3 * det T.C T.A p:=by unfold crd det;grind
 rw [e1,e2,e3];obtain ⟨h1,h2,h3⟩:=h;omega
theorem kj {a b c p v:Pt} (h:edg a b c p) (hv:0 < crd a b v):near3 1 a b c p v:=by
 unfold near3;simp only [jt];exact ⟨.inr ⟨h.1,hv⟩,.inl h.2.1,.inl h.2.2⟩
section
variable {W H:Int} {L:List Tri3} (h:Tiles W H L)
include h
theorem Tiles.ins_one {S T:Tri3} (hS:S∈L) (hT:T∈L) {p:Pt} (h1:insT S p) (h2:hasT T p):S=T:=
 h.same hS hT (M:=1) (by omega) (near_ins h1 _) (near_has (h.pos T hT) h2)
end
theorem sq_nn (x:Int):0<=x * x:=by
 rcases VW 0 x with h | h
 ·exact JD h h
 ·exact QG h h
theorem ke {a b d e:Pt} (hab:a≠b) (h:¬ (crd a b ⟨e.x - d.x,e.y - d.y⟩=0/\(b.x - a.x) * (e.x - d.x)+(b.y - a.y) * (e.y - d.y)<=0)):∃ v,0 < crd a b v/\0 < crd d e v:=by
 rcases V5 (crd a b ⟨e.x - d.x,e.y - d.y⟩) 0 with k | k | k
 ·refine ⟨⟨(b.x - a.x) - (e.x - d.x),(b.y - a.y) - (e.y - d.y)⟩,?_,?_⟩
  ·have:crd a b ⟨(b.x - a.x) - (e.x - d.x),(b.y - a.y) - (e.y - d.y)⟩ = - crd a b ⟨e.x - d.x,e.y - d.y⟩:=by unfold crd;grind
   omega
  ·have:crd d e ⟨(b.x - a.x) - (e.x - d.x),(b.y - a.y) - (e.y - d.y)⟩ = - crd a b ⟨e.x - d.x,e.y - d.y⟩:=by unfold crd;grind
   omega
 ·refine ⟨⟨-(b.y - a.y),b.x - a.x⟩,?_,?_⟩
  ·have e1:crd a b ⟨-(b.y - a.y),b.x - a.x⟩=(b.x - a.x) * (b.x - a.x)+(b.y - a.y) * (b.y - a.y):=by unfold crd;grind
   rw [e1];have s1:=sq_nn (b.x - a.x);have s2:=sq_nn (b.y - a.y);rcases Jy s1 with s | s
   ·omega
   rcases Jy s2 with t | t
   ·omega
   exfalso
   apply hab;rw [Pt.eq_iff];have:=JF.1 s.symm;have:=JF.1 t.symm;omega
  ·have:crd d e ⟨-(b.y - a.y),b.x - a.x⟩=(b.x - a.x) * (e.x - d.x)+(b.y - a.y) * (e.y - d.y):=by unfold crd;grind
   rw [this];omega
 ·refine ⟨⟨(e.x - d.x) - (b.x - a.x),(e.y - d.y) - (b.y - a.y)⟩,?_,?_⟩
  ·have:crd a b ⟨(e.x - d.x) - (b.x - a.x),(e.y - d.y) - (b.y - a.y)⟩=crd a b ⟨e.x - d.x,e.y - d.y⟩:=by unfold crd;grind
   omega
  ·have:crd d e ⟨(e.x - d.x) - (b.x - a.x),(e.y - d.y) - (b.y - a.y)⟩=crd a b ⟨e.x - d.x,e.y - d.y⟩:=by unfold crd;grind
   omega
theorem j9 {a b c:Pt} (h:0 < det a b c):a≠b:=by
 rintro rfl;have:det a a c=0:=by unfold det;grind
 omega
theorem qi {a b c p x:Pt} (hc:0 < det a b c) (hx:0 < det b a x) (h:edg a b c p):edg b a x p:=by
 obtain ⟨h1,h2,h3⟩:=h;have e1:det a b c * det a x p=det c a p * det b a x+det a b p * det a x c:=by unfold det;grind
 have e2:det a b c * det x b p=det b c p * det b a x - det a b p * det b x c:=by unfold det;grind
 rw [h1,Jn] at e1 e2;refine ⟨by rw [zW];omega,?_,?_⟩
 ·exact (zY hc).1 (by rw [e1];have:=JP h3 hx;omega)
 ·exact (zY hc).1 (by rw [e2];have:=JP h2 hx;omega)
theorem crd_zero_edge {a b d e p:Pt} (hde:d≠e) (h2:det d e p=0) (hk:crd a b ⟨e.x - d.x,e.y - d.y⟩=0) (h1:det a b p=0):det a b d=0/\det a b e=0:=by
 have e1:det a b e=det a b d+crd a b ⟨e.x - d.x,e.y - d.y⟩:=by unfold det crd;grind
 have e2:det a b d * (e.x - d.x) - crd a b ⟨e.x - d.x,e.y - d.y⟩ * (d.x - p.x)+(b.x - a.x) * det d e p=det a b p * (e.x - d.x):=by unfold det crd;grind
 have e3:det a b d * (e.y - d.y) - crd a b ⟨e.x - d.x,e.y - d.y⟩ * (d.y - p.y)+(b.y - a.y) * det d e p=det a b p * (e.y - d.y):=by unfold det crd;grind
 rw [h1,h2,hk] at e2 e3;simp only [Jn,Jh,VA,Qp] at e2 e3;have z:det a b d=0:=by
  rcases JF.1 e2 with k | k
  ·exact k
  ·rcases JF.1 e3 with k' | k'
   ·exact k'
   ·exact absurd (Pt.eq_iff.2 ⟨by omega,by omega⟩) hde
 exact ⟨z,by omega⟩
theorem KI {W H:Int} {a b c d e f p:Pt} (hr:onRim W H a b) (hab:0 < det a b c) (hc:inBox W H c) (hf:inBox W H f) (hde:0 < det d e f) (h1:det a b p=0) (h2:det d e p=0) (hk:crd a b ⟨e.x - d.x,e.y - d.y⟩=0) (hd:(b.x - a.x) * (e.x - d.x)+(b.y - a.y) * (e.y - d.y)<=0):False:=by
 obtain ⟨z1,z2⟩:=crd_zero_edge (j9 hde) h2 hk h1;unfold inBox at hc hf;have nde:=j9 hde;unfold det at hab hde z1 z2;clear h1 h2 hk;rcases hr with ⟨r1,r2⟩ | ⟨r1,r2⟩ | ⟨r1,r2⟩ | ⟨r1,r2⟩
 all_goals (rw [r1,r2] at hab z1 z2 hd;simp only [VB,Jn,VV,Vn] at hab z1 z2 hd)
 ·have ya:b.y - a.y≠0:=λe=>by rw [e] at hab;simp at hab
  have xd:d.x=0:=by
   rcases JF.1 (UD.1 z1) with k | k <;> omega
  have xe:e.x=0:=by
   rcases JF.1 (UD.1 z2) with k | k <;> omega
  rw [xd,xe] at hde;simp only [VB,Jn,VV,Qp] at hde hab;have n1:b.y - a.y < 0:=by
   refine JQ λk=>?_;have:=JD (a:=b.y - a.y) (b:=c.x) (by omega) (by omega);omega
  have n2:e.y - d.y < 0:=by
   refine JQ λk=>?_;have:=JD (a:=e.y - d.y) (b:=f.x) (by omega) (by omega);omega
  have:=Qt n1 n2;omega
 ·have ya:b.y - a.y≠0:=λe=>by rw [e] at hab;simp at hab
  have xd:d.x=W:=by
   rcases JF.1 (UD.1 z1) with k | k <;> omega
  have xe:e.x=W:=by
   rcases JF.1 (UD.1 z2) with k | k <;> omega
  rw [xd,xe] at hde;simp only [VB,Jn,VV] at hde hab;have n1:0 < b.y - a.y:=by
   refine JQ λk=>?_;have:=QG (a:=b.y - a.y) (b:=c.x - W) (by omega) (by omega);omega
  have n2:0 < e.y - d.y:=by
   refine JQ λk=>?_;have:=QG (a:=e.y - d.y) (b:=f.x - W) (by omega) (by omega);omega
  have:=JP n1 n2;omega
 ·simp only [Qp,VA] at hab z1 z2 hd;have ya:b.x - a.x≠0:=λe=>by rw [e] at hab;simp at hab
  have xd:d.y=0:=by
   rcases JF.1 z1 with k | k <;> omega
  have xe:e.y=0:=by
   rcases JF.1 z2 with k | k <;> omega
  rw [xd,xe] at hde;simp only [VB,Jn,Qp] at hde;have n1:0 < b.x - a.x:=by
   refine JQ λk=>?_;have:=JD (a := -(b.x - a.x)) (b:=c.y) (by omega) (by omega);rw [Vk] at this;omega
  have n2:0 < e.x - d.x:=by
   refine JQ λk=>?_;have:=JD (a := -(e.x - d.x)) (b:=f.y) (by omega) (by omega);rw [Vk] at this;omega
  have:=JP n1 n2;omega
 ·simp only [Qp,VA] at hab z1 z2 hd;have ya:b.x - a.x≠0:=λe=>by rw [e] at hab;simp at hab
  have xd:d.y=H:=by
   rcases JF.1 z1 with k | k <;> omega
  have xe:e.y=H:=by
   rcases JF.1 z2 with k | k <;> omega
  rw [xd,xe] at hde;simp only [VB,Jn,Qp] at hde;have n1:b.x - a.x < 0:=by
   refine JQ λk=>?_;have:=JD (a:=b.x - a.x) (b:=H - c.y) (by omega) (by omega);have e:(b.x - a.x) * (H - c.y) = - ((b.x - a.x) * (c.y - H)):=by grind
   omega
  have n2:e.x - d.x < 0:=by
   refine JQ λk=>?_;have:=JD (a:=e.x - d.x) (b:=H - f.y) (by omega) (by omega);have e:(e.x - d.x) * (H - f.y) = - ((e.x - d.x) * (f.y - H)):=by grind
   omega
  have:=Qt n1 n2;omega
section
variable {W H:Int} {L:List Tri3} (h:Tiles W H L)
include h
omit h in
theorem y7 {T:Tri3} {a b:Pt} (hT:T∈L) (hw:(a,b)∈ways T):(a,b)∈L.flatMap ways:=JO.2 ⟨T,hT,hw⟩
theorem Tiles.cyc_pos {T:Tri3} {a b c:Pt} (hT:T∈L) (hc:Cyc T a b c):0 < det a b c:=by rw [hc.det];exact h.pos T hT
theorem Tiles.cyc_box {T:Tri3} {a b c:Pt} (hT:T∈L) (hc:Cyc T a b c):inBox W H a:=by
 have:=h.box T hT;rcases hc with ⟨rfl,_⟩ | ⟨rfl,_⟩ | ⟨rfl,_⟩
 ·exact this.1
 ·exact this.2.1
 ·exact this.2.2
theorem Tiles.edg_two {S T:Tri3} (hS:S∈L) (hT:T∈L) {a b c p:Pt} (hc:Cyc S a b c) (hp:edg a b c p) (hh:hasT T p) (hn:¬ isCnr T p):T=S\/((b,a)∈ways T/\¬ onRim W H a b):=by
 have pS:=h.cyc_pos hS hc;rcases uT (h.pos T hT) hh with k | k | ⟨d,e,f,hd,k⟩
 ·exact absurd k hn
 ·obtain ⟨q1,q2,q3⟩:=hp;have hv:hasT S p:=by
   unfold hasT;rcases hc with ⟨rfl,rfl,rfl⟩ | ⟨rfl,rfl,rfl⟩ | ⟨rfl,rfl,rfl⟩ <;> omega
  exact .inl (h.ins_one hT hS k hv)
 ·have pT:=h.cyc_pos hT hd;by_cases hg:crd a b ⟨e.x - d.x,e.y - d.y⟩=0/\(b.x - a.x) * (e.x - d.x)+(b.y - a.y) * (e.y - d.y)<=0
  ·rcases h.rim (a,b) (y7 hS hc.way) with hr | hr
   ·obtain ⟨U,hU,hw⟩:=JO.1 hr;obtain ⟨x,hx⟩:=yd hw;have pU:=h.cyc_pos hU hx;have hpU:=qi pS pU hp;have hg':¬ (crd b a ⟨e.x - d.x,e.y - d.y⟩=0/\(a.x - b.x) * (e.x - d.x)+(a.y - b.y) * (e.y - d.y)<=0):=by
     intro ⟨g1,g2⟩;have e1:(a.x - b.x) * (e.x - d.x)+(a.y - b.y) * (e.y - d.y) = - ((b.x - a.x) * (e.x - d.x)+(b.y - a.y) * (e.y - d.y)):=by grind
     have z0:(b.x - a.x) * (e.x - d.x)+(b.y - a.y) * (e.y - d.y)=0:=by omega
     have g0:=hg.1;have i1:((b.x - a.x) * (b.x - a.x)+(b.y - a.y) * (b.y - a.y)) * (e.x - d.x)=(b.x - a.x) * ((b.x - a.x) * (e.x - d.x)+(b.y - a.y) * (e.y - d.y)) - (b.y - a.y) * crd a b ⟨e.x - d.x,e.y - d.y⟩:=by unfold crd;grind
     have i2:((b.x - a.x) * (b.x - a.x)+(b.y - a.y) * (b.y - a.y)) * (e.y - d.y)=(b.y - a.y) * ((b.x - a.x) * (e.x - d.x)+(b.y - a.y) * (e.y - d.y))+(b.x - a.x) * crd a b ⟨e.x - d.x,e.y - d.y⟩:=by unfold crd;grind
     rw [z0,g0] at i1 i2;simp only [Jh,Qp,VA] at i1 i2;have s1:=sq_nn (b.x - a.x);have s2:=sq_nn (b.y - a.y);have hab:=j9 pS;have nz:¬ (b.x - a.x) * (b.x - a.x)+(b.y - a.y) * (b.y - a.y)=0:=by
      intro z;apply hab;rw [Pt.eq_iff];have u1:=JF.1 (show (b.x - a.x) * (b.x - a.x)=0 by omega);have u2:=JF.1 (show (b.y - a.y) * (b.y - a.y)=0 by omega);omega
     have u1:=(JF.1 i1).resolve_left nz;have u2:=(JF.1 i2).resolve_left nz;exact j9 pT (Pt.eq_iff.2 ⟨by omega,by omega⟩)
    obtain ⟨v,v1,v2⟩:=ke (j9 pS).symm hg';have hUT:=h.same hU hT (M:=1) (by omega) (hx.near (kj hpU v1)) (hd.near (kj k v2));by_cases hr':onRim W H a b
    ·exact (KI hr' pS (h.cyc_box hS hc.turn.turn) (h.cyc_box hT hd.turn.turn) pT hp.1 k.1 hg.1 hg.2).elim
    ·exact .inr ⟨hUT▸hw,hr'⟩
   ·exact (KI hr pS (h.cyc_box hS hc.turn.turn) (h.cyc_box hT hd.turn.turn) pT hp.1 k.1 hg.1 hg.2).elim
  ·obtain ⟨v,v1,v2⟩:=ke (j9 pS) hg;exact .inl (h.same hS hT (M:=1) (by omega) (hc.near (kj hp v1)) (hd.near (kj k v2))).symm
end
theorem x8 {L:List Tri3} (h:(L.flatMap ways).Nodup) {S T:Tri3} (hS:S∈L) (hT:T∈L) {w:Pt×Pt} (h1:w∈ways S) (h2:w∈ways T):S=T:=by
 refine JQ λhne=>?_;obtain ⟨M,hM⟩:=k7 hS hT hne;have h':=(zv hM).nodup_iff.1 h;rw [JE,JE,Jg] at h';exact h'.2.2 w h1 w (Jk _ h2) rfl
theorem ZG {p x y:Pt} (hp:0 < det p x y) {s t:Int} (hs:0 < s) (ht:0 < t):near3 1 p x y p ⟨s * (x.x - p.x)+t * (y.x - p.x),s * (x.y - p.y)+t * (y.y - p.y)⟩:=by
 unfold near3;simp only [jt];refine ⟨.inr ⟨by unfold det;grind,?_⟩,.inl (by rw [zX];exact hp),.inr ⟨by unfold det;grind,?_⟩⟩
 ·have e:crd p x ⟨s * (x.x - p.x)+t * (y.x - p.x),s * (x.y - p.y)+t * (y.y - p.y)⟩=t * det p x y:=by unfold crd det;grind
  rw [e];exact JP ht hp
 ·have e:crd y p ⟨s * (x.x - p.x)+t * (y.x - p.x),s * (x.y - p.y)+t * (y.y - p.y)⟩=s * det p x y:=by unfold crd det;grind
  rw [e];exact JP hs hp
theorem ui (a b p x y:Pt) (s t:Int):crd a b ⟨s * (x.x - p.x)+t * (y.x - p.x),s * (x.y - p.y)+t * (y.y - p.y)⟩=s * crd a b ⟨x.x - p.x,x.y - p.y⟩+t * crd a b ⟨y.x - p.x,y.y - p.y⟩:=by unfold crd;grind
theorem Z5 {W H:Int} {a b c p x:Pt} (hr:onRim W H a b) (hab:0 < det a b c) (hc:inBox W H c) (hx:inBox W H x) (h1:det a b p=0) (hl:crd a b ⟨x.x - p.x,x.y - p.y⟩<=0):crd a b ⟨x.x - p.x,x.y - p.y⟩=0:=by
 have e:det a b x=det a b p+crd a b ⟨x.x - p.x,x.y - p.y⟩:=by unfold det crd;grind
 have k:0<=det a b x:=by
  unfold inBox at hc hx;clear e h1 hl;unfold det at hab ⊢;rcases hr with ⟨r1,r2⟩ | ⟨r1,r2⟩ | ⟨r1,r2⟩ | ⟨r1,r2⟩
  all_goals (rw [r1,r2] at hab ⊢;simp only [VB,Jn,VV,Qp] at hab ⊢)
  ·have n1 : b.y - a.y < 0 := by
     refine JQ λk=>?_;have:=JD (a:=b.y - a.y) (b:=c.x) (by omega) (by omega);omega
   have:=JD (a := -(b.y - a.y)) (b:=x.x) (by omega) (by omega);rw [Vk] at this;exact this
  ·have n1 : 0 < b.y - a.y := by
     refine JQ λk=>?_;have:=QG (a:=b.y - a.y) (b:=c.x - W) (by omega) (by omega);omega
   have:=JD (a:=b.y - a.y) (b:=W - x.x) (by omega) (by omega);have e:(b.y - a.y) * (W - x.x) = - ((b.y - a.y) * (x.x - W)):=by grind
   omega
  ·have n1 : 0 < b.x - a.x := by
     refine JQ λk=>?_;have:=JD (a := -(b.x - a.x)) (b:=c.y) (by omega) (by omega);rw [Vk] at this;omega
   exact JD (by omega) (by omega)
  ·have n1 : b.x - a.x < 0 := by
     refine JQ λk=>?_;have:=JD (a:=b.x - a.x) (b:=H - c.y) (by omega) (by omega);have e:(b.x - a.x) * (H - c.y) = - ((b.x - a.x) * (c.y - H)):=by grind
     omega
   have:=QG (a:=b.x - a.x) (b:=x.y - H) (by omega) (by omega);exact this
 omega
theorem ZD {a b p x y:Pt} (hab:a≠b) (hp:0 < det p x y) (h1:crd a b ⟨x.x - p.x,x.y - p.y⟩=0) (h2:crd a b ⟨y.x - p.x,y.y - p.y⟩=0):False:=by
 have i1:(b.x - a.x) * det p x y=(x.x - p.x) * crd a b ⟨y.x - p.x,y.y - p.y⟩ - (y.x - p.x) * crd a b ⟨x.x - p.x,x.y - p.y⟩:=by unfold crd det;grind
 have i2:(b.y - a.y) * det p x y=(x.y - p.y) * crd a b ⟨y.x - p.x,y.y - p.y⟩ - (y.y - p.y) * crd a b ⟨x.x - p.x,x.y - p.y⟩:=by unfold crd det;grind
 rw [h1,h2] at i1 i2;simp only [Jh,Qp] at i1 i2;have u1:=JF.1 i1;have u2:=JF.1 i2;exact hab (Pt.eq_iff.2 ⟨by omega,by omega⟩)
section
variable {W H:Int} {L:List Tri3} (h:Tiles W H L)
include h
theorem Tiles.cnr_all {S T:Tri3} (hS:S∈L) (hT:T∈L) {p:Pt} (hp:isCnr S p) (hh:hasT T p):isCnr T p:=by
 obtain ⟨x,y,hc⟩:=qo hp;have pS:=h.cyc_pos hS hc;rcases uT (h.pos T hT) hh with k | k | ⟨a,b,c,hd,k⟩
 ·exact k
 ·have e:=h.ins_one hT hS k (YL (h.pos S hS) hp).1;rw [e] at k;exact absurd k (YL (h.pos S hS) hp).2
 ·exfalso
  have pT:=h.cyc_pos hT hd;have nT:¬ isCnr T p:=λg=>by
   obtain ⟨n1,n2,n3⟩:=YF pT k;rcases (hd.cnr_iff p).1 g with g | g | g
   ·exact n1 g
   ·exact n2 g
   ·exact n3 g
  have go:∀ s t:Int,0 < s->0 < t->0 < s * crd a b ⟨x.x - p.x,x.y - p.y⟩+t * crd a b ⟨y.x - p.x,y.y - p.y⟩->False:=by
   intro s t hs ht hv;have e:=h.same hS hT (M:=1) (by omega) (hc.near (ZG pS hs ht)) (hd.near (kj k (by rw [ui];exact hv)));exact nT (e▸hp)
  generalize e1:crd a b ⟨x.x - p.x,x.y - p.y⟩=u at go
  generalize e2:crd a b ⟨y.x - p.x,y.y - p.y⟩=v at go
  by_cases hu:0 < u
  ·refine go (1+v.natAbs) 1 (by omega) (by omega) ?_;have:=JD (a:=(v.natAbs:Int)) (b:=u - 1) (by omega) (by omega);rw [VD] at this;rw [Vz];omega
  by_cases hv:0 < v
  ·refine go 1 (1+u.natAbs) (by omega) (by omega) ?_;have:=JD (a:=(u.natAbs:Int)) (b:=v - 1) (by omega) (by omega);rw [VD] at this;rw [Vz];omega
  rcases h.rim (a,b) (y7 hT hd.way) with hr | hr
  ·obtain ⟨U,hU,hw⟩:=JO.1 hr;obtain ⟨z,hz⟩:=yd hw;have pU:=h.cyc_pos hU hz;have kU:=qi pT pU k;have f1:crd b a ⟨x.x - p.x,x.y - p.y⟩ = -u:=by rw [<-e1];unfold crd;grind
   have f2:crd b a ⟨y.x - p.x,y.y - p.y⟩ = -v:=by rw [<-e2];unfold crd;grind
   have nz:¬ (u=0/\v=0):=λ⟨z1,z2⟩=>ZD (j9 pT) pS (e1.trans z1) (e2.trans z2);have e:=h.same hS hU (M:=1) (by omega) (hc.near (ZG pS (s:=1) (t:=1) (by omega) (by omega))) (hz.near (kj kU (by rw [ui,f1,f2];omega)));have nU:¬ isCnr U p:=λg=>by
    obtain ⟨n1,n2,n3⟩:=YF pU kU;rcases (hz.cnr_iff p).1 g with g | g | g
    ·exact n1 g
    ·exact n2 g
    ·exact n3 g
   exact nU (e▸hp)
  ·have hr:onRim W H a b:=hr;have z1:=Z5 hr pT (h.cyc_box hT hd.turn.turn) (h.cyc_box hS hc.turn) k.1 (by omega);have z2:=Z5 hr pT (h.cyc_box hT hd.turn.turn) (h.cyc_box hS hc.turn.turn) k.1 (by omega);exact ZD (j9 pT) pS z1 z2
end
def hasM (M:Int) (T:Tri3) (p:Pt):Prop:=0<=det (sc M T.A) (sc M T.B) p/\0<=det (sc M T.B) (sc M T.C) p/\0<=det (sc M T.C) (sc M T.A) p
theorem hasM_one (T:Tri3) (p:Pt):hasM 1 T p↔hasT T p:=by unfold hasM hasT;simp only [jt]
def bigs (M:Int) (v:Pt):List Tri3->Int
 | []=>0
 | T :: L=>big M T v+bigs M v L
theorem Xl (M:Int) (v:Pt):∀ {L:List Tri3} {T:Tri3},T∈L->big M T v<=bigs M v L
 | S :: L,T,h=>by
  have p:∀ l:List Tri3,0<=bigs M v l:=λl=>by
   induction l with
   | nil=>exact Vm 0
   | cons U l ih=>unfold bigs big;omega
  unfold bigs;rcases J1.1 h with rfl | h
  ·have:=p L;omega
  ·have:=Xl M v h;unfold big at *;omega
theorem jz {M K d c:Int} (hK:0 < K) (hb:(M * c).natAbs < K) (h:0<=K * (K * d+M * c)):0<=d:=by
 have h1:=(zd hK).1 h;refine JQ λhd=>?_;have:=JD (a:=K) (b := -1 - d) (by omega) (by omega);have e:K * (-1 - d) = -K - K * d:=by grind
 omega
theorem Tiles.covM {W H:Int} {L:List Tri3} (h:Tiles W H L) (hW:0 < W) (hH:0 < H) {M:Int} (hM:0 < M) {p:Pt} (hp:inBox (M * W) (M * H) p):∃ T∈L,hasM M T p:=by
 have mW:=JP hM hW;have mH:=JP hM hH
 let v:Pt:=⟨M * W - 2 * p.x,M * H - 2 * p.y⟩
 let K:Int:=2+bigs M v L
 have p0:∀ l:List Tri3,0<=bigs M v l:=λl=>by
  induction l with
  | nil=>exact Vm 0
  | cons U l ih=>unfold bigs big;omega
 have hK2:2<=K:=by have:=p0 L;omega
 have hc:=h.cov (K * M) (JP (by omega) hM) ⟨K * p.x+v.x,K * p.y+v.y⟩;have hs:sqr (K * M * W) (K * M * H) ⟨K * p.x+v.x,K * p.y+v.y⟩=1:=by
  unfold sqr;obtain ⟨⟨h1,h2⟩,h3,h4⟩:=hp;have i1:K * p.x+v.x=(K - 2) * p.x+M * W:=by show K * p.x+(M * W - 2 * p.x)=_;rw [Vl];omega
  have i2:K * p.y+v.y=(K - 2) * p.y+M * H:=by show K * p.y+(M * H - 2 * p.y)=_;rw [Vl];omega
  have j1:=JD (a:=K - 2) (b:=p.x) (by omega) h1;have j2:=JD (a:=K - 2) (b:=p.y) (by omega) h3;have j3:=QI (c:=K - 2) h2 (by omega);have j4:=QI (c:=K - 2) h4 (by omega);have l1:K * M * W=(K - 2) * (M * W)+2 * (M * W):=by grind
  have l2:K * M * H=(K - 2) * (M * H)+2 * (M * H):=by grind
  rw [JH];show (0<=K * p.x+v.x/\K * p.x+v.x < K * M * W)/\0<=K * p.y+v.y/\K * p.y+v.y < K * M * H;rw [i1,i2,l1,l2];omega
 rw [hs] at hc;obtain ⟨T,hT,h1⟩:=XY (K:=K * M) (JP (by omega) hM) h.pos _ (by rw [hc];omega);rw [XJ] at h1;have h2:=(XI (Ko (JP (show 0 < K by omega) hM) (h.pos T hT)) _).2.1 h1;rw [xU,xU,xU] at h2;have hb:=Xl M v hT;refine ⟨T,hT,?_,?_,?_⟩
 ·exact jz (K:=K) (by omega) (by unfold big at hb;omega) h2.1
 ·exact jz (K:=K) (by omega) (by unfold big at hb;omega) h2.2.1
 ·exact jz (K:=K) (by omega) (by unfold big at hb;omega) h2.2.2
theorem Tiles.covers {W H:Int} {L:List Tri3} (h:Tiles W H L) (hW:0 < W) (hH:0 < H) {p:Pt} (hp:inBox W H p):∃ T∈L,hasT T p:=by
 obtain ⟨T,hT,k⟩:=h.covM hW hH (M:=1) (by omega) (p:=p) (by simpa using hp);exact ⟨T,hT,(hasM_one T p).1 k⟩
theorem tH {W H:Int} {a b:Pt} (h:onRim W H a b):onRim W H b a:=by unfold onRim at *;omega
theorem Tiles.change {W H:Int} {L Out In M:List Tri3} (h:Tiles W H L) (hL:L.Perm (Out ++ M)) {rem add keep:List (Pt×Pt)} (ho:(Out.flatMap ways).Perm (rem ++ keep)) (hi:(In.flatMap ways).Perm (add ++ keep)) (hn:add.Nodup) (hf:∀ w∈add,w ∉ L.flatMap ways) (ha:∀ w∈add,(w.2,w.1)∈add\/onRim W H w.1 w.2) (hr:∀ w∈rem,(w.2,w.1)∈rem\/onRim W H w.1 w.2) (hc:∀ K,0 < K->∀ q,cvr K add q=cvr K rem q) (hA:sumA In=sumA Out) (hp:∀ T∈In,0 < det T.A T.B T.C) (hb:∀ T∈In,inBox W H T.A/\inBox W H T.B/\inBox W H T.C):Tiles W H (In ++ M):=by
 have h0:=h.perm hL;have o1:((Out ++ M).flatMap ways).Perm (rem ++ (keep ++ M.flatMap ways)):=by
  rw [Je,<-JL];exact ho.append_right _
 have i1:((In ++ M).flatMap ways).Perm (add ++ (keep ++ M.flatMap ways)):=by
  rw [Je,<-JL];exact hi.append_right _
 have n1:=o1.nodup_iff.1 h0.once;rw [Jg] at n1;have mem0:∀ w,w∈L.flatMap ways↔w∈rem ++ (keep ++ M.flatMap ways):=λw=>by rw [(zv hL).mem_iff,o1.mem_iff]
 refine ⟨?_,?_,?_,?_,?_,?_⟩
 ·intro T hT;rcases JM.1 hT with hT | hT
  ·exact hp T hT
  ·exact h0.pos T (Jr _ hT)
 ·rw [i1.nodup_iff,Jg];refine ⟨hn,n1.2.1,λa h1 b h2 e=>?_⟩;subst e;exact hf a h1 ((mem0 a).2 (Jr _ h2))
 ·intro T hT;rcases JM.1 hT with hT | hT
  ·exact hb T hT
  ·exact h0.box T (Jr _ hT)
 ·intro w hw;rw [i1.mem_iff] at hw ⊢;rcases JM.1 hw with hw | hw
  ·rcases ha w hw with k | k
   ·exact .inl (Jk _ k)
   ·exact .inr k
  ·rcases h.rim w ((mem0 w).2 (Jr _ hw)) with k | k
   ·rcases JM.1 ((mem0 _).1 k) with k | k
    ·rcases hr _ k with g | g
     ·exact absurd rfl (n1.2.2 w g w hw)
     ·exact .inr (tH g)
    ·exact .inl (Jr _ k)
   ·exact .inr k
 ·intro K hK q;have e0:=h0.cov K hK q;rw [ug o1,xk] at e0;rw [ug i1,xk,hc K hK q];exact e0
 ·have e0:=h0.area;rw [sumA_append] at e0 ⊢;rw [hA];exact e0
theorem Cyc.area {T:Tri3} {a b c:Pt} (h:Cyc T a b c) (L:List Tri3):sumA (T :: L)=Go.Proofs.YthhcehmmglmlfaaGreat.det a b c+sumA L:=by rw [h.det];rfl
theorem Cyc.box {W H:Int} {T:Tri3} {a b c:Pt} (h:Cyc T a b c) (ha:inBox W H a) (hb:inBox W H b) (hc:inBox W H c):inBox W H T.A/\inBox W H T.B/\inBox W H T.C:=by
 rcases h with ⟨rfl,rfl,rfl⟩ | ⟨rfl,rfl,rfl⟩ | ⟨rfl,rfl,rfl⟩
 ·exact ⟨ha,hb,hc⟩
 ·exact ⟨hc,ha,hb⟩
 ·exact ⟨hb,hc,ha⟩
theorem Tiles.no_diag {W H:Int} {L:List Tri3} (h:Tiles W H L) {S:Tri3} (hS:S∈L) {a b c d:Pt} (hc:Cyc S a b c) (h1:0 < det c a d) (h2:0 < det d b c):(d,c) ∉ L.flatMap ways:=by
 intro hm;obtain ⟨T,hT,hw⟩:=JO.1 hm;obtain ⟨e,he⟩:=yd hw;have pS:=h.cyc_pos hS hc;have pT:=h.cyc_pos hT he.turn;have n1:d≠c:=by
  rintro rfl;have:det d a d=0:=by unfold det;grind
  omega
 have n2:d≠a:=by
  rintro rfl;have:det c d d=0:=by unfold det;grind
  omega
 have n3:d≠b:=by
  rintro rfl;have:det d d c=0:=by unfold det;grind
  omega
 generalize e1:crd c a ⟨e.x - c.x,e.y - c.y⟩=u
 generalize e2:crd b c ⟨e.x - c.x,e.y - c.y⟩=v
 have f1:crd c a ⟨d.x - c.x,d.y - c.y⟩=det c a d:=by unfold crd det;grind
 have f2:crd b c ⟨d.x - c.x,d.y - c.y⟩=det d b c:=by unfold crd det;grind
 let t:Int:=1+u.natAbs+v.natAbs
 have g1:t<=t * det c a d:=by
  have:=JD (a:=t) (b:=det c a d - 1) (by omega) (by omega);rw [VD] at this;omega
 have g2:t<=t * det d b c:=by
  have:=JD (a:=t) (b:=det d b c - 1) (by omega) (by omega);rw [VD] at this;omega
 have nT:=he.turn.near (ZG pT (s:=1) (t:=t) (by omega) (by omega));have nS:near 1 S c ⟨1 * (e.x - c.x)+t * (d.x - c.x),1 * (e.y - c.y)+t * (d.y - c.y)⟩:=by
  refine hc.turn.turn.near ?_;unfold near3;simp only [jt];refine ⟨.inr ⟨by unfold det;grind,?_⟩,.inl pS,.inr ⟨by unfold det;grind,?_⟩⟩
  ·rw [ui,e1,f1];omega
  ·rw [ui,e2,f2];omega
 have hST:=h.same hS hT (M:=1) (by omega) nS nT;have:=he.cnr;rw [<-hST,hc.cnr_iff] at this;rcases this with k | k | k
 ·exact n2 k
 ·exact n3 k
 ·exact n1 k
theorem uZ {α:Type} {a b c d e f:α}:[a,b,c,d,e,f].Perm ([a,d] ++ [b,c,e,f]):=by
 refine List.Perm.cons _ ?_;exact (Jq (l₁:=[b,c]) (l₂:=[d])).append_right [e,f]
theorem Tiles.flip {W H:Int} {L M:List Tri3} (h:Tiles W H L) {S R U V:Tri3} (hL:L.Perm (S :: R :: M)) {a b c d:Pt} (hS:Cyc S a b c) (hR:Cyc R b a d) (h1:0 < det c a d) (h2:0 < det d b c) (hU:Cyc U c a d) (hV:Cyc V d b c):Tiles W H (U :: V :: M):=by
 have mS:S∈L:=hL.mem_iff.2 (by simp);have mR:R∈L:=hL.mem_iff.2 (by simp);have x1:=h.no_diag mS hS h1 h2;have x2:=h.no_diag mR hR h2 h1;have n1:d≠c:=by
  rintro rfl;have:det d a d=0:=by unfold det;grind
  omega
 refine h.change (Out:=[S,R]) (In:=[U,V]) (M:=M) hL (rem:=[(a,b),(b,a)]) (add:=[(d,c),(c,d)]) (keep:=[(b,c),(c,a),(a,d),(d,b)]) ?_ ?_ ?_ ?_ ?_ ?_ ?_ ?_ ?_ ?_
 ·simp only [JE,QQ,Ji];exact (hS.ways.append hR.ways).trans uZ
 ·simp only [JE,QQ,Ji];refine (hU.turn.turn.ways.append hV.turn.turn.ways).trans ?_;refine uZ.trans ?_;refine List.Perm.append_left _ ?_;exact Jq (l₁:=[(c,a),(a,d)]) (l₂:=[(d,b),(b,c)]) |>.trans
   ((List.Perm.swap (b,c) (d,b) [(c,a),(a,d)]).trans (List.Perm.cons _ (Jq (l₁:=[(d,b)]) (l₂:=[(c,a),(a,d)]))))
 ·simp [n1]
 ·intro w hw;simp only [J1,JI,Jp] at hw;rcases hw with rfl | rfl
  ·exact x1
  ·exact x2
 ·intro w hw;simp only [J1,JI,Jp] at hw;rcases hw with rfl | rfl <;> simp
 ·intro w hw;simp only [J1,JI,Jp] at hw;rcases hw with rfl | rfl <;> simp
 ·intro K hK q;simp only [cvr];have e1:=x9 (sc K c) (sc K d) q;have e2:=x9 (sc K a) (sc K b) q;omega
 ·rw [hU.area,hV.area,hS.area,hR.area];simp only [sumA];unfold det;grind
 ·intro T hT;simp only [J1,JI,Jp] at hT;rcases hT with rfl | rfl
  ·rw [<-hU.det];exact h1
  ·rw [<-hV.det];exact h2
 ·have ba:=h.cyc_box mS hS;have bb:=h.cyc_box mS hS.turn;have bc:=h.cyc_box mS hS.turn.turn;have bd:=h.cyc_box mR hR.turn.turn;intro T hT;simp only [J1,JI,Jp] at hT;rcases hT with rfl | rfl
  ·exact hU.box bc ba bd
  ·exact hV.box bd bb bc
theorem way_cnr {T:Tri3} {w:Pt×Pt} (h:w∈ways T):isCnr T w.1/\isCnr T w.2:=by
 obtain ⟨a,b⟩:=w;obtain ⟨c,hc⟩:=yd h;exact ⟨hc.cnr,hc.turn.cnr⟩
theorem uX {L:List Tri3} {p:Pt} (hn:∀ T∈L,¬ isCnr T p) {w:Pt×Pt} (hw:w.1=p\/w.2=p):w ∉ L.flatMap ways:=by
 intro hm;obtain ⟨T,hT,hk⟩:=JO.1 hm;have:=way_cnr hk;rcases hw with e | e <;> rw [e] at this
 ·exact hn T hT this.1
 ·exact hn T hT this.2
theorem zQ {a b c:Pt} (h:0 < det a b c):a≠b/\b≠c/\c≠a:=
 ⟨j9 h,j9 (c:=a) (by rw [zX];exact h),j9 (c:=b) (by rw [zX,zX];exact h)⟩
theorem ins_cyc {T:Tri3} {a b c p:Pt} (hc:Cyc T a b c) (h:insT T p):0 < det a b p/\0 < det b c p/\0 < det c a p:=by
 unfold insT at h;rcases hc with ⟨rfl,rfl,rfl⟩ | ⟨rfl,rfl,rfl⟩ | ⟨rfl,rfl,rfl⟩
 ·exact h
 ·exact ⟨h.2.1,h.2.2,h.1⟩
 ·exact ⟨h.2.2,h.1,h.2.1⟩
section
variable {W H:Int} {L M:List Tri3} (h:Tiles W H L) {p:Pt} (hn:∀ T∈L,¬ isCnr T p) (hb:inBox W H p)
include h hn hb
theorem Tiles.cut3 {T P Q R:Tri3} (hL:L.Perm (T :: M)) {a b c:Pt} (hT:Cyc T a b c) (hi:insT T p) (hP:Cyc P a b p) (hQ:Cyc Q b c p) (hR:Cyc R c a p):Tiles W H (P :: Q :: R :: M):=by
 have mT:T∈L:=hL.mem_iff.2 (by simp);have pT:=h.cyc_pos mT hT;obtain ⟨i1,i2,i3⟩:=ins_cyc hT hi;obtain ⟨n1,n2,n3⟩:=zQ pT;have np:=hn T mT;rw [hT.cnr_iff] at np;simp only [UG] at np;obtain ⟨q1,q2,q3⟩:=np;refine h.change (Out:=[T]) (In:=[P,Q,R]) (M:=M) hL (rem:=[]) (add:=[(b,p),(p,b),(c,p),(p,c),(a,p),(p,a)]) (keep:=[(a,b),(b,c),(c,a)]) ?_ ?_ ?_ ?_ ?_ ?_ ?_ ?_ ?_ ?_
 ·simp only [JE,QQ,Ji,Jz];exact hT.ways
 ·simp only [JE,QQ,Ji];refine (hP.ways.append (hQ.ways.append hR.ways)).trans ?_;refine (UE.2 λw=>?_);simp only [Jw,Jz,List.count_cons,List.count_nil];omega
 ·simp [q1,q2,q3,n2,n3,Ne.symm q1,Ne.symm q2,Ne.symm q3,Ne.symm n1]
 ·intro w hw;simp only [J1,JI,Jp] at hw;refine uX hn ?_;rcases hw with rfl | rfl | rfl | rfl | rfl | rfl <;> simp
 ·intro w hw;simp only [J1,JI,Jp] at hw;rcases hw with rfl | rfl | rfl | rfl | rfl | rfl <;> simp
 ·intro w hw;simp at hw
 ·intro K hK q;simp only [cvr];have e1:=x9 (sc K a) (sc K p) q;have e2:=x9 (sc K b) (sc K p) q;have e3:=x9 (sc K c) (sc K p) q;omega
 ·rw [hP.area,hQ.area,hR.area,hT.area];simp only [sumA];have:=qn a b c p;omega
 ·intro X hX;simp only [J1,JI,Jp] at hX;rcases hX with rfl | rfl | rfl
  ·rw [<-hP.det];exact i1
  ·rw [<-hQ.det];exact i2
  ·rw [<-hR.det];exact i3
 ·have ba:=h.cyc_box mT hT;have bb:=h.cyc_box mT hT.turn;have bc:=h.cyc_box mT hT.turn.turn;intro X hX;simp only [J1,JI,Jp] at hX;rcases hX with rfl | rfl | rfl
  ·exact hP.box ba bb hb
  ·exact hQ.box bb bc hb
  ·exact hR.box bc ba hb
omit h hn hb in
theorem vW {a b c p:Pt} (hp:0 < det a b c) (he:edg a b c p):((a.y<=p.y/\p.y<=b.y)\/(b.y<=p.y/\p.y<=a.y))/\((a.x<=p.x/\p.x<=b.x)\/(b.x<=p.x/\p.x<=a.x)):=by
 obtain ⟨h1,h2,h3⟩:=he;have s:=qn a b c p;have e1:det a b c * (p.y - a.y)=det c a p * (b.y - a.y)+det a b p * (c.y - a.y):=by unfold det;grind
 have e2:det a b c * (b.y - p.y)=det b c p * (b.y - a.y) - det a b p * (c.y - b.y):=by unfold det;grind
 have e3:det a b c * (p.x - a.x)=det c a p * (b.x - a.x)+det a b p * (c.x - a.x):=by unfold det;grind
 have e4:det a b c * (b.x - p.x)=det b c p * (b.x - a.x) - det a b p * (c.x - b.x):=by unfold det;grind
 rw [h1,Jn] at e1 e2 e3 e4;have key:∀ u v x:Int,det a b c * u=det c a p * x+0->det a b c * v=det b c p * x - 0->(0<=u/\0<=v)\/(u<=0/\v<=0):=by
  intro u v x k1 k2;rcases VW 0 x with hx | hx
  ·have:=JD (a:=det c a p) (b:=x) (by omega) hx;have:=JD (a:=det b c p) (b:=x) (by omega) hx;exact .inl ⟨(zd hp).1 (by omega),(zd hp).1 (by omega)⟩
  ·have:=QV (a:=det c a p) (b:=x) (by omega) hx;have:=QV (a:=det b c p) (b:=x) (by omega) hx;have a1:=(zd (b := -u) hp).1 (by rw [Ql];omega);have a2:=(zd (b := -v) hp).1 (by rw [Ql];omega);exact .inr ⟨by omega,by omega⟩
 have k1:=key _ _ _ e1 e2;have k2:=key _ _ _ e3 e4;omega
omit h hn hb in
theorem sc_add {a b p:Pt} (h:det a b p=0) (hb:(a.y<=p.y/\p.y<=b.y)\/(b.y<=p.y/\p.y<=a.y)) {K:Int} (hK:0 < K) (q:Pt):crs (sc K a) (sc K b) q=crs (sc K a) (sc K p) q+crs (sc K p) (sc K b) q:=by
 refine crs_add (by rw [Xy,h];simp) ?_ q;have m:∀ x y:Int,x<=y->K * x<=K * y:=λx y h=>QI h (by omega);rcases hb with ⟨h1,h2⟩ | ⟨h1,h2⟩
 ·exact .inl ⟨m _ _ h1,m _ _ h2⟩
 ·exact .inr ⟨m _ _ h1,m _ _ h2⟩
theorem Tiles.cut2r {T Q R:Tri3} (hL:L.Perm (T :: M)) {a b c:Pt} (hT:Cyc T a b c) (hi:edg a b c p) (hr:onRim W H a b) (hQ:Cyc Q b c p) (hR:Cyc R c a p):Tiles W H (Q :: R :: M):=by
 have mT:T∈L:=hL.mem_iff.2 (by simp);have pT:=h.cyc_pos mT hT;have bw:=vW pT hi;obtain ⟨i1,i2,i3⟩:=hi;obtain ⟨n1,n2,n3⟩:=zQ pT;have np:=hn T mT;rw [hT.cnr_iff] at np;simp only [UG] at np;obtain ⟨q1,q2,q3⟩:=np;refine h.change (Out:=[T]) (In:=[Q,R]) (M:=M) hL (rem:=[(a,b)]) (add:=[(c,p),(p,c),(p,b),(a,p)]) (keep:=[(b,c),(c,a)]) ?_ ?_ ?_ ?_ ?_ ?_ ?_ ?_ ?_ ?_
 ·simp only [JE,QQ,Ji];exact hT.ways
 ·simp only [JE,QQ,Ji];refine (hQ.ways.append hR.ways).trans ?_;refine (UE.2 λw=>?_);simp only [Jw,Jz,List.count_cons,List.count_nil];omega
 ·simp [q1,q2,q3,n3,Ne.symm q2,Ne.symm q3,Ne.symm n2]
 ·intro w hw;simp only [J1,JI,Jp] at hw;refine uX hn ?_;rcases hw with rfl | rfl | rfl | rfl <;> simp
 ·intro w hw;simp only [J1,JI,Jp] at hw;rcases hw with rfl | rfl | rfl | rfl
  ·simp
  ·simp
  ·right;unfold onRim at *;unfold inBox at hb;simp only;omega
  ·right;unfold onRim at *;unfold inBox at hb;simp only;omega
 ·intro w hw;simp only [J1,JI,Jp] at hw;rw [hw];exact .inr hr
 ·intro K hK q;simp only [cvr];have e1:=x9 (sc K c) (sc K p) q;have e2:=sc_add i1 bw.1 hK q;omega
 ·rw [hQ.area,hR.area,hT.area];simp only [sumA];have:=qn a b c p;omega
 ·intro X hX;simp only [J1,JI,Jp] at hX;rcases hX with rfl | rfl
  ·rw [<-hQ.det];exact i2
  ·rw [<-hR.det];exact i3
 ·have ba:=h.cyc_box mT hT;have bb:=h.cyc_box mT hT.turn;have bc:=h.cyc_box mT hT.turn.turn;intro X hX;simp only [J1,JI,Jp] at hX;rcases hX with rfl | rfl
  ·exact hQ.box bb bc hb
  ·exact hR.box bc ba hb
theorem Tiles.cut4 {T S Q R X Y:Tri3} (hL:L.Perm (T :: S :: M)) {a b c d:Pt} (hT:Cyc T a b c) (hS:Cyc S b a d) (hi:edg a b c p) (hQ:Cyc Q b c p) (hR:Cyc R c a p) (hX:Cyc X a d p) (hY:Cyc Y d b p):Tiles W H (Q :: R :: X :: Y :: M):=by
 have mT:T∈L:=hL.mem_iff.2 (by simp);have mS:S∈L:=hL.mem_iff.2 (by simp);have pT:=h.cyc_pos mT hT;have pS:=h.cyc_pos mS hS;have ho:=qi pT pS hi;have bw:=vW pT hi;obtain ⟨i1,i2,i3⟩:=hi;obtain ⟨o1,o2,o3⟩:=ho;obtain ⟨n1,n2,n3⟩:=zQ pT;obtain ⟨m1,m2,m3⟩:=zQ pS;have np:=hn T mT;have np':=hn S mS;rw [hT.cnr_iff] at np;rw [hS.cnr_iff] at np';simp only [UG] at np np';obtain ⟨q1,q2,q3⟩:=np;obtain ⟨_,_,q4⟩:=np';have cd:c≠d:=by
  rintro rfl;rw [zW] at pS;omega
 refine h.change (Out:=[T,S]) (In:=[Q,R,X,Y]) (M:=M) hL (rem:=[(a,b),(b,a)]) (add:=[(c,p),(p,c),(d,p),(p,d),(p,b),(b,p),(a,p),(p,a)]) (keep:=[(b,c),(c,a),(a,d),(d,b)]) ?_ ?_ ?_ ?_ ?_ ?_ ?_ ?_ ?_ ?_
 ·simp only [JE,QQ,Ji];exact (hT.ways.append hS.ways).trans uZ
 ·simp only [JE,QQ,Ji];refine (hQ.ways.append (hR.ways.append (hX.ways.append hY.ways))).trans ?_;refine (UE.2 λw=>?_);simp only [Jw,Jz,List.count_cons,List.count_nil];omega
 ·simp [q1,q2,q3,q4,n3,m1,m3,cd,Ne.symm q1,Ne.symm q2,Ne.symm q3,Ne.symm q4,Ne.symm n2,Ne.symm m2]
 ·intro w hw;simp only [J1,JI,Jp] at hw;refine uX hn ?_;rcases hw with rfl | rfl | rfl | rfl | rfl | rfl | rfl | rfl <;> simp
 ·intro w hw;simp only [J1,JI,Jp] at hw;rcases hw with rfl | rfl | rfl | rfl | rfl | rfl | rfl | rfl <;> simp
 ·intro w hw;simp only [J1,JI,Jp] at hw;rcases hw with rfl | rfl <;> simp
 ·intro K hK q;simp only [cvr];have e1:=x9 (sc K c) (sc K p) q;have e2:=x9 (sc K d) (sc K p) q;have e3:=x9 (sc K b) (sc K p) q;have e4:=x9 (sc K a) (sc K p) q;have e5:=x9 (sc K a) (sc K b) q;omega
 ·rw [hQ.area,hR.area,hX.area,hY.area,hT.area,hS.area];simp only [sumA];have:=qn a b c p;have:=qn b a d p;omega
 ·intro Z hZ;simp only [J1,JI,Jp] at hZ;rcases hZ with rfl | rfl | rfl | rfl
  ·rw [<-hQ.det];exact i2
  ·rw [<-hR.det];exact i3
  ·rw [<-hX.det];exact o2
  ·rw [<-hY.det];exact o3
 ·have ba:=h.cyc_box mT hT;have bb:=h.cyc_box mT hT.turn;have bc:=h.cyc_box mT hT.turn.turn;have bd:=h.cyc_box mS hS.turn.turn;intro Z hZ;simp only [J1,JI,Jp] at hZ;rcases hZ with rfl | rfl | rfl | rfl
  ·exact hQ.box bb bc hb
  ·exact hR.box bc ba hb
  ·exact hX.box ba bd hb
  ·exact hY.box bd bb hb
end
theorem tiles_square {W H:Int} (hW:0 < W) (hH:0 < H) {X Y:Tri3} (hX:Cyc X ⟨0,0⟩ ⟨W,0⟩ ⟨W,H⟩) (hY:Cyc Y ⟨0,0⟩ ⟨W,H⟩ ⟨0,H⟩):Tiles W H [X,Y]:=by
 have wp:([X,Y].flatMap ways).Perm [(⟨0,0⟩,⟨W,0⟩),(⟨W,0⟩,⟨W,H⟩),(⟨W,H⟩,⟨0,0⟩),(⟨0,0⟩,⟨W,H⟩),(⟨W,H⟩,⟨0,H⟩),(⟨0,H⟩,⟨0,0⟩)]:=by
  simp only [JE,QQ,Ji];exact hX.ways.append hY.ways
 have pWH:=JP hW hH;have dX:det ⟨0,0⟩ ⟨W,0⟩ ⟨W,H⟩=W * H:=by unfold det;grind
 have dY:det ⟨0,0⟩ ⟨W,H⟩ ⟨0,H⟩=W * H:=by unfold det;grind
 refine ⟨?_,?_,?_,?_,?_,?_⟩
 ·intro T hT;simp only [J1,JI,Jp] at hT;rcases hT with rfl | rfl
  ·rw [<-hX.det,dX];exact pWH
  ·rw [<-hY.det,dY];exact pWH
 ·rw [wp.nodup_iff];have w0:W≠0:=by omega
  have h0:H≠0:=by omega
  simp [w0,h0,Ne.symm w0,Ne.symm h0]
 ·have b1:inBox W H ⟨0,0⟩:=by unfold inBox;simp only;omega
  have b2:inBox W H ⟨W,0⟩:=by unfold inBox;simp only;omega
  have b3:inBox W H ⟨W,H⟩:=by unfold inBox;simp only;omega
  have b4:inBox W H ⟨0,H⟩:=by unfold inBox;simp only;omega
  intro T hT;simp only [J1,JI,Jp] at hT;rcases hT with rfl | rfl
  ·exact hX.box b1 b2 b3
  ·exact hY.box b1 b3 b4
 ·intro w hw;rw [wp.mem_iff] at hw ⊢;simp only [J1,JI,Jp] at hw;unfold onRim;rcases hw with rfl | rfl | rfl | rfl | rfl | rfl <;> simp
 ·intro K hK q;rw [ug wp];simp only [cvr];have e1:=x9 (sc K ⟨W,H⟩) (sc K ⟨0,0⟩) q;have kW:=JP hK hW;have kH:=JP hK hH;have z1:crs (sc K ⟨0,0⟩) (sc K ⟨W,0⟩) q=0:=by unfold crs sc;simp only;(repeat' split) <;> omega
  have z2:crs (sc K ⟨W,H⟩) (sc K ⟨0,H⟩) q=0:=by unfold crs sc;simp only;(repeat' split) <;> omega
  have d1:det (sc K ⟨W,0⟩) (sc K ⟨W,H⟩) q=(K * H) * (K * W - q.x):=by unfold det sc;grind
  have d2:det (sc K ⟨0,H⟩) (sc K ⟨0,0⟩) q=(K * H) * q.x:=by unfold det sc;grind
  have s1:=zY (b:=K * W - q.x) kH;have s2:=yP (b:=q.x) kH;have v1:crs (sc K ⟨W,0⟩) (sc K ⟨W,H⟩) q=if (0<=q.y/\q.y < K * H)/\q.x < K * W then 1 else 0:=by
   unfold crs;rw [d1];generalize K * H * (K * W - q.x)=D at *
   unfold sc;simp only [Jh]
   (repeat' split) <;> omega
  have v2:crs (sc K ⟨0,H⟩) (sc K ⟨0,0⟩) q=if (0<=q.y/\q.y < K * H)/\q.x < 0 then -1 else 0:=by
   unfold crs;rw [d2];generalize K * H * q.x=D at *
   unfold sc;simp only [Jh]
   (repeat' split) <;> omega
  rw [z1,z2,v1,v2];unfold sqr
  (repeat' split) <;> omega
 ·rw [hX.area,hY.area,dX,dY];simp only [sumA];omega
end
end Go.Proofs.YthhcehmmglmlfaaGreat
