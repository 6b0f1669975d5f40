/- Put together: ExS, WalU, WalV, WalW. -/
import Derived.Test.YtogffkimgmlilaaGreatPfb23
set_option maxRecDepth 100000
set_option maxHeartbeats 8000000
set_option linter.all false
namespace Go.Proofs.YtogffkimgmlilaaGreat
open _root_.Go.Proofs.Tryz
section
open Go.RowKit
theorem zLy {a b c d:Pt} (s:Seg2 a b c d):Seg2 b a c d:=⟨s.vb,s.va,s.vc,s.vd,s.nab.symm,s.ncd⟩
theorem zIl {a b c d:Pt} (s:Seg2 a b c d):Seg2 a b d c:=⟨s.va,s.vb,s.vd,s.vc,s.nab,s.ncd.symm⟩
theorem zGx {a b c d:Pt} (s:Seg2 a b c d):Seg2 c d a b:=⟨s.vc,s.vd,s.va,s.vb,s.ncd,s.nab⟩
theorem zKr {a b c d:Pt} (s:Seg2 a b c d) (h:det a b c=0∧det a b d=0):det c d a=0∧det c d b=0:=by
 have i1:=I1 a b c d;have i2:=I2 a b c d;have hE:=zK0 s.nab;rw [h.1,h.2] at i1 i2;simp only [jAy,jB1,jCi] at i1 i2;constructor
 ·rcases jA7.1 i1 with h | h
  ·omega
  ·exact h
 ·rcases jA7.1 i2 with h | h
  ·omega
  ·exact h
theorem zMg (a b c d:Pt):meetS b a c d=meetS a b c d:=by
 by_cases s:Seg2 a b c d
 case neg=>rw [zBg s,zBg (fun k=>s (zLy k))]
 case pos=>
 have d1:=zAd a b c;have d2:=zAd a b d;by_cases hl:det a b c=0∧det a b d=0
 ·rw [zBa s hl,zBa (zLy s) (by omega),zD4 s,zD4 (zLy s)]
  (repeat' split) <;> omega
 ·by_cases e:a=c∨a=d∨b=c∨b=d
  ·rw [zC4 s hl e,zC4 (zLy s) (by omega) (by rcases e with e | e | e | e <;> simp [e])]
  ·rw [zC3 s hl e,zC3 (zLy s) (by omega) (fun k=>e (by rcases k with k | k | k | k <;> simp [k])),d1,d2,zC8,zC8];unfold fin;(repeat' split) <;> omega
theorem zMf (a b c d:Pt):meetS a b d c=meetS a b c d:=by
 by_cases s:Seg2 a b c d
 case neg=>rw [zBg s,zBg (fun k=>s (zIl k))]
 case pos=>
 have d1:=zAd c d a;have d2:=zAd c d b;by_cases hl:det a b c=0∧det a b d=0
 ·rw [zBa s hl,zBa (zIl s) (by omega),zD4 s,zD4 (zIl s)]
  (repeat' split) <;> omega
 ·by_cases e:a=c∨a=d∨b=c∨b=d
  ·rw [zC4 s hl e,zC4 (zIl s) (by omega) (by rcases e with e | e | e | e <;> simp [e])]
  ·rw [zC3 s hl e,zC3 (zIl s) (by omega) (fun k=>e (by rcases k with k | k | k | k <;> simp [k])),d1,d2,zC8,zC8];unfold fin;(repeat' split) <;> omega
theorem zGb (a b c d:Pt):meetS c d a b=meetS a b c d:=by
 by_cases s:Seg2 a b c d
 case neg=>rw [zBg s,zBg (fun k=>s (zGx k))]
 case pos=>
 by_cases hl:det a b c=0∧det a b d=0
 ·rw [zBa s hl,zBa (zGx s) (zKr s hl),zD4 s,zD4 (zGx s)]
  (repeat' split) <;> omega
 ·have hl2:¬ (det c d a=0∧det c d b=0):=fun k=>hl (zKr (zGx s) k);by_cases e:a=c∨a=d∨b=c∨b=d
  ·rw [zC4 s hl e,zC4 (zGx s) hl2 (by rcases e with e | e | e | e <;> simp [e])]
  ·rw [zC3 s hl e,zC3 (zGx s) hl2 (fun k=>e (by rcases k with k | k | k | k <;> simp [k]))];unfold fin;(repeat' split) <;> omega
theorem meet_bd (a b c d:Pt):0≤meetS a b c d∧meetS a b c d≤3:=by
 by_cases s:Seg2 a b c d
 case neg=>rw [zBg s];omega
 case pos=>
 by_cases hl:det a b c=0∧det a b d=0
 ·rw [zBa s hl,zD4 s];split <;> omega
 ·by_cases e:a=c∨a=d∨b=c∨b=d
  ·rw [zC4 s hl e];omega
  ·rw [zC3 s hl e];unfold fin;(repeat' split) <;> omega
theorem meet_self {a b:Pt} (ha:vld a=true) (hb:vld b=true) (h:a≠b):meetS a b b a=3:=by
 have s:Seg2 a b b a:=⟨ha,hb,hb,ha,h,h.symm⟩;have n:=key_n s;rw [zBa s ⟨det_2 _ _,det_1 _ _⟩,zD4 s,jAc (by omega)]
theorem meet_one {a b c d:Pt} (h:meetS a b c d=1):ori a b c * ori a b d = -1∧ori c d a * ori c d b = -1:=by
 by_cases s:Seg2 a b c d
 case neg=>rw [zBg s] at h;omega
 case pos=>
 rw [ori_v s.va s.vb s.vc,ori_v s.va s.vb s.vd,ori_v s.vc s.vd s.va,ori_v s.vc s.vd s.vb];by_cases hl:det a b c=0∧det a b d=0
 ·rw [zBa s hl,zD4 s] at h;split at h <;> omega
 ·by_cases e:a=c∨a=d∨b=c∨b=d
  ·rw [zC4 s hl e] at h;omega
  ·rw [zC3 s hl e] at h;have c1:=zA8 (det c d a);have c2:=zA8 (det c d b);have c3:=zA8 (det a b c);have c4:=zA8 (det a b d);generalize sgn (det c d a)=A at *
   generalize sgn (det c d b)=B at *
   generalize sgn (det a b c)=C at *
   generalize sgn (det a b d)=D at *
   have hh:A≠B∧C≠D∧A≠0∧B≠0∧C≠0∧D≠0:=by
    unfold fin at h;(repeat' split at h) <;> omega
   have k1:A=1∧B = -1∨A = -1∧B=1:=by omega
   have k2:C=1∧D = -1∨C = -1∧D=1:=by omega
   rcases k1 with ⟨rfl,rfl⟩ | ⟨rfl,rfl⟩ <;> rcases k2 with ⟨rfl,rfl⟩ | ⟨rfl,rfl⟩ <;> decide
theorem zDu {p a b:Pt} (hp:vld p=true) (ha:vld a=true) (hb:vld b=true) (hd:det a b p=0) (h:key a≤key p∧key p≤key b∨key b≤key p∧key p≤key a):onS p a b=true:=by
 unfold onS;rw [hp,ha,hb,ori_v ha hb hp,hd,zCd ha hp,zCd hp hb];have c1:=zA8 (key a - key p);have c2:=zA8 (key p - key b);have:0≤sgn (key a - key p) * sgn (key p - key b):=by
  rcases c1 with ⟨e1,t1⟩ | ⟨e1,t1⟩ | ⟨e1,t1⟩ <;> rcases c2 with ⟨e2,t2⟩ | ⟨e2,t2⟩ | ⟨e2,t2⟩ <;> rw [e1,e2] <;> omega
 simp [s0,this]
theorem zLu {p a b:Pt} (h:tch p a b≠0):onS p a b=true:=by
 rw [on_eq];unfold tch at h;cases k:onR p a b with
 | true=>rfl
 | false=>rw [jAc k] at h;exact absurd rfl h
theorem meet_two {a b c d:Pt} (h:2≤meetS a b c d):(onS a c d || (onS b c d || (onS c a b || onS d a b)))=true:=by
 by_cases s:Seg2 a b c d
 case neg=>rw [zBg s] at h;omega
 case pos=>
 by_cases hl:det a b c=0∧det a b d=0
 ·rw [zBa s hl,zD4 s] at h;have l2:=zKr s hl;split at h
  case isFalse=>omega
  case isTrue k=>
  rcases jDp (min (key a) (key b)) (min (key c) (key d)) with t | t
  ·rcases jDp (key c) (key d) with u | u
   ·rw [zDu s.vc s.va s.vb hl.1 (by omega)];simp
   ·rw [zDu s.vd s.va s.vb hl.2 (by omega)];simp
  ·rcases jDp (key a) (key b) with u | u
   ·rw [zDu s.va s.vc s.vd l2.1 (by omega)];simp
   ·rw [zDu s.vb s.vc s.vd l2.2 (by omega)];simp
 ·rw [zH9,zEi s hl] at h;split at h
  ·omega
  ·by_cases t1:tch a c d=0
   ·by_cases t2:tch b c d=0
    ·by_cases t3:tch c a b=0
     ·by_cases t4:tch d a b=0
      ·rw [t1,t2,t3,t4] at h;exact absurd h (by decide)
      ·rw [zLu t4];simp
     ·rw [zLu t3];simp
    ·rw [zLu t2];simp
   ·rw [zLu t1];simp
-- moved along the grid
def mv (p:Pt) (x y:Int):Pt:=⟨p.x+x,p.y+y⟩
section
variable (x y:Int)
variable {a b c d:Pt} (ha:vld a=true) (hb:vld b=true) (hc:vld c=true) (hd:vld d=true) (ha':vld (mv a x y)=true) (hb':vld (mv b x y)=true) (hc':vld (mv c x y)=true) (hd':vld (mv d x y)=true)
include ha hb hc hd ha' hb' hc' hd'
end
end
section
section
variable {a:Pt} {x y k i:Int}
def pI (a:Pt) (x y i:Int):Pt:=⟨a.x+i * x,a.y+i * y⟩
end
end
def ff (al be:Int) (p:Pt):Int:=al * p.x+be * p.y
theorem cross_eq (al be:Int) (a b c d:Pt):det a b d * ff al be c - det a b c * ff al be d=det c d a * ff al be b - det c d b * ff al be a:=by
 unfold det ff;grind
theorem cross_d (a b c d:Pt):det a b d - det a b c=det c d a - det c d b:=by unfold det;grind
theorem on_ff {p a b:Pt} (al be:Int) (hab:a≠b) (h:onS p a b=true) {m:Int}:(ff al be a < m→ff al be b < m→ff al be p < m)∧(m≤ff al be a→m≤ff al be b→m≤ff al be p):=by
 unfold onS at h;simp only [jA3,jA4] at h;obtain ⟨hp,ha,hb,h0,h1⟩:=h;have hd:det a b p=0:=by rw [ori_v ha hb hp] at h0;exact zBk.1 h0
 obtain ⟨k0,k1⟩:=(on_k hab hd).1 h1;obtain ⟨c1,c2⟩:=coll hd;have hE:=zK0 hab;have e:EE a b * (ff al be p - ff al be a)=kk a b p * (ff al be b - ff al be a):=by
  have:EE a b * (ff al be p - ff al be a)=al * (EE a b * (p.x - a.x))+be * (EE a b * (p.y - a.y)):=by unfold ff;grind
  rw [this,c1,c2];unfold ff;grind
 generalize ff al be p=fp at *
 generalize ff al be a=fa at *
 generalize ff al be b=fb at *
 generalize EE a b=E at *
 generalize kk a b p=k at *
 have e2:E * (fp - m)=k * (fb - m)+(E - k) * (fa - m):=by grind
 constructor
 ·intro ha' hb';have x1:k * (fb - m)≤0:=jC1 k0 (by omega);have x2:(E - k) * (fa - m)≤0:=jC1 (by omega) (by omega);have x3:E * (fp - m) < 0:=by
   rcases jBo k0 with hk | hk
   ·have:=jBp hk (show fb - m < 0 by omega);omega
   ·have:(E - k) * (fa - m) < 0:=jBp (by omega) (by omega);omega
  rcases jDi (fp - m) 0 with h | h
  ·omega
  ·have:=jA2 (jAn hE) h;omega
 ·intro ha' hb';have x1:0≤k * (fb - m):=jA2 k0 (by omega);have x2:0≤(E - k) * (fa - m):=jA2 (by omega) (by omega);rcases jDi (fp - m) 0 with h | h
  ·have:=jBp hE h;omega
  ·omega
theorem meet_apart {a b c d:Pt} (al be m:Int) (ha:ff al be a < m) (hb:ff al be b < m) (hc:m≤ff al be c) (hd:m≤ff al be d):meetS a b c d=0:=by
 have hbd:=meet_bd a b c d;by_cases hs:Seg2 a b c d
 case neg=>exact zBg hs
 by_cases h2:2≤meetS a b c d
 ·have h:=meet_two h2;simp only [jD6] at h;rcases h with h | h | h | h
  ·have:=(on_ff al be hs.ncd h (m:=m)).2 hc hd;omega
  ·have:=(on_ff al be hs.ncd h (m:=m)).2 hc hd;omega
  ·have:=(on_ff al be hs.nab h (m:=m)).1 ha hb;omega
  ·have:=(on_ff al be hs.nab h (m:=m)).1 ha hb;omega
 ·by_cases h1:meetS a b c d=1
  ·obtain ⟨o1,o2⟩:=meet_one h1;rw [ori_v hs.va hs.vb hs.vc,ori_v hs.va hs.vb hs.vd] at o1;rw [ori_v hs.vc hs.vd hs.va,ori_v hs.vc hs.vd hs.vb] at o2;have e:=cross_eq al be a b c d;have e':=cross_d a b c d;generalize ff al be a=fa at *
   generalize ff al be b=fb at *
   generalize ff al be c=fc at *
   generalize ff al be d=fd at *
   generalize det a b c=s at *
   generalize det a b d=t at *
   generalize det c d a=u at *
   generalize det c d b=v at *
   have x:t * (fc - m) - s * (fd - m)=u * (fb - m) - v * (fa - m):=by grind
   rcases zA8 s with ⟨s1,s2⟩ | ⟨s1,s2⟩ | ⟨s1,s2⟩ <;> rcases zA8 t with ⟨t1,t2⟩ | ⟨t1,t2⟩ | ⟨t1,t2⟩ <;> rw [s1,t1] at o1 <;> try omega
   ·rcases zA8 u with ⟨u1,u2⟩ | ⟨u1,u2⟩ | ⟨u1,u2⟩ <;> rcases zA8 v with ⟨v1,v2⟩ | ⟨v1,v2⟩ | ⟨v1,v2⟩ <;> rw [u1,v1] at o2 <;> try omega
    have y1:0≤t * (fc - m):=jA2 (by omega) (by omega);have y2:s * (fd - m)≤0:=jCx (by omega) (by omega);have y3:u * (fb - m) < 0:=jBp u2 (by omega);have y4:0 < v * (fa - m):=jCt v2 (by omega);omega
   ·rcases zA8 u with ⟨u1,u2⟩ | ⟨u1,u2⟩ | ⟨u1,u2⟩ <;> rcases zA8 v with ⟨v1,v2⟩ | ⟨v1,v2⟩ | ⟨v1,v2⟩ <;> rw [u1,v1] at o2 <;> try omega
    have y1:t * (fc - m)≤0:=jCx (by omega) (by omega);have y2:0≤s * (fd - m):=jA2 (by omega) (by omega);have y3:0 < u * (fb - m):=jCt u2 (by omega);have y4:v * (fa - m) < 0:=jBp v2 (by omega);omega
  ·omega
def Apart (L:List Wl):Prop:=L.Pairwise fun x y=>meetS x.A x.B y.A y.B=0
theorem zEg {X:Wl} (h:GoodW X):meetS X.A X.B X.A X.B≠0:=by
 have hab:X.A≠X.B:=fun e=>by have:=h.ab;rw [e,cmpP_eq0.2 rfl] at this;omega
 rw [zMf,meet_self h.va h.vb hab];decide
section
open Go.RowKit Go.Sort
attribute [local go_sem] rOper rAt rUpon cell_set sg_i64 sg_u64 alloc_cell alloc_frozen
attribute [local go_sem 10000] pt_eql pt_neq wal_eql wal_neq
attribute [local irreducible] rWalk
theorem alike_W (a1 a2:Option Addr) (c1 c2:Nat) (L1 L2:List Wl) (w:World) (h1:RowAt cW 5 w a1 L1) (h2:RowAt cW 5 w a2 L2) (hl1:L1.length≤1000000):Calls prog 12 #[.slice a1 L1.length c1,.slice a2 L2.length c2] w (Rt w (.bool (decide (L1=L2)))):=by
 by_cases hl:L1.length=L2.length
 case neg=>
  have hne:L1≠L2:=fun e=>hl (by rw [e]);have hd:decide (L1=L2)=false:=by simpa using hne
  rw [hd];have hb2:((L1.length:Int) != L2.length)=true:=by rw [jF8];omega
  clear h1 h2 hne hd;generalize L1.length=n1 at *
  generalize L2.length=n2 at *
  go_enter func12,ntmps12
  go_wp2
  go_ret
  exact ⟨rfl,Below.refl _ _⟩
 case pos=>
  obtain ⟨n,hn1⟩:∃ n,L1.length=n:=⟨_,rfl⟩;have hn2:L2.length=n:=by rw [←hl,hn1]
  have hb2:((n:Int) != n)=false:=by simp
  rw [hn1,hn2];have hn:n≤1000000:=hn1▸hl1;have H1:=hdd hn1;have H2:=hdd hn2;clear hn1 hn2 hl hl1
  go_enter func12,ntmps12
  go_wp2
  go_loopw [5] (fun i wr=>∃ k:Nat,k≤n∧i=.int .i64 k∧Hid (L1.take k=L2.take k)∧Below w w wr) (fun i _=>n - (intOf i).toNat)
  case atStart=>exact ⟨0,jAt _,rfl,hdd rfl,Below.refl _ _⟩
  case round=>
   obtain ⟨k,hk,rfl,hT,hw⟩:=hrel;by_cases hlt:k < n
   ·have r1:=h1.ee hw;have r2:=h2.ee hw;obtain ⟨ad1,A1,ea1,eA1,hA1⟩:=r1.five (j:=k) (by rw [H1.out];exact hlt);obtain ⟨_,q0,q1,q2,q3,q4⟩:=hA1.f;obtain ⟨ad2,A2,ea2,eA2,hA2⟩:=r2.five (j:=k) (by rw [H2.out];exact hlt);obtain ⟨_,p0,p1,p2,p3,p4⟩:=hA2.f;clear r1 r2 hA1 hA2;have e1:L1[k]'(by rw [H1.out];exact hlt)=L1[k]'(by rw [H1.out];exact hlt):=rfl;by_cases he:L1[k]'(by rw [H1.out];exact hlt)=L2[k]'(by rw [H2.out];exact hlt)
    ·have hd:weqI (L1[k]'(by rw [H1.out];exact hlt)).A.x (L1[k]'(by rw [H1.out];exact hlt)).A.y (L1[k]'(by rw [H1.out];exact hlt)).B.x (L1[k]'(by rw [H1.out];exact hlt)).B.y (L1[k]'(by rw [H1.out];exact hlt)).K (L2[k]'(by rw [H2.out];exact hlt)).A.x (L2[k]'(by rw [H2.out];exact hlt)).A.y (L2[k]'(by rw [H2.out];exact hlt)).B.x (L2[k]'(by rw [H2.out];exact hlt)).B.y (L2[k]'(by rw [H2.out];exact hlt)).K=true:=zJd.2 he;have HE:=hdd he;clear he e1;go_wp2
     go_quiet (fail)
     go_wp2
     go_roundw
     case rel => 
      refine ⟨k+1,by omega,by go_num,Lib.hid ?_,?_⟩
      ·rw [jAb (by rw [H1.out];exact hlt),jAb (by rw [H2.out];exact hlt),hT.out,HE.out]
      ·exact hw.trans ⟨rfl,rfl,rfl,jA9 _,fun _ _=>rfl⟩
     case measure=>simp [intOf];omega
    ·have hd:weqI (L1[k]'(by rw [H1.out];exact hlt)).A.x (L1[k]'(by rw [H1.out];exact hlt)).A.y (L1[k]'(by rw [H1.out];exact hlt)).B.x (L1[k]'(by rw [H1.out];exact hlt)).B.y (L1[k]'(by rw [H1.out];exact hlt)).K (L2[k]'(by rw [H2.out];exact hlt)).A.x (L2[k]'(by rw [H2.out];exact hlt)).A.y (L2[k]'(by rw [H2.out];exact hlt)).B.x (L2[k]'(by rw [H2.out];exact hlt)).B.y (L2[k]'(by rw [H2.out];exact hlt)).K=false:=by rw [←jBl,zJd];exact he
     have hne:decide (L1=L2)=false:=by rw [jC3];intro e;subst e;exact he rfl
     have HN:=hdd hne;clear he e1 hne;go_wp2
     go_quiet (fail)
     go_wp2
     go_ret
     exact ⟨zB9 HN.out.symm,hw.trans ⟨rfl,rfl,rfl,jA9 _,fun _ _=>rfl⟩⟩
   ·have he : L1 = L2 := by
      have:=hT.out
      rwa [jAe (by rw [H1.out];omega),jAe (by rw [H2.out];omega)] at this
    have hd:decide (L1=L2)=true:=by simpa using he
    have HN:=hdd hd;clear he hd;go_wp2
    go_ret
    exact ⟨zB9 HN.out.symm,hw⟩
theorem rcmpW_0 (S T:Wl) (h0:¬ cmpP S.A T.A=0) (w:World):Calls prog 28 #[.agg #[S.A.x,S.A.y,S.B.x,S.B.y,S.K],.agg #[T.A.x,T.A.y,T.B.x,T.B.y,T.K]] w (Rt w (.int .i64 (cmpP S.A T.A))):=by
 have c1:=zAe S.A T.A;have hd:(cmpP S.A T.A == 0)=false:=by simpa using h0
 clear h0;generalize cmpP S.A T.A=n at *
 go_enter func28,ntmps28
 go_wp2_with fail;refine qE2 fun W1 Bs Bt hw=>?_;refine qC2 (c1 _) Bs Bt hw fun w2 Bs Bt hw F_st=>?_;go_wp2
 go_ret
 exact ⟨rfl,by have hl:=hw.size;go_grown⟩
theorem rcmpW_1 (S T:Wl) (h0:cmpP S.A T.A=0) (h1:¬ cmpP S.B T.B=0) (w:World):Calls prog 28 #[.agg #[S.A.x,S.A.y,S.B.x,S.B.y,S.K],.agg #[T.A.x,T.A.y,T.B.x,T.B.y,T.K]] w (Rt w (.int .i64 (cmpP S.B T.B))):=by
 have c1:=zAe S.A T.A;have c2:=zAe S.B T.B;rw [h0] at c1;have hd:(cmpP S.B T.B == 0)=false:=by simpa using h1
 clear h0 h1;generalize cmpP S.B T.B=n at *
 go_enter func28,ntmps28
 go_wp2_with fail;refine qE2 fun W1 Bs Bt hw=>?_;refine qC2 (c1 _) Bs Bt hw fun w2 Bs Bt hw F_st=>?_;go_wp2_with fail;clear F_st;refine qC2 (c2 _) Bs Bt hw fun w3 Bs Bt hw F_st=>?_;go_wp2
 go_ret
 exact ⟨rfl,by have hl:=hw.size;go_grown⟩
theorem rcmpW_2 (S T:Wl) (h0:cmpP S.A T.A=0) (h1:cmpP S.B T.B=0) (hs:0≤S.K∧S.K≤2) (ht:0≤T.K∧T.K≤2) (w:World):Calls prog 28 #[.agg #[S.A.x,S.A.y,S.B.x,S.B.y,S.K],.agg #[T.A.x,T.A.y,T.B.x,T.B.y,T.K]] w (Rt w (.int .i64 (cmpN S.K T.K))):=by
 have c1:=zAe S.A T.A;have c2:=zAe S.B T.B;rw [h0] at c1;rw [h1] at c2;have c3:∀ W:World,Calls prog 64 #[.int .i64 (S.K - T.K)] W fun e w'=>e=.returned (.int .i64 (sgn (S.K - T.K)))∧Below W W w':=fun W=>(zKa (S.K - T.K) W).mono fun _ _ ⟨h1,h2⟩=>⟨h1,by rw [h2];exact Below.refl _ _⟩;have hw0:wrap64 (S.K - T.K)=S.K - T.K:=by rw [w64];omega
 rw [show cmpN S.K T.K=sgn (S.K - T.K) by rfl];generalize sgn (S.K - T.K)=n at *
 clear h0 h1
 go_enter func28,ntmps28
 go_wp2_with fail;refine qE2 fun W1 Bs Bt hw=>?_;refine qC2 (c1 _) Bs Bt hw fun w2 Bs Bt hw F_st=>?_;go_wp2_with fail;clear F_st;refine qC2 (c2 _) Bs Bt hw fun w3 Bs Bt hw F_st=>?_;go_wp2_with fail;clear F_st;refine qC2 (c3 _) Bs Bt hw fun w4 Bs Bt hw F_st=>?_;go_wp2
 go_ret
 exact ⟨rfl,by have hl:=hw.size;go_grown⟩
theorem rcmpW_any (S T:Wl) (hs:0≤S.K∧S.K≤2) (ht:0≤T.K∧T.K≤2) (w:World):Calls prog 28 #[.agg #[S.A.x,S.A.y,S.B.x,S.B.y,S.K],.agg #[T.A.x,T.A.y,T.B.x,T.B.y,T.K]] w (Rt w (.int .i64 (cmpW S T))):=by
 by_cases h0:cmpP S.A T.A=0
 ·by_cases h1:cmpP S.B T.B=0
  ·rw [show cmpW S T=cmpN S.K T.K by unfold cmpW;simp [h0,h1]];exact rcmpW_2 S T h0 h1 hs ht w
  ·rw [show cmpW S T=cmpP S.B T.B by unfold cmpW;simp [h0,h1]];exact rcmpW_1 S T h0 h1 w
 ·rw [show cmpW S T=cmpP S.A T.A by unfold cmpW;simp [h0]];exact rcmpW_0 S T h0 w
end
end Go.Proofs.YtogffkimgmlilaaGreat
