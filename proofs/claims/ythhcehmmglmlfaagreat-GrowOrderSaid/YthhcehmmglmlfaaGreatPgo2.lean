import Derived.Test.YthhcehmmglmlfaaGreatPgo1
import Derived.LoopN
import Derived.Laws.AppendOwn
set_option maxRecDepth 100000
set_option maxHeartbeats 8000000
set_option linter.all false
namespace Go.Proofs.YthhcehmmglmlfaaGreat
open _root_.Go.Proofs.Tryz
section
open Go.RowKit Go.Sort
attribute [local go_sem] rOper rAt rUpon cell_set sg_i64 sg_u64 alloc_cell alloc_frozen
attribute [local go_sem 10000] pt_eql pt_neq
attribute [local irreducible] rWalk
theorem rcircle_0 (a b c d:Pt) (h0:ori a b c=0) (w:World):Calls prog 134 #[a,b,c,d] w (Rt w (.int .i64 0)):=by
 have co:=zH a b c;rw [h0] at co;clear h0
 go_enter func134,ntmps134
 go_wp2_with fail;refine qE4 λW1 Ba Bb Bc Bd hw=>?_;refine qK4 (co _) Ba Bb Bc Bd hw λw2 Ba Bb Bc Bd hw=>?_;go_wp2
 go_ret
 exact ⟨rfl,hw⟩
theorem Zj (a b c d:Pt) (h0:¬ ori a b c=0) (hv:vld d=false) (w:World):Calls prog 134 #[a,b,c,d] w (Rt w (.int .i64 0)):=by
 have co:=zH a b c;have cv:=z7 d;rw [hv] at cv;clear hv;have bo:=y6 a b c;generalize ori a b c=o at *
 have t0:(o == 0)=false:=by simpa using h0
 clear h0
 go_enter func134,ntmps134
 go_wp2_with fail;refine qE4 λW1 Ba Bb Bc Bd hw=>?_;refine qC4 (co _) Ba Bb Bc Bd hw λw2 Ba Bb Bc Bd hw Fj=>?_;go_wp2_with fail;clear Fj;refine qC4 (cv _) Ba Bb Bc Bd hw λw3 Ba Bb Bc Bd hw Fj=>?_;go_wp2
 go_ret
 exact ⟨rfl,hw⟩
theorem Zi (a b c d:Pt) (h0:¬ ori a b c=0) (hv:vld d) (e1:peqI d.x d.y a.x a.y) (w:World):Calls prog 134 #[a,b,c,d] w (Rt w (.int .i64 0)):=by
 have co:=zH a b c;have cv:=z7 d;rw [hv] at cv;clear hv;have bo:=y6 a b c;generalize ori a b c=o at *
 have t0:(o == 0)=false:=by simpa using h0
 clear h0
 go_enter func134,ntmps134
 go_wp2_with fail;refine qE4 λW1 Ba Bb Bc Bd hw=>?_;refine qC4 (co _) Ba Bb Bc Bd hw λw2 Ba Bb Bc Bd hw Fj=>?_;go_wp2_with fail;clear Fj;refine qC4 (cv _) Ba Bb Bc Bd hw λw3 Ba Bb Bc Bd hw Fj=>?_;go_wp2
 go_ret
 exact ⟨rfl,hw⟩
theorem Zh (a b c d:Pt) (h0:¬ ori a b c=0) (hv:vld d) (e1:peqI d.x d.y a.x a.y=false) (e2:peqI d.x d.y b.x b.y) (w:World):Calls prog 134 #[a,b,c,d] w (Rt w (.int .i64 0)):=by
 have co:=zH a b c;have cv:=z7 d;rw [hv] at cv;clear hv;have bo:=y6 a b c;generalize ori a b c=o at *
 have t0:(o == 0)=false:=by simpa using h0
 clear h0
 go_enter func134,ntmps134
 go_wp2_with fail;refine qE4 λW1 Ba Bb Bc Bd hw=>?_;refine qC4 (co _) Ba Bb Bc Bd hw λw2 Ba Bb Bc Bd hw Fj=>?_;go_wp2_with fail;clear Fj;refine qC4 (cv _) Ba Bb Bc Bd hw λw3 Ba Bb Bc Bd hw Fj=>?_;go_wp2
 go_ret
 exact ⟨rfl,hw⟩
theorem Zg (a b c d:Pt) (h0:¬ ori a b c=0) (hv:vld d) (e1:peqI d.x d.y a.x a.y=false) (e2:peqI d.x d.y b.x b.y=false) (e3:peqI d.x d.y c.x c.y) (w:World):Calls prog 134 #[a,b,c,d] w (Rt w (.int .i64 0)):=by
 have co:=zH a b c;have cv:=z7 d;rw [hv] at cv;clear hv;have bo:=y6 a b c;generalize ori a b c=o at *
 have t0:(o == 0)=false:=by simpa using h0
 clear h0
 go_enter func134,ntmps134
 go_wp2_with fail;refine qE4 λW1 Ba Bb Bc Bd hw=>?_;refine qC4 (co _) Ba Bb Bc Bd hw λw2 Ba Bb Bc Bd hw Fj=>?_;go_wp2_with fail;clear Fj;refine qC4 (cv _) Ba Bb Bc Bd hw λw3 Ba Bb Bc Bd hw Fj=>?_;go_wp2
 go_ret
 exact ⟨rfl,hw⟩
theorem lft_r (u v z:Pt):(u.x * u.x+u.y * u.y) * (v.x * z.y - z.x * v.y) + -((v.x * v.x+v.y * v.y) * (u.x * z.y - z.x * u.y))+(z.x * z.x+z.y * z.y) * (u.x * v.y - v.x * u.y)=ht u * cr v z+ht v * cr z u+ht z * cr u v:=by
 unfold ht cr;grind
theorem rcircle_5 (a b c d:Pt) (h0:ori a b c=1) (hv:vld d) (e1:peqI d.x d.y a.x a.y=false) (e2:peqI d.x d.y b.x b.y=false) (e3:peqI d.x d.y c.x c.y=false) (hl:¬ sgn (lft a b c d)=0) (w:World):Calls prog 134 #[a,b,c,d] w (Rt w (.int .i64 (sgn (lft a b c d)))):=by
 have hvv:vld a=true/\vld b=true/\vld c=true:=yz (by omega);obtain ⟨vva,vvb,vvc⟩:=hvv;have co:=zH a b c;rw [h0] at co;have cv:=z7 d;rw [hv] at cv;have su:=qp hv vva;have sv:=qp hv vvb;have sz:=qp hv vvc;have el:=lft_r (way d a) (way d b) (way d c);have el':lft a b c d=ht (way d a) * cr (way d b) (way d c)+ht (way d b) * cr (way d c) (way d a)+ht (way d c) * cr (way d a) (way d b):=rfl;rw [<-el'] at el;have ww1:IntKind.i64.wrap (a.x - d.x)=(way d a).x:=by rw [zh] at *;rw [IntKind.wrap_i64];unfold way;simp only;omega
 have ww2:IntKind.i64.wrap (a.y - d.y)=(way d a).y:=by rw [zh] at *;rw [IntKind.wrap_i64];unfold way;simp only;omega
 have ww3:IntKind.i64.wrap (b.x - d.x)=(way d b).x:=by rw [zh] at *;rw [IntKind.wrap_i64];unfold way;simp only;omega
 have ww4:IntKind.i64.wrap (b.y - d.y)=(way d b).y:=by rw [zh] at *;rw [IntKind.wrap_i64];unfold way;simp only;omega
 have ww5:IntKind.i64.wrap (c.x - d.x)=(way d c).x:=by rw [zh] at *;rw [IntKind.wrap_i64];unfold way;simp only;omega
 have ww6:IntKind.i64.wrap (c.y - d.y)=(way d c).y:=by rw [zh] at *;rw [IntKind.wrap_i64];unfold way;simp only;omega
 clear el';generalize way d a=u at *
 generalize way d b=v at *
 generalize way d c=z at *
 have a1:=yV su.1 su.1;have a2:=yV su.2 su.2;have a3:=yV sv.1 sv.1;have a4:=yV sv.2 sv.2;have a5:=yV sz.1 sz.1;have a6:=yV sz.2 sz.2;have a7:=yV sv.1 sz.2;have a8:=yV sz.1 sv.2;have a9:=yV su.1 sz.2;have a10:=yV sz.1 su.2;have a11:=yV su.1 sv.2;have a12:=yV sv.1 su.2;have g1:=qB u.x;have g2:=qB u.y;have g3:=qB v.x;have g4:=qB v.y;have g5:=qB z.x;have g6:=qB z.y;have m1:=r_mul (u.x * u.x+u.y * u.y) (v.x * z.y - z.x * v.y) (by omega) (by omega) (by omega) (by omega);have m2:=r_mul (v.x * v.x+v.y * v.y) (u.x * z.y - z.x * u.y) (by omega) (by omega) (by omega) (by omega);have m3:=r_mul (z.x * z.x+z.y * z.y) (u.x * v.y - v.x * u.y) (by omega) (by omega) (by omega) (by omega);have p1:=kT (p:=u.x * u.x+u.y * u.y) (q:=v.x * z.y - z.x * v.y) (by omega) (by omega);have p2:=kT (p:=v.x * v.x+v.y * v.y) (q:=u.x * z.y - z.x * u.y) (by omega) (by omega);have p3:=kT (p:=z.x * z.x+z.y * z.y) (q:=u.x * v.y - v.x * u.y) (by omega) (by omega);generalize (u.x * u.x+u.y * u.y) * (v.x * z.y - z.x * v.y)=P1 at *
 generalize (v.x * v.x+v.y * v.y) * (u.x * z.y - z.x * u.y)=P2 at *
 generalize (z.x * z.x+z.y * z.y) * (u.x * v.y - v.x * u.y)=P3 at *
 have n2:=K3 (cH P2) (cL P2) (ok_c _);rw [V_c (zg.2 ⟨by omega,by omega⟩),(m_c (n := -P2) (zg.2 ⟨by omega,by omega⟩)).1,(m_c (n := -P2) (zg.2 ⟨by omega,by omega⟩)).2] at n2;have s1:=kg (cH P1) (cL P1) (cH (-P2)) (cL (-P2)) (ok_c _) (ok_c _);rw [V_c (zg.2 ⟨by omega,by omega⟩),V_c (zg.2 ⟨by omega,by omega⟩),(m_c (n:=P1 + -P2) (zg.2 ⟨by omega,by omega⟩)).1,(m_c (n:=P1 + -P2) (zg.2 ⟨by omega,by omega⟩)).2] at s1;have s2:=kg (cH (P1 + -P2)) (cL (P1 + -P2)) (cH P3) (cL P3) (ok_c _) (ok_c _);rw [V_c (zg.2 ⟨by omega,by omega⟩),V_c (zg.2 ⟨by omega,by omega⟩),(m_c (n:=P1 + -P2+P3) (zg.2 ⟨by omega,by omega⟩)).1,(m_c (n:=P1 + -P2+P3) (zg.2 ⟨by omega,by omega⟩)).2] at s2;have s3:=r_sign (cH (P1 + -P2+P3)) (cL (P1 + -P2+P3)) (ok_c _);rw [V_c (zg.2 ⟨by omega,by omega⟩)] at s3;generalize cH (P1 + -P2+P3)=H3 at *
 generalize cL (P1 + -P2+P3)=L3 at *
 rw [el] at s3;clear p1 p2 p3 el su sv sz vva vvb vvc hv h0;generalize sgn (lft a b c d)=S at *
 generalize cH (P1 + -P2)=H2 at *
 generalize cL (P1 + -P2)=L2 at *
 generalize cH P1=H0 at *
 generalize cL P1=L0 at *
 generalize cH (-P2)=H5 at *
 generalize cL (-P2)=L5 at *
 generalize cH P2=H1 at *
 generalize cL P2=L1 at *
 generalize cH P3=H4 at *
 generalize cL P3=L4 at *
 have t1:(S != 0)=true:=by simpa using hl
 clear hl
 go_enter func134,ntmps134
 go_wp2_with fail;refine qE4 λW1 Ba Bb Bc Bd hw=>?_;refine qC4 (co _) Ba Bb Bc Bd hw λw2 Ba Bb Bc Bd hw Fj=>?_;go_wp2_with fail;clear Fj;refine qK4 (cv _) Ba Bb Bc Bd hw λw3 Ba Bb Bc Bd hw=>?_;have Fa:=Ba.f;have Fb:=Bb.f;have Fc:=Bc.f;have Fd:=Bd.f;go_wp2;refine zG λW4 hW=>?_;subst hW;clear Fa Fb Fc Fd;have ga:=Ba.cells;have gb:=Bb.cells;have gc:=Bc.cells;have gd:=Bd.cells;refine rgn 35 (λw5 hb=>?_);clear ga gb gc gd;obtain ⟨Ba,Bb,Bc,Bd,hw,-⟩:=qX4 Ba Bb Bc Bd hw hb;clear ww1 ww2 ww3 ww4 ww5 ww6;have Fj:=J4 Ba.f Bb.f Bc.f Bd.f;go_wp2_with fail;clear Fj;refine qK4 (m1 _) Ba Bb Bc Bd hw λw6 Ba Bb Bc Bd hw=>?_;have Fa:=Ba.f;have Fb:=Bb.f;have Fc:=Bc.f;have Fd:=Bd.f;go_wp2_with fail;refine zG λW7 hW=>?_;obtain ⟨bkz,hbz⟩:∃ b,w6.heap.size=b:=⟨_,rfl⟩;rw [hbz];obtain ⟨laz,lbz,lcz,ldz,fz,Bz,Ba,Bb,Bc,Bd,hw⟩:=qM4 hW hbz Ba Bb Bc Bd hw;clear hW hbz;have rr0:Hi (IntKind.i64.wrap (v.x * v.x)=v.x * v.x):=hdd (by rw [IntKind.wrap_i64];omega);have rr1:Hi (IntKind.i64.wrap (v.y * v.y)=v.y * v.y):=hdd (by rw [IntKind.wrap_i64];omega);have rr2:Hi (IntKind.i64.wrap (v.x * v.x+v.y * v.y)=v.x * v.x+v.y * v.y):=hdd (by rw [IntKind.wrap_i64];omega);have rr3:Hi (IntKind.i64.wrap (u.x * z.y)=u.x * z.y):=hdd (by rw [IntKind.wrap_i64];omega);have rr4:Hi (IntKind.i64.wrap (z.x * u.y)=z.x * u.y):=hdd (by rw [IntKind.wrap_i64];omega);have rr5:Hi (IntKind.i64.wrap (u.x * z.y - z.x * u.y)=u.x * z.y - z.x * u.y):=hdd (by rw [IntKind.wrap_i64];omega);have qq0:=rr0.o;clear rr0;have qq1:=rr1.o;clear rr1;have qq2:=rr2.o;clear rr2;have qq3:=rr3.o;clear rr3;have qq4:=rr4.o;clear rr4;have qq5:=rr5.o;clear rr5;have ga:=Ba.cells;have gb:=Bb.cells;have gc:=Bc.cells;have gd:=Bd.cells;have gz:=Bz.cells;refine rgn 18 (λw8 hb=>?_);clear ga gb gc gd gz;clear Fa Fb Fc Fd;obtain ⟨Ba,Bb,Bc,Bd,Bz,hw,-⟩:=qX5 Ba Bb Bc Bd Bz hw hb;clear qq0 qq1 qq2 qq3 qq4 qq5;have Fa:=Ba.f;have Fb:=Bb.f;have Fc:=Bc.f;have Fd:=Bd.f;have Fz:=Bz.f;go_wp2_with fail;refine zG λW9 hW=>?_;replace Ba:=sto Ba hW;replace Bb:=sto Bb hW;replace Bc:=sto Bc hW;replace Bd:=sto Bd hW;replace Bz:=sto Bz hW;replace hw:=stw hw hW;clear Fa Fb Fc Fd Fz;clear hW;have rr0:Hi (IntKind.i64.wrap (z.x * z.x)=z.x * z.x):=hdd (by rw [IntKind.wrap_i64];omega);have rr1:Hi (IntKind.i64.wrap (z.y * z.y)=z.y * z.y):=hdd (by rw [IntKind.wrap_i64];omega);have rr2:Hi (IntKind.i64.wrap (z.x * z.x+z.y * z.y)=z.x * z.x+z.y * z.y):=hdd (by rw [IntKind.wrap_i64];omega);have rr3:Hi (IntKind.i64.wrap (u.x * v.y)=u.x * v.y):=hdd (by rw [IntKind.wrap_i64];omega);have rr4:Hi (IntKind.i64.wrap (v.x * u.y)=v.x * u.y):=hdd (by rw [IntKind.wrap_i64];omega);have rr5:Hi (IntKind.i64.wrap (u.x * v.y - v.x * u.y)=u.x * v.y - v.x * u.y):=hdd (by rw [IntKind.wrap_i64];omega);have qq0:=rr0.o;clear rr0;have qq1:=rr1.o;clear rr1;have qq2:=rr2.o;clear rr2;have qq3:=rr3.o;clear rr3;have qq4:=rr4.o;clear rr4;have qq5:=rr5.o;clear rr5;have ga:=Ba.cells;have gb:=Bb.cells;have gc:=Bc.cells;have gd:=Bd.cells;have gz:=Bz.cells;refine rgn 17 (λw10 hb=>?_);clear ga gb gc gd gz;obtain ⟨Ba,Bb,Bc,Bd,Bz,hw,-⟩:=qX5 Ba Bb Bc Bd Bz hw hb;clear qq0 qq1 qq2 qq3 qq4 qq5 a1 a2 a3 a4 a5 a6 a7 a8 a9 a10 a11 a12 g1 g2 g3 g4 g5 g6;have Fa:=Ba.f;have Fb:=Bb.f;have Fc:=Bc.f;have Fd:=Bd.f;have Fz:=Bz.f;go_wp2_with fail;refine zI λW11 hW=>?_;replace Ba:=sto Ba hW;replace Bb:=sto Bb hW;replace Bc:=sto Bc hW;replace Bd:=sto Bd hW;replace Bz:=sto Bz hW;replace hw:=stw hw hW;clear Fa Fb Fc Fd Fz;clear hW;refine qK5 (s3 _) Ba Bb Bc Bd Bz hw λw12 Ba Bb Bc Bd Bz hw=>?_;go_wp2
 go_ret
 exact ⟨rfl,hw⟩
theorem uL {a b c d:Int}:peqI a b c d=peqI c d a b:=by
 rw [Qm,xJ,xJ];omega
theorem kD (a b:Int):peqI a b a b=true:=by rw [xJ];exact ⟨rfl,rfl⟩
theorem det_ne {a b c:Pt} (h:¬ ori a b c=0):peqI b.x b.y a.x a.y=false/\peqI c.x c.y a.x a.y=false/\peqI c.x c.y b.x b.y=false:=by
 have hd:¬ det a b c=0:=λhd=>h (by unfold ori;rw [hd];simp [sgn]);refine ⟨?_,?_,?_⟩ <;> (rw [<-QO,xJ];rintro ⟨h1,h2⟩;apply hd;unfold det;rw [h1,h2])
 ·simp
 ·simp
 ·grind
theorem rcircle_6 (a b c d:Pt) (h0:ori a b c=1) (hv:vld d) (e1:peqI d.x d.y a.x a.y=false) (e2:peqI d.x d.y b.x b.y=false) (e3:peqI d.x d.y c.x c.y=false) (hl:sgn (lft a b c d)=0) (w:World):Calls prog 134 #[a,b,c,d] w λe w'=>e=.returned (.int .i64 (tie a b c d (lsr c (lsr b (lsr a d))) 1))/\Below w w w':=by
 have hvv:vld a=true/\vld b=true/\vld c=true:=yz (by omega);obtain ⟨vva,vvb,vvc⟩:=hvv;have co:=zH a b c;rw [h0] at co;have cv:=z7 d;rw [hv] at cv;have su:=qp hv vva;have sv:=qp hv vvb;have sz:=qp hv vvc;have el:=lft_r (way d a) (way d b) (way d c);have el':lft a b c d=ht (way d a) * cr (way d b) (way d c)+ht (way d b) * cr (way d c) (way d a)+ht (way d c) * cr (way d a) (way d b):=rfl;rw [<-el'] at el;have ww1:IntKind.i64.wrap (a.x - d.x)=(way d a).x:=by rw [zh] at *;rw [IntKind.wrap_i64];unfold way;simp only;omega
 have ww2:IntKind.i64.wrap (a.y - d.y)=(way d a).y:=by rw [zh] at *;rw [IntKind.wrap_i64];unfold way;simp only;omega
 have ww3:IntKind.i64.wrap (b.x - d.x)=(way d b).x:=by rw [zh] at *;rw [IntKind.wrap_i64];unfold way;simp only;omega
 have ww4:IntKind.i64.wrap (b.y - d.y)=(way d b).y:=by rw [zh] at *;rw [IntKind.wrap_i64];unfold way;simp only;omega
 have ww5:IntKind.i64.wrap (c.x - d.x)=(way d c).x:=by rw [zh] at *;rw [IntKind.wrap_i64];unfold way;simp only;omega
 have ww6:IntKind.i64.wrap (c.y - d.y)=(way d c).y:=by rw [zh] at *;rw [IntKind.wrap_i64];unfold way;simp only;omega
 clear el';generalize way d a=u at *
 generalize way d b=v at *
 generalize way d c=z at *
 have a1:=yV su.1 su.1;have a2:=yV su.2 su.2;have a3:=yV sv.1 sv.1;have a4:=yV sv.2 sv.2;have a5:=yV sz.1 sz.1;have a6:=yV sz.2 sz.2;have a7:=yV sv.1 sz.2;have a8:=yV sz.1 sv.2;have a9:=yV su.1 sz.2;have a10:=yV sz.1 su.2;have a11:=yV su.1 sv.2;have a12:=yV sv.1 su.2;have g1:=qB u.x;have g2:=qB u.y;have g3:=qB v.x;have g4:=qB v.y;have g5:=qB z.x;have g6:=qB z.y;have m1:=r_mul (u.x * u.x+u.y * u.y) (v.x * z.y - z.x * v.y) (by omega) (by omega) (by omega) (by omega);have m2:=r_mul (v.x * v.x+v.y * v.y) (u.x * z.y - z.x * u.y) (by omega) (by omega) (by omega) (by omega);have m3:=r_mul (z.x * z.x+z.y * z.y) (u.x * v.y - v.x * u.y) (by omega) (by omega) (by omega) (by omega);have p1:=kT (p:=u.x * u.x+u.y * u.y) (q:=v.x * z.y - z.x * v.y) (by omega) (by omega);have p2:=kT (p:=v.x * v.x+v.y * v.y) (q:=u.x * z.y - z.x * u.y) (by omega) (by omega);have p3:=kT (p:=z.x * z.x+z.y * z.y) (q:=u.x * v.y - v.x * u.y) (by omega) (by omega);generalize (u.x * u.x+u.y * u.y) * (v.x * z.y - z.x * v.y)=P1 at *
 generalize (v.x * v.x+v.y * v.y) * (u.x * z.y - z.x * u.y)=P2 at *
 generalize (z.x * z.x+z.y * z.y) * (u.x * v.y - v.x * u.y)=P3 at *
 have n2:=K3 (cH P2) (cL P2) (ok_c _);rw [V_c (zg.2 ⟨by omega,by omega⟩),(m_c (n := -P2) (zg.2 ⟨by omega,by omega⟩)).1,(m_c (n := -P2) (zg.2 ⟨by omega,by omega⟩)).2] at n2;have s1:=kg (cH P1) (cL P1) (cH (-P2)) (cL (-P2)) (ok_c _) (ok_c _);rw [V_c (zg.2 ⟨by omega,by omega⟩),V_c (zg.2 ⟨by omega,by omega⟩),(m_c (n:=P1 + -P2) (zg.2 ⟨by omega,by omega⟩)).1,(m_c (n:=P1 + -P2) (zg.2 ⟨by omega,by omega⟩)).2] at s1;have s2:=kg (cH (P1 + -P2)) (cL (P1 + -P2)) (cH P3) (cL P3) (ok_c _) (ok_c _);rw [V_c (zg.2 ⟨by omega,by omega⟩),V_c (zg.2 ⟨by omega,by omega⟩),(m_c (n:=P1 + -P2+P3) (zg.2 ⟨by omega,by omega⟩)).1,(m_c (n:=P1 + -P2+P3) (zg.2 ⟨by omega,by omega⟩)).2] at s2;have s3:=r_sign (cH (P1 + -P2+P3)) (cL (P1 + -P2+P3)) (ok_c _);rw [V_c (zg.2 ⟨by omega,by omega⟩)] at s3;generalize cH (P1 + -P2+P3)=H3 at *
 generalize cL (P1 + -P2+P3)=L3 at *
 rw [el] at s3;obtain ⟨d1,d2,d3⟩:=det_ne (a:=a) (b:=b) (c:=c) (by rw [h0];omega);clear p1 p2 p3 el su sv sz vva vvb vvc hv h0;generalize sgn (lft a b c d)=S at *
 generalize cH (P1 + -P2)=H2 at *
 generalize cL (P1 + -P2)=L2 at *
 generalize cH P1=H0 at *
 generalize cL P1=L0 at *
 generalize cH (-P2)=H5 at *
 generalize cL (-P2)=L5 at *
 generalize cH P2=H1 at *
 generalize cL P2=L1 at *
 generalize cH P3=H4 at *
 generalize cL P3=L4 at *
 have f1:peqI a.x a.y d.x d.y=false:=by rw [uL];exact e1
 have f2:peqI b.x b.y d.x d.y=false:=by rw [uL];exact e2
 have f3:peqI c.x c.y d.x d.y=false:=by rw [uL];exact e3
 have i1:=kD a.x a.y;have i2:=kD b.x b.y;have i3:=kD d.x d.y;have t1:(S != 0)=false:=by simpa using hl
 clear hl
 go_enter func134,ntmps134
 go_wp2_with fail;refine qE4 λW1 Ba Bb Bc Bd hw=>?_;refine qC4 (co _) Ba Bb Bc Bd hw λw2 Ba Bb Bc Bd hw Fj=>?_;go_wp2_with fail;clear Fj;refine qK4 (cv _) Ba Bb Bc Bd hw λw3 Ba Bb Bc Bd hw=>?_;have Fa:=Ba.f;have Fb:=Bb.f;have Fc:=Bc.f;have Fd:=Bd.f;go_wp2;refine zG λW4 hW=>?_;subst hW;clear Fa Fb Fc Fd;have ga:=Ba.cells;have gb:=Bb.cells;have gc:=Bc.cells;have gd:=Bd.cells;refine rgn 35 (λw5 hb=>?_);clear ga gb gc gd;obtain ⟨Ba,Bb,Bc,Bd,hw,-⟩:=qX4 Ba Bb Bc Bd hw hb;clear ww1 ww2 ww3 ww4 ww5 ww6;have Fj:=J4 Ba.f Bb.f Bc.f Bd.f;go_wp2_with fail;clear Fj;refine qK4 (m1 _) Ba Bb Bc Bd hw λw6 Ba Bb Bc Bd hw=>?_;have Fa:=Ba.f;have Fb:=Bb.f;have Fc:=Bc.f;have Fd:=Bd.f;go_wp2_with fail;refine zG λW7 hW=>?_;obtain ⟨bkz,hbz⟩:∃ b,w6.heap.size=b:=⟨_,rfl⟩;rw [hbz];obtain ⟨laz,lbz,lcz,ldz,fz,Bz,Ba,Bb,Bc,Bd,hw⟩:=qM4 hW hbz Ba Bb Bc Bd hw;clear hW hbz;have rr0:Hi (IntKind.i64.wrap (v.x * v.x)=v.x * v.x):=hdd (by rw [IntKind.wrap_i64];omega);have rr1:Hi (IntKind.i64.wrap (v.y * v.y)=v.y * v.y):=hdd (by rw [IntKind.wrap_i64];omega);have rr2:Hi (IntKind.i64.wrap (v.x * v.x+v.y * v.y)=v.x * v.x+v.y * v.y):=hdd (by rw [IntKind.wrap_i64];omega);have rr3:Hi (IntKind.i64.wrap (u.x * z.y)=u.x * z.y):=hdd (by rw [IntKind.wrap_i64];omega);have rr4:Hi (IntKind.i64.wrap (z.x * u.y)=z.x * u.y):=hdd (by rw [IntKind.wrap_i64];omega);have rr5:Hi (IntKind.i64.wrap (u.x * z.y - z.x * u.y)=u.x * z.y - z.x * u.y):=hdd (by rw [IntKind.wrap_i64];omega);have qq0:=rr0.o;clear rr0;have qq1:=rr1.o;clear rr1;have qq2:=rr2.o;clear rr2;have qq3:=rr3.o;clear rr3;have qq4:=rr4.o;clear rr4;have qq5:=rr5.o;clear rr5;have ga:=Ba.cells;have gb:=Bb.cells;have gc:=Bc.cells;have gd:=Bd.cells;have gz:=Bz.cells;refine rgn 18 (λw8 hb=>?_);clear ga gb gc gd gz;clear Fa Fb Fc Fd;obtain ⟨Ba,Bb,Bc,Bd,Bz,hw,-⟩:=qX5 Ba Bb Bc Bd Bz hw hb;clear qq0 qq1 qq2 qq3 qq4 qq5;have Fa:=Ba.f;have Fb:=Bb.f;have Fc:=Bc.f;have Fd:=Bd.f;have Fz:=Bz.f;go_wp2_with fail;refine zG λW9 hW=>?_;replace Ba:=sto Ba hW;replace Bb:=sto Bb hW;replace Bc:=sto Bc hW;replace Bd:=sto Bd hW;replace Bz:=sto Bz hW;replace hw:=stw hw hW;clear Fa Fb Fc Fd Fz;clear hW;have rr0:Hi (IntKind.i64.wrap (z.x * z.x)=z.x * z.x):=hdd (by rw [IntKind.wrap_i64];omega);have rr1:Hi (IntKind.i64.wrap (z.y * z.y)=z.y * z.y):=hdd (by rw [IntKind.wrap_i64];omega);have rr2:Hi (IntKind.i64.wrap (z.x * z.x+z.y * z.y)=z.x * z.x+z.y * z.y):=hdd (by rw [IntKind.wrap_i64];omega);have rr3:Hi (IntKind.i64.wrap (u.x * v.y)=u.x * v.y):=hdd (by rw [IntKind.wrap_i64];omega);have rr4:Hi (IntKind.i64.wrap (v.x * u.y)=v.x * u.y):=hdd (by rw [IntKind.wrap_i64];omega);have rr5:Hi (IntKind.i64.wrap (u.x * v.y - v.x * u.y)=u.x * v.y - v.x * u.y):=hdd (by rw [IntKind.wrap_i64];omega);have qq0:=rr0.o;clear rr0;have qq1:=rr1.o;clear rr1;have qq2:=rr2.o;clear rr2;have qq3:=rr3.o;clear rr3;have qq4:=rr4.o;clear rr4;have qq5:=rr5.o;clear rr5;have ga:=Ba.cells;have gb:=Bb.cells;have gc:=Bc.cells;have gd:=Bd.cells;have gz:=Bz.cells;refine rgn 17 (λw10 hb=>?_);clear ga gb gc gd gz;obtain ⟨Ba,Bb,Bc,Bd,Bz,hw,-⟩:=qX5 Ba Bb Bc Bd Bz hw hb;clear qq0 qq1 qq2 qq3 qq4 qq5 a1 a2 a3 a4 a5 a6 a7 a8 a9 a10 a11 a12 g1 g2 g3 g4 g5 g6;have Fa:=Ba.f;have Fb:=Bb.f;have Fc:=Bc.f;have Fd:=Bd.f;have Fz:=Bz.f;go_wp2_with fail;refine zI λW11 hW=>?_;replace Ba:=sto Ba hW;replace Bb:=sto Bb hW;replace Bc:=sto Bc hW;replace Bd:=sto Bd hW;replace Bz:=sto Bz hW;replace hw:=stw hw hW;clear Fa Fb Fc Fd Fz;clear hW;refine qK5 (s3 _) Ba Bb Bc Bd Bz hw λw12 Ba Bb Bc Bd Bz hw=>?_;have Fa:=Ba.f;have Fb:=Bb.f;have Fc:=Bc.f;have Fd:=Bd.f;have Fz:=Bz.f;go_wp2_with fail;refine zI λW13 hW=>?_;obtain ⟨bkx,hbx⟩:∃ b,w12.heap.size=b:=⟨_,rfl⟩;rw [hbx];obtain ⟨lax,lbx,lcx,ldx,lzx,fx,Bx,Ba,Bb,Bc,Bd,Bz,hw⟩:=qM5 hW hbx Ba Bb Bc Bd Bz hw;clear hW hbx;have Fa:=Ba.f;have Fb:=Bb.f;have Fc:=Bc.f;have Fd:=Bd.f;have Fz:=Bz.f;have Fx:=Bx.f;have kc:=zV a d;have L1:Hi (lsr a d=if cmpP a d < 0 then a else d):=hdd rfl;generalize cmpP a d=k0 at *
 clear Fa Fb Fc Fd Fz Fx;refine qK6 (kc _) Ba Bb Bc Bd Bz Bx hw λw14 Ba Bb Bc Bd Bz Bx hw=>?_;by_cases hk0:k0 < 0
 ·have t2:decide (k0 < 0)=true:=by simpa using hk0
  have M0:lsr a d=a:=by rw [L1.o];exact JH hk0
  have N0:=hdd M0;clear M0 L1;have Fa:=Ba.f;have Fb:=Bb.f;have Fc:=Bc.f;have Fd:=Bd.f;have Fz:=Bz.f;have Fx:=Bx.f;go_wp2_with fail;refine zI λW15 hW=>?_;replace Ba:=sto Ba hW;replace Bb:=sto Bb hW;replace Bc:=sto Bc hW;replace Bd:=sto Bd hW;replace Bz:=sto Bz hW;replace Bx:=sto Bx hW;replace hw:=stw hw hW;clear Fa Fb Fc Fd Fz Fx;clear hW;have Fa:=Ba.f;have Fb:=Bb.f;have Fc:=Bc.f;have Fd:=Bd.f;have Fz:=Bz.f;have Fx:=Bx.f;have kc:=zV b a;have L1:Hi (lsr b a=if cmpP b a < 0 then b else a):=hdd rfl;generalize cmpP b a=k1 at *
  clear Fa Fb Fc Fd Fz Fx;refine qK6 (kc _) Ba Bb Bc Bd Bz Bx hw λw16 Ba Bb Bc Bd Bz Bx hw=>?_;by_cases hk1:k1 < 0
  ·have t3:decide (k1 < 0)=true:=by simpa using hk1
   have M1:lsr b a=b:=by rw [L1.o];exact JH hk1
   have N1:=hdd M1;clear M1 L1;have Fa:=Ba.f;have Fb:=Bb.f;have Fc:=Bc.f;have Fd:=Bd.f;have Fz:=Bz.f;have Fx:=Bx.f;go_wp2_with fail;refine zI λW17 hW=>?_;replace Ba:=sto Ba hW;replace Bb:=sto Bb hW;replace Bc:=sto Bc hW;replace Bd:=sto Bd hW;replace Bz:=sto Bz hW;replace Bx:=sto Bx hW;replace hw:=stw hw hW;clear Fa Fb Fc Fd Fz Fx;clear hW;have Fa:=Ba.f;have Fb:=Bb.f;have Fc:=Bc.f;have Fd:=Bd.f;have Fz:=Bz.f;have Fx:=Bx.f;have kc:=zV c b;have L1:Hi (lsr c b=if cmpP c b < 0 then c else b):=hdd rfl;generalize cmpP c b=k2 at *
   clear Fa Fb Fc Fd Fz Fx;refine qK6 (kc _) Ba Bb Bc Bd Bz Bx hw λw18 Ba Bb Bc Bd Bz Bx hw=>?_;by_cases hk2:k2 < 0
   ·have t4:decide (k2 < 0)=true:=by simpa using hk2
    have M2:lsr c b=c:=by rw [L1.o];exact JH hk2
    have N2:=hdd M2;clear M2 L1;have Fa:=Ba.f;have Fb:=Bb.f;have Fc:=Bc.f;have Fd:=Bd.f;have Fz:=Bz.f;have Fx:=Bx.f;go_wp2_with fail;refine zI λW19 hW=>?_;replace Ba:=sto Ba hW;replace Bb:=sto Bb hW;replace Bc:=sto Bc hW;replace Bd:=sto Bd hW;replace Bz:=sto Bz hW;replace Bx:=sto Bx hW;replace hw:=stw hw hW;clear Fa Fb Fc Fd Fz Fx;clear hW;have Fa:=Ba.f;have Fb:=Bb.f;have Fc:=Bc.f;have Fd:=Bd.f;have Fz:=Bz.f;have Fx:=Bx.f;have Fa:=Ba.f;have Fb:=Bb.f;have Fc:=Bc.f;have Fd:=Bd.f;have Fz:=Bz.f;have Fx:=Bx.f;have co2:=zH a b d;have bo2:=y6 a b d;have E:Hi (tie a b c d (lsr c (lsr b (lsr a d))) 1 = -ori a b d):=hdd (by rw [N0.o];rw [N1.o];rw [N2.o];simp [tie,f3,d2,d3]);generalize ori a b d=o2 at *
    go_wp2_with fail;clear Fa Fb Fc Fd Fz Fx;refine qK6 (co2 _) Ba Bb Bc Bd Bz Bx hw λw20 Ba Bb Bc Bd Bz Bx hw=>?_;go_wp2
    go_ret
    exact ⟨zi (by rw [E.o]),hw⟩
   ·have t4:decide (k2 < 0)=false:=by simpa using hk2
    have M2:lsr c b=b:=by rw [L1.o];exact J0 hk2
    have N2:=hdd M2;clear M2 L1;have Fa:=Ba.f;have Fb:=Bb.f;have Fc:=Bc.f;have Fd:=Bd.f;have Fz:=Bz.f;have Fx:=Bx.f;go_wp2_with fail;have Fa:=Ba.f;have Fb:=Bb.f;have Fc:=Bc.f;have Fd:=Bd.f;have Fz:=Bz.f;have Fx:=Bx.f;have co2:=zH a d c;have bo2:=y6 a d c;have E:Hi (tie a b c d (lsr c (lsr b (lsr a d))) 1 = -ori a d c):=hdd (by rw [N0.o];rw [N1.o];rw [N2.o];simp [tie,f2,d1,i2]);generalize ori a d c=o2 at *
    go_wp2_with fail;clear Fa Fb Fc Fd Fz Fx;refine qK6 (co2 _) Ba Bb Bc Bd Bz Bx hw λw19 Ba Bb Bc Bd Bz Bx hw=>?_;go_wp2
    go_ret
    exact ⟨zi (by rw [E.o]),hw⟩
  ·have t3:decide (k1 < 0)=false:=by simpa using hk1
   have M1:lsr b a=a:=by rw [L1.o];exact J0 hk1
   have N1:=hdd M1;clear M1 L1;have Fa:=Ba.f;have Fb:=Bb.f;have Fc:=Bc.f;have Fd:=Bd.f;have Fz:=Bz.f;have Fx:=Bx.f;go_wp2_with fail;have kc:=zV c a;have L1:Hi (lsr c a=if cmpP c a < 0 then c else a):=hdd rfl;generalize cmpP c a=k2 at *
   clear Fa Fb Fc Fd Fz Fx;refine qK6 (kc _) Ba Bb Bc Bd Bz Bx hw λw17 Ba Bb Bc Bd Bz Bx hw=>?_;by_cases hk2:k2 < 0
   ·have t4:decide (k2 < 0)=true:=by simpa using hk2
    have M2:lsr c a=c:=by rw [L1.o];exact JH hk2
    have N2:=hdd M2;clear M2 L1;have Fa:=Ba.f;have Fb:=Bb.f;have Fc:=Bc.f;have Fd:=Bd.f;have Fz:=Bz.f;have Fx:=Bx.f;go_wp2_with fail;refine zI λW18 hW=>?_;replace Ba:=sto Ba hW;replace Bb:=sto Bb hW;replace Bc:=sto Bc hW;replace Bd:=sto Bd hW;replace Bz:=sto Bz hW;replace Bx:=sto Bx hW;replace hw:=stw hw hW;clear Fa Fb Fc Fd Fz Fx;clear hW;have Fa:=Ba.f;have Fb:=Bb.f;have Fc:=Bc.f;have Fd:=Bd.f;have Fz:=Bz.f;have Fx:=Bx.f;have Fa:=Ba.f;have Fb:=Bb.f;have Fc:=Bc.f;have Fd:=Bd.f;have Fz:=Bz.f;have Fx:=Bx.f;have co2:=zH a b d;have bo2:=y6 a b d;have E:Hi (tie a b c d (lsr c (lsr b (lsr a d))) 1 = -ori a b d):=hdd (by rw [N0.o];rw [N1.o];rw [N2.o];simp [tie,f3,d2,d3]);generalize ori a b d=o2 at *
    go_wp2_with fail;clear Fa Fb Fc Fd Fz Fx;refine qK6 (co2 _) Ba Bb Bc Bd Bz Bx hw λw19 Ba Bb Bc Bd Bz Bx hw=>?_;go_wp2
    go_ret
    exact ⟨zi (by rw [E.o]),hw⟩
   ·have t4:decide (k2 < 0)=false:=by simpa using hk2
    have M2:lsr c a=a:=by rw [L1.o];exact J0 hk2
    have N2:=hdd M2;clear M2 L1;have Fa:=Ba.f;have Fb:=Bb.f;have Fc:=Bc.f;have Fd:=Bd.f;have Fz:=Bz.f;have Fx:=Bx.f;go_wp2_with fail;have Fa:=Ba.f;have Fb:=Bb.f;have Fc:=Bc.f;have Fd:=Bd.f;have Fz:=Bz.f;have Fx:=Bx.f;have co2:=zH d b c;have bo2:=y6 d b c;have E:Hi (tie a b c d (lsr c (lsr b (lsr a d))) 1 = -ori d b c):=hdd (by rw [N0.o];rw [N1.o];rw [N2.o];simp [tie,f1,i1]);generalize ori d b c=o2 at *
    go_wp2_with fail;clear Fa Fb Fc Fd Fz Fx;refine qK6 (co2 _) Ba Bb Bc Bd Bz Bx hw λw18 Ba Bb Bc Bd Bz Bx hw=>?_;go_wp2
    go_ret
    exact ⟨zi (by rw [E.o]),hw⟩
 ·have t2:decide (k0 < 0)=false:=by simpa using hk0
  have M0:lsr a d=d:=by rw [L1.o];exact J0 hk0
  have N0:=hdd M0;clear M0 L1;have Fa:=Ba.f;have Fb:=Bb.f;have Fc:=Bc.f;have Fd:=Bd.f;have Fz:=Bz.f;have Fx:=Bx.f;go_wp2_with fail;have kc:=zV b d;have L1:Hi (lsr b d=if cmpP b d < 0 then b else d):=hdd rfl;generalize cmpP b d=k1 at *
  clear Fa Fb Fc Fd Fz Fx;refine qK6 (kc _) Ba Bb Bc Bd Bz Bx hw λw15 Ba Bb Bc Bd Bz Bx hw=>?_;by_cases hk1:k1 < 0
  ·have t3:decide (k1 < 0)=true:=by simpa using hk1
   have M1:lsr b d=b:=by rw [L1.o];exact JH hk1
   have N1:=hdd M1;clear M1 L1;have Fa:=Ba.f;have Fb:=Bb.f;have Fc:=Bc.f;have Fd:=Bd.f;have Fz:=Bz.f;have Fx:=Bx.f;go_wp2_with fail;refine zI λW16 hW=>?_;replace Ba:=sto Ba hW;replace Bb:=sto Bb hW;replace Bc:=sto Bc hW;replace Bd:=sto Bd hW;replace Bz:=sto Bz hW;replace Bx:=sto Bx hW;replace hw:=stw hw hW;clear Fa Fb Fc Fd Fz Fx;clear hW;have Fa:=Ba.f;have Fb:=Bb.f;have Fc:=Bc.f;have Fd:=Bd.f;have Fz:=Bz.f;have Fx:=Bx.f;have kc:=zV c b;have L1:Hi (lsr c b=if cmpP c b < 0 then c else b):=hdd rfl;generalize cmpP c b=k2 at *
   clear Fa Fb Fc Fd Fz Fx;refine qK6 (kc _) Ba Bb Bc Bd Bz Bx hw λw17 Ba Bb Bc Bd Bz Bx hw=>?_;by_cases hk2:k2 < 0
   ·have t4:decide (k2 < 0)=true:=by simpa using hk2
    have M2:lsr c b=c:=by rw [L1.o];exact JH hk2
    have N2:=hdd M2;clear M2 L1;have Fa:=Ba.f;have Fb:=Bb.f;have Fc:=Bc.f;have Fd:=Bd.f;have Fz:=Bz.f;have Fx:=Bx.f;go_wp2_with fail;refine zI λW18 hW=>?_;replace Ba:=sto Ba hW;replace Bb:=sto Bb hW;replace Bc:=sto Bc hW;replace Bd:=sto Bd hW;replace Bz:=sto Bz hW;replace Bx:=sto Bx hW;replace hw:=stw hw hW;clear Fa Fb Fc Fd Fz Fx;clear hW;have Fa:=Ba.f;have Fb:=Bb.f;have Fc:=Bc.f;have Fd:=Bd.f;have Fz:=Bz.f;have Fx:=Bx.f;have Fa:=Ba.f;have Fb:=Bb.f;have Fc:=Bc.f;have Fd:=Bd.f;have Fz:=Bz.f;have Fx:=Bx.f;have co2:=zH a b d;have bo2:=y6 a b d;have E:Hi (tie a b c d (lsr c (lsr b (lsr a d))) 1 = -ori a b d):=hdd (by rw [N0.o];rw [N1.o];rw [N2.o];simp [tie,f3,d2,d3]);generalize ori a b d=o2 at *
    go_wp2_with fail;clear Fa Fb Fc Fd Fz Fx;refine qK6 (co2 _) Ba Bb Bc Bd Bz Bx hw λw19 Ba Bb Bc Bd Bz Bx hw=>?_;go_wp2
    go_ret
    exact ⟨zi (by rw [E.o]),hw⟩
   ·have t4:decide (k2 < 0)=false:=by simpa using hk2
    have M2:lsr c b=b:=by rw [L1.o];exact J0 hk2
    have N2:=hdd M2;clear M2 L1;have Fa:=Ba.f;have Fb:=Bb.f;have Fc:=Bc.f;have Fd:=Bd.f;have Fz:=Bz.f;have Fx:=Bx.f;go_wp2_with fail;have Fa:=Ba.f;have Fb:=Bb.f;have Fc:=Bc.f;have Fd:=Bd.f;have Fz:=Bz.f;have Fx:=Bx.f;have co2:=zH a d c;have bo2:=y6 a d c;have E:Hi (tie a b c d (lsr c (lsr b (lsr a d))) 1 = -ori a d c):=hdd (by rw [N0.o];rw [N1.o];rw [N2.o];simp [tie,f2,d1,i2]);generalize ori a d c=o2 at *
    go_wp2_with fail;clear Fa Fb Fc Fd Fz Fx;refine qK6 (co2 _) Ba Bb Bc Bd Bz Bx hw λw18 Ba Bb Bc Bd Bz Bx hw=>?_;go_wp2
    go_ret
    exact ⟨zi (by rw [E.o]),hw⟩
  ·have t3:decide (k1 < 0)=false:=by simpa using hk1
   have M1:lsr b d=d:=by rw [L1.o];exact J0 hk1
   have N1:=hdd M1;clear M1 L1;have Fa:=Ba.f;have Fb:=Bb.f;have Fc:=Bc.f;have Fd:=Bd.f;have Fz:=Bz.f;have Fx:=Bx.f;go_wp2_with fail;have kc:=zV c d;have L1:Hi (lsr c d=if cmpP c d < 0 then c else d):=hdd rfl;generalize cmpP c d=k2 at *
   clear Fa Fb Fc Fd Fz Fx;refine qK6 (kc _) Ba Bb Bc Bd Bz Bx hw λw16 Ba Bb Bc Bd Bz Bx hw=>?_;by_cases hk2:k2 < 0
   ·have t4:decide (k2 < 0)=true:=by simpa using hk2
    have M2:lsr c d=c:=by rw [L1.o];exact JH hk2
    have N2:=hdd M2;clear M2 L1;have Fa:=Ba.f;have Fb:=Bb.f;have Fc:=Bc.f;have Fd:=Bd.f;have Fz:=Bz.f;have Fx:=Bx.f;go_wp2_with fail;refine zI λW17 hW=>?_;replace Ba:=sto Ba hW;replace Bb:=sto Bb hW;replace Bc:=sto Bc hW;replace Bd:=sto Bd hW;replace Bz:=sto Bz hW;replace Bx:=sto Bx hW;replace hw:=stw hw hW;clear Fa Fb Fc Fd Fz Fx;clear hW;have Fa:=Ba.f;have Fb:=Bb.f;have Fc:=Bc.f;have Fd:=Bd.f;have Fz:=Bz.f;have Fx:=Bx.f;have Fa:=Ba.f;have Fb:=Bb.f;have Fc:=Bc.f;have Fd:=Bd.f;have Fz:=Bz.f;have Fx:=Bx.f;have co2:=zH a b d;have bo2:=y6 a b d;have E:Hi (tie a b c d (lsr c (lsr b (lsr a d))) 1 = -ori a b d):=hdd (by rw [N0.o];rw [N1.o];rw [N2.o];simp [tie,f3,d2,d3]);generalize ori a b d=o2 at *
    go_wp2_with fail;clear Fa Fb Fc Fd Fz Fx;refine qK6 (co2 _) Ba Bb Bc Bd Bz Bx hw λw18 Ba Bb Bc Bd Bz Bx hw=>?_;go_wp2
    go_ret
    exact ⟨zi (by rw [E.o]),hw⟩
   ·have t4:decide (k2 < 0)=false:=by simpa using hk2
    have M2:lsr c d=d:=by rw [L1.o];exact J0 hk2
    have N2:=hdd M2;clear M2 L1;have Fa:=Ba.f;have Fb:=Bb.f;have Fc:=Bc.f;have Fd:=Bd.f;have Fz:=Bz.f;have Fx:=Bx.f;go_wp2_with fail;have Fa:=Ba.f;have Fb:=Bb.f;have Fc:=Bc.f;have Fd:=Bd.f;have Fz:=Bz.f;have Fx:=Bx.f;have E:Hi (tie a b c d (lsr c (lsr b (lsr a d))) 1=1):=hdd (by rw [N0.o];rw [N1.o];rw [N2.o];simp [tie,i3]);go_wp2
    go_ret
    exact ⟨zi (by rw [E.o]),hw⟩
theorem vH (a b c d:Pt) (h:ori a b c=1) (w:World):Calls prog 134 #[a,b,c,d] w (Rt w (.int .i64 (circ a b c d))):=by
 have h0:¬ ori a b c=0:=by omega
 cases hv:vld d with
 | false=>rw [zc (.inr (.inl hv))];exact Zj a b c d h0 hv w
 | true=>cases e1:peqI d.x d.y a.x a.y with
  | true=>rw [zc (.inr (.inr (.inl (kE.1 e1))))];exact Zi a b c d h0 hv e1 w
  | false=>cases e2:peqI d.x d.y b.x b.y with
   | true=>rw [zc (.inr (.inr (.inr (.inl (kE.1 e2)))))];exact Zh a b c d h0 hv e1 e2 w
   | false=>cases e3:peqI d.x d.y c.x c.y with
    | true=>rw [zc (.inr (.inr (.inr (.inr (kE.1 e3)))))];exact Zg a b c d h0 hv e1 e2 e3 w
    | false=>
     rw [yx h0 hv (yM.1 e1) (yM.1 e2) (yM.1 e3)];by_cases hl:sgn (lft a b c d)=0
     ·rw [J0 (λk=>k hl),h];obtain ⟨va,vb,vc⟩:=yz h0;rw [<-min4_r va vb vc hv];exact rcircle_6 a b c d h hv e1 e2 e3 hl w
     ·rw [JH hl];exact rcircle_5 a b c d h hv e1 e2 e3 hl w
theorem rcircle_neg (a b c d:Pt) (h:ori a b c = -1) (hv:vld d) (e1:peqI d.x d.y a.x a.y=false) (e2:peqI d.x d.y b.x b.y=false) (e3:peqI d.x d.y c.x c.y=false) (w:World):Calls prog 134 #[a,b,c,d] w (Rt w (.int .i64 (-circ a c b d))):=by
 have co:=zH a b c;have cv:=z7 d;rw [hv] at cv;have hn:ori a c b=1:=by rw [kF,h];rfl
 have cc:=vH a c b d hn;rw [h] at co;have bc : -1<=circ a c b d/\circ a c b d<=1:=by
  have:=circ_sign (a:=a) (b:=c) (c:=b) (d:=d) (by omega) hv (yM.1 e1) (yM.1 e3) (yM.1 e2);omega
 generalize circ a c b d=K at *
 clear hv h hn
 go_enter func134,ntmps134
 go_wp2_with fail;refine qE4 λW1 Ba Bb Bc Bd hw=>?_;refine qC4 (co _) Ba Bb Bc Bd hw λw2 Ba Bb Bc Bd hw Fj=>?_;go_wp2_with fail;clear Fj;refine qC4 (cv _) Ba Bb Bc Bd hw λw3 Ba Bb Bc Bd hw Fj=>?_;go_wp2_with fail;clear Fj;refine qK4 (cc _) Ba Bb Bc Bd hw λw4 Ba Bb Bc Bd hw=>?_;go_wp2
 go_ret
 exact ⟨rfl,hw⟩
theorem qa (a b c d:Pt) (w:World):Calls prog 134 #[a,b,c,d] w (Rt w (.int .i64 (circ a b c d))):=by
 have hb:=y6 a b c;have h3:ori a b c=0\/ori a b c=1\/ori a b c = -1:=by omega
 rcases h3 with h | h | h
 ·rw [zc (.inl h)];exact rcircle_0 a b c d h w
 ·exact vH a b c d h w
 ·have h0:¬ ori a b c=0:=by omega
  cases hv:vld d with
  | false=>rw [zc (.inr (.inl hv))];exact Zj a b c d h0 hv w
  | true=>cases e1:peqI d.x d.y a.x a.y with
   | true=>rw [zc (.inr (.inr (.inl (kE.1 e1))))];exact Zi a b c d h0 hv e1 w
   | false=>cases e2:peqI d.x d.y b.x b.y with
    | true=>rw [zc (.inr (.inr (.inr (.inl (kE.1 e2)))))];exact Zh a b c d h0 hv e1 e2 w
    | false=>cases e3:peqI d.x d.y c.x c.y with
     | true=>rw [zc (.inr (.inr (.inr (.inr (kE.1 e3)))))];exact Zg a b c d h0 hv e1 e2 e3 w
     | false=>
      rw [show circ a b c d = -circ a c b d by rw [<-un a c b d,um b c a d,un a b c d];omega];exact rcircle_neg a b c d h hv e1 e2 e3 w
theorem Box.drew {w:World} {b:Nat} {cs:List Value} {T:TypeId} (h:Box w b cs T):Box w.drew b cs T:=h
theorem rmake_0 (a b c:Pt) (h0:ori a b c=0) (w:World):Calls prog 39 #[a,b,c] w (Rt w (.tuple #[.agg #[(),(),(),(),(),()],.bool false])):=by
 have co:=zH a b c;rw [h0] at co;clear h0
 go_enter func39,ntmps39
 go_wp2_with fail;refine qE4 λW1 Ba Bb Bc Br hw=>?_;refine qK4 (co _) Ba Bb Bc Br hw λw2 Ba Bb Bc Br hw=>?_;have Fa:=Ba.f;have Fb:=Bb.f;have Fc:=Bc.f;have Fr:=Br.f;go_wp2_with fail;refine bodyPost_ret (v:=.tuple #[.agg #[(),(),(),(),(),()],.bool false]) (by simp [results,results39,go_sem,Fr]) rfl ⟨rfl,by have hl:=hw.size;go_grown⟩
theorem rmake_p0 (a b c:Pt) (h0:ori a b c=1) (tba:decide (cmpP b a < 0)=false) (tca:decide (cmpP c a < 0)=false) (w:World):Calls prog 39 #[a,b,c] w (Rt w (.tuple #[.agg #[a.x,a.y,b.x,b.y,c.x,c.y],.bool true])):=by
 have co:=zH a b c;rw [h0] at co;clear h0;have kba:=zV b a;generalize cmpP b a=nba at *
 have kca:=zV c a;generalize cmpP c a=nca at *
 go_enter func39,ntmps39
 go_wp2_with fail;refine qE4 λW1 Ba Bb Bc Br hw=>?_;refine qK4 (co _) Ba Bb Bc Br hw λw2 Ba Bb Bc Br hw=>?_;have Fa:=Ba.f;have Fb:=Bb.f;have Fc:=Bc.f;have Fr:=Br.f;go_wp2_with fail;refine zG λW3 hW=>?_;subst hW;clear Fa Fb Fc Fr;refine wp_loop_rounds 4 ?_;try rw [rounds_succ]
 have FX:=J4 Ba.f Bb.f Bc.f Br.f;go_wp2_with fail;clear FX;refine qC4 (kba _) Ba Bb Bc Br hw λw4 Ba Bb Bc Br hw FX=>?_;go_wp2_with fail;clear FX;refine qK4 (kca _) Ba Bb Bc Br hw λw5 Ba Bb Bc Br hw=>?_;have Fa:=Ba.f;have Fb:=Bb.f;have Fc:=Bc.f;have Fr:=Br.f;go_wp2_with fail;refine bodyPost_ret (v:=.tuple #[.agg #[a.x,a.y,b.x,b.y,c.x,c.y],.bool true]) (by simp [results,results39,go_sem,Fr]) rfl ⟨rfl,by have hl:=hw.size;go_grown⟩
theorem rmake_p1 (a b c:Pt) (h0:ori a b c=1) (tba:decide (cmpP b a < 0)=true) (tcb:decide (cmpP c b < 0)=false) (tab:decide (cmpP a b < 0)=false) (w:World):Calls prog 39 #[a,b,c] w (Rt w (.tuple #[.agg #[b.x,b.y,c.x,c.y,a.x,a.y],.bool true])):=by
 have co:=zH a b c;rw [h0] at co;clear h0;have kba:=zV b a;generalize cmpP b a=nba at *
 have kcb:=zV c b;generalize cmpP c b=ncb at *
 have kab:=zV a b;generalize cmpP a b=nab at *
 go_enter func39,ntmps39
 go_wp2_with fail;refine qE4 λW1 Ba Bb Bc Br hw=>?_;refine qK4 (co _) Ba Bb Bc Br hw λw2 Ba Bb Bc Br hw=>?_;have Fa:=Ba.f;have Fb:=Bb.f;have Fc:=Bc.f;have Fr:=Br.f;go_wp2_with fail;refine zG λW3 hW=>?_;subst hW;clear Fa Fb Fc Fr;refine wp_loop_rounds 4 ?_;try rw [rounds_succ]
 have FX:=J4 Ba.f Bb.f Bc.f Br.f;go_wp2_with fail;clear FX;refine qK4 (kba _) Ba Bb Bc Br hw λw4 Ba Bb Bc Br hw=>?_;have Fa:=Ba.f;have Fb:=Bb.f;have Fc:=Bc.f;have Fr:=Br.f;go_wp2_with fail
 go_region
 go_wp2_with fail;refine zG λW5 hW=>?_;replace Ba:=sto Ba hW;replace Bb:=sto Bb hW;replace Bc:=sto Bc hW;replace Br:=sto Br hW;replace hw:=stw hw hW;clear Fa Fb Fc Fr;clear hW;try rw [rounds_succ]
 have FX:=J4 Ba.f Bb.f Bc.f Br.f;go_wp2_with fail;clear FX;refine qC4 (kcb _) Ba Bb Bc Br hw λw6 Ba Bb Bc Br hw FX=>?_;go_wp2_with fail;clear FX;refine qK4 (kab _) Ba Bb Bc Br hw λw7 Ba Bb Bc Br hw=>?_;have Fa:=Ba.f;have Fb:=Bb.f;have Fc:=Bc.f;have Fr:=Br.f;go_wp2_with fail;refine bodyPost_ret (v:=.tuple #[.agg #[b.x,b.y,c.x,c.y,a.x,a.y],.bool true]) (by simp [results,results39,go_sem,Fr]) rfl ⟨rfl,by have hl:=hw.size;go_grown⟩
theorem rmake_p2 (a b c:Pt) (h0:ori a b c=1) (tba:decide (cmpP b a < 0)=true) (tcb:decide (cmpP c b < 0)=true) (tac:decide (cmpP a c < 0)=false) (tbc:decide (cmpP b c < 0)=false) (w:World):Calls prog 39 #[a,b,c] w (Rt w (.tuple #[.agg #[c.x,c.y,a.x,a.y,b.x,b.y],.bool true])):=by
 have co:=zH a b c;rw [h0] at co;clear h0;have kba:=zV b a;generalize cmpP b a=nba at *
 have kcb:=zV c b;generalize cmpP c b=ncb at *
 have kac:=zV a c;generalize cmpP a c=nac at *
 have kbc:=zV b c;generalize cmpP b c=nbc at *
 go_enter func39,ntmps39
 go_wp2_with fail;refine qE4 λW1 Ba Bb Bc Br hw=>?_;refine qK4 (co _) Ba Bb Bc Br hw λw2 Ba Bb Bc Br hw=>?_;have Fa:=Ba.f;have Fb:=Bb.f;have Fc:=Bc.f;have Fr:=Br.f;go_wp2_with fail;refine zG λW3 hW=>?_;subst hW;clear Fa Fb Fc Fr;refine wp_loop_rounds 4 ?_;try rw [rounds_succ]
 have FX:=J4 Ba.f Bb.f Bc.f Br.f;go_wp2_with fail;clear FX;refine qK4 (kba _) Ba Bb Bc Br hw λw4 Ba Bb Bc Br hw=>?_;have Fa:=Ba.f;have Fb:=Bb.f;have Fc:=Bc.f;have Fr:=Br.f;go_wp2_with fail
 go_region
 go_wp2_with fail;refine zG λW5 hW=>?_;replace Ba:=sto Ba hW;replace Bb:=sto Bb hW;replace Bc:=sto Bc hW;replace Br:=sto Br hW;replace hw:=stw hw hW;clear Fa Fb Fc Fr;clear hW;try rw [rounds_succ]
 have FX:=J4 Ba.f Bb.f Bc.f Br.f;go_wp2_with fail;clear FX;refine qK4 (kcb _) Ba Bb Bc Br hw λw6 Ba Bb Bc Br hw=>?_;have Fa:=Ba.f;have Fb:=Bb.f;have Fc:=Bc.f;have Fr:=Br.f;go_wp2_with fail
 go_region
 go_wp2_with fail;refine zG λW7 hW=>?_;replace Ba:=sto Ba hW;replace Bb:=sto Bb hW;replace Bc:=sto Bc hW;replace Br:=sto Br hW;replace hw:=stw hw hW;clear Fa Fb Fc Fr;clear hW;try rw [rounds_succ]
 have FX:=J4 Ba.f Bb.f Bc.f Br.f;go_wp2_with fail;clear FX;refine qC4 (kac _) Ba Bb Bc Br hw λw8 Ba Bb Bc Br hw FX=>?_;go_wp2_with fail;clear FX;refine qK4 (kbc _) Ba Bb Bc Br hw λw9 Ba Bb Bc Br hw=>?_;have Fa:=Ba.f;have Fb:=Bb.f;have Fc:=Bc.f;have Fr:=Br.f;go_wp2_with fail;refine bodyPost_ret (v:=.tuple #[.agg #[c.x,c.y,a.x,a.y,b.x,b.y],.bool true]) (by simp [results,results39,go_sem,Fr]) rfl ⟨rfl,by have hl:=hw.size;go_grown⟩
theorem rmake_p3 (a b c:Pt) (h0:ori a b c=1) (tba:decide (cmpP b a < 0)=false) (tca:decide (cmpP c a < 0)=true) (tcb:decide (cmpP c b < 0)=true) (tac:decide (cmpP a c < 0)=false) (tbc:decide (cmpP b c < 0)=false) (w:World):Calls prog 39 #[a,b,c] w (Rt w (.tuple #[.agg #[c.x,c.y,a.x,a.y,b.x,b.y],.bool true])):=by
 have co:=zH a b c;rw [h0] at co;clear h0;have kba:=zV b a;generalize cmpP b a=nba at *
 have kca:=zV c a;generalize cmpP c a=nca at *
 have kcb:=zV c b;generalize cmpP c b=ncb at *
 have kac:=zV a c;generalize cmpP a c=nac at *
 have kbc:=zV b c;generalize cmpP b c=nbc at *
 go_enter func39,ntmps39
 go_wp2_with fail;refine qE4 λW1 Ba Bb Bc Br hw=>?_;refine qK4 (co _) Ba Bb Bc Br hw λw2 Ba Bb Bc Br hw=>?_;have Fa:=Ba.f;have Fb:=Bb.f;have Fc:=Bc.f;have Fr:=Br.f;go_wp2_with fail;refine zG λW3 hW=>?_;subst hW;clear Fa Fb Fc Fr;refine wp_loop_rounds 4 ?_;try rw [rounds_succ]
 have FX:=J4 Ba.f Bb.f Bc.f Br.f;go_wp2_with fail;clear FX;refine qC4 (kba _) Ba Bb Bc Br hw λw4 Ba Bb Bc Br hw FX=>?_;go_wp2_with fail;clear FX;refine qK4 (kca _) Ba Bb Bc Br hw λw5 Ba Bb Bc Br hw=>?_;have Fa:=Ba.f;have Fb:=Bb.f;have Fc:=Bc.f;have Fr:=Br.f;go_wp2_with fail
 go_region
 go_wp2_with fail;refine zG λW6 hW=>?_;replace Ba:=sto Ba hW;replace Bb:=sto Bb hW;replace Bc:=sto Bc hW;replace Br:=sto Br hW;replace hw:=stw hw hW;clear Fa Fb Fc Fr;clear hW;try rw [rounds_succ]
 have FX:=J4 Ba.f Bb.f Bc.f Br.f;go_wp2_with fail;clear FX;refine qK4 (kcb _) Ba Bb Bc Br hw λw7 Ba Bb Bc Br hw=>?_;have Fa:=Ba.f;have Fb:=Bb.f;have Fc:=Bc.f;have Fr:=Br.f;go_wp2_with fail
 go_region
 go_wp2_with fail;refine zG λW8 hW=>?_;replace Ba:=sto Ba hW;replace Bb:=sto Bb hW;replace Bc:=sto Bc hW;replace Br:=sto Br hW;replace hw:=stw hw hW;clear Fa Fb Fc Fr;clear hW;try rw [rounds_succ]
 have FX:=J4 Ba.f Bb.f Bc.f Br.f;go_wp2_with fail;clear FX;refine qC4 (kac _) Ba Bb Bc Br hw λw9 Ba Bb Bc Br hw FX=>?_;go_wp2_with fail;clear FX;refine qK4 (kbc _) Ba Bb Bc Br hw λw10 Ba Bb Bc Br hw=>?_;have Fa:=Ba.f;have Fb:=Bb.f;have Fc:=Bc.f;have Fr:=Br.f;go_wp2_with fail;refine bodyPost_ret (v:=.tuple #[.agg #[c.x,c.y,a.x,a.y,b.x,b.y],.bool true]) (by simp [results,results39,go_sem,Fr]) rfl ⟨rfl,by have hl:=hw.size;go_grown⟩
theorem rmake_n0 (a b c:Pt) (h0:ori a b c = -1) (tca:decide (cmpP c a < 0)=false) (tba:decide (cmpP b a < 0)=false) (w:World):Calls prog 39 #[a,b,c] w (Rt w (.tuple #[.agg #[a.x,a.y,c.x,c.y,b.x,b.y],.bool true])):=by
 have co:=zH a b c;rw [h0] at co;clear h0;have kca:=zV c a;generalize cmpP c a=nca at *
 have kba:=zV b a;generalize cmpP b a=nba at *
 go_enter func39,ntmps39
 go_wp2_with fail;refine qE4 λW1 Ba Bb Bc Br hw=>?_;refine qK4 (co _) Ba Bb Bc Br hw λw2 Ba Bb Bc Br hw=>?_;have Fa:=Ba.f;have Fb:=Bb.f;have Fc:=Bc.f;have Fr:=Br.f;go_wp2_with fail;refine zG λW3 hW=>?_;replace Ba:=sto Ba hW;replace Bb:=sto Bb hW;replace Bc:=sto Bc hW;replace Br:=sto Br hW;replace hw:=stw hw hW;clear Fa Fb Fc Fr;clear hW;refine wp_loop_rounds 4 ?_;try rw [rounds_succ]
 have FX:=J4 Ba.f Bb.f Bc.f Br.f;go_wp2_with fail;clear FX;refine qC4 (kca _) Ba Bb Bc Br hw λw4 Ba Bb Bc Br hw FX=>?_;go_wp2_with fail;clear FX;refine qK4 (kba _) Ba Bb Bc Br hw λw5 Ba Bb Bc Br hw=>?_;have Fa:=Ba.f;have Fb:=Bb.f;have Fc:=Bc.f;have Fr:=Br.f;go_wp2_with fail;refine bodyPost_ret (v:=.tuple #[.agg #[a.x,a.y,c.x,c.y,b.x,b.y],.bool true]) (by simp [results,results39,go_sem,Fr]) rfl ⟨rfl,by have hl:=hw.size;go_grown⟩
theorem rmake_n1 (a b c:Pt) (h0:ori a b c = -1) (tca:decide (cmpP c a < 0)=true) (tbc:decide (cmpP b c < 0)=false) (tac:decide (cmpP a c < 0)=false) (w:World):Calls prog 39 #[a,b,c] w (Rt w (.tuple #[.agg #[c.x,c.y,b.x,b.y,a.x,a.y],.bool true])):=by
 have co:=zH a b c;rw [h0] at co;clear h0;have kca:=zV c a;generalize cmpP c a=nca at *
 have kbc:=zV b c;generalize cmpP b c=nbc at *
 have kac:=zV a c;generalize cmpP a c=nac at *
 go_enter func39,ntmps39
 go_wp2_with fail;refine qE4 λW1 Ba Bb Bc Br hw=>?_;refine qK4 (co _) Ba Bb Bc Br hw λw2 Ba Bb Bc Br hw=>?_;have Fa:=Ba.f;have Fb:=Bb.f;have Fc:=Bc.f;have Fr:=Br.f;go_wp2_with fail;refine zG λW3 hW=>?_;replace Ba:=sto Ba hW;replace Bb:=sto Bb hW;replace Bc:=sto Bc hW;replace Br:=sto Br hW;replace hw:=stw hw hW;clear Fa Fb Fc Fr;clear hW;refine wp_loop_rounds 4 ?_;try rw [rounds_succ]
 have FX:=J4 Ba.f Bb.f Bc.f Br.f;go_wp2_with fail;clear FX;refine qK4 (kca _) Ba Bb Bc Br hw λw4 Ba Bb Bc Br hw=>?_;have Fa:=Ba.f;have Fb:=Bb.f;have Fc:=Bc.f;have Fr:=Br.f;go_wp2_with fail
 go_region
 go_wp2_with fail;refine zG λW5 hW=>?_;replace Ba:=sto Ba hW;replace Bb:=sto Bb hW;replace Bc:=sto Bc hW;replace Br:=sto Br hW;replace hw:=stw hw hW;clear Fa Fb Fc Fr;clear hW;try rw [rounds_succ]
 have FX:=J4 Ba.f Bb.f Bc.f Br.f;go_wp2_with fail;clear FX;refine qC4 (kbc _) Ba Bb Bc Br hw λw6 Ba Bb Bc Br hw FX=>?_;go_wp2_with fail;clear FX;refine qK4 (kac _) Ba Bb Bc Br hw λw7 Ba Bb Bc Br hw=>?_;have Fa:=Ba.f;have Fb:=Bb.f;have Fc:=Bc.f;have Fr:=Br.f;go_wp2_with fail;refine bodyPost_ret (v:=.tuple #[.agg #[c.x,c.y,b.x,b.y,a.x,a.y],.bool true]) (by simp [results,results39,go_sem,Fr]) rfl ⟨rfl,by have hl:=hw.size;go_grown⟩
theorem rmake_n2 (a b c:Pt) (h0:ori a b c = -1) (tca:decide (cmpP c a < 0)=true) (tbc:decide (cmpP b c < 0)=true) (tab:decide (cmpP a b < 0)=false) (tcb:decide (cmpP c b < 0)=false) (w:World):Calls prog 39 #[a,b,c] w (Rt w (.tuple #[.agg #[b.x,b.y,a.x,a.y,c.x,c.y],.bool true])):=by
 have co:=zH a b c;rw [h0] at co;clear h0;have kca:=zV c a;generalize cmpP c a=nca at *
 have kbc:=zV b c;generalize cmpP b c=nbc at *
 have kab:=zV a b;generalize cmpP a b=nab at *
 have kcb:=zV c b;generalize cmpP c b=ncb at *
 go_enter func39,ntmps39
 go_wp2_with fail;refine qE4 λW1 Ba Bb Bc Br hw=>?_;refine qK4 (co _) Ba Bb Bc Br hw λw2 Ba Bb Bc Br hw=>?_;have Fa:=Ba.f;have Fb:=Bb.f;have Fc:=Bc.f;have Fr:=Br.f;go_wp2_with fail;refine zG λW3 hW=>?_;replace Ba:=sto Ba hW;replace Bb:=sto Bb hW;replace Bc:=sto Bc hW;replace Br:=sto Br hW;replace hw:=stw hw hW;clear Fa Fb Fc Fr;clear hW;refine wp_loop_rounds 4 ?_;try rw [rounds_succ]
 have FX:=J4 Ba.f Bb.f Bc.f Br.f;go_wp2_with fail;clear FX;refine qK4 (kca _) Ba Bb Bc Br hw λw4 Ba Bb Bc Br hw=>?_;have Fa:=Ba.f;have Fb:=Bb.f;have Fc:=Bc.f;have Fr:=Br.f;go_wp2_with fail
 go_region
 go_wp2_with fail;refine zG λW5 hW=>?_;replace Ba:=sto Ba hW;replace Bb:=sto Bb hW;replace Bc:=sto Bc hW;replace Br:=sto Br hW;replace hw:=stw hw hW;clear Fa Fb Fc Fr;clear hW;try rw [rounds_succ]
 have FX:=J4 Ba.f Bb.f Bc.f Br.f;go_wp2_with fail;clear FX;refine qK4 (kbc _) Ba Bb Bc Br hw λw6 Ba Bb Bc Br hw=>?_;have Fa:=Ba.f;have Fb:=Bb.f;have Fc:=Bc.f;have Fr:=Br.f;go_wp2_with fail
 go_region
 go_wp2_with fail;refine zG λW7 hW=>?_;replace Ba:=sto Ba hW;replace Bb:=sto Bb hW;replace Bc:=sto Bc hW;replace Br:=sto Br hW;replace hw:=stw hw hW;clear Fa Fb Fc Fr;clear hW;try rw [rounds_succ]
 have FX:=J4 Ba.f Bb.f Bc.f Br.f;go_wp2_with fail;clear FX;refine qC4 (kab _) Ba Bb Bc Br hw λw8 Ba Bb Bc Br hw FX=>?_;go_wp2_with fail;clear FX;refine qK4 (kcb _) Ba Bb Bc Br hw λw9 Ba Bb Bc Br hw=>?_;have Fa:=Ba.f;have Fb:=Bb.f;have Fc:=Bc.f;have Fr:=Br.f;go_wp2_with fail;refine bodyPost_ret (v:=.tuple #[.agg #[b.x,b.y,a.x,a.y,c.x,c.y],.bool true]) (by simp [results,results39,go_sem,Fr]) rfl ⟨rfl,by have hl:=hw.size;go_grown⟩
theorem rmake_n3 (a b c:Pt) (h0:ori a b c = -1) (tca:decide (cmpP c a < 0)=false) (tba:decide (cmpP b a < 0)=true) (tbc:decide (cmpP b c < 0)=true) (tab:decide (cmpP a b < 0)=false) (tcb:decide (cmpP c b < 0)=false) (w:World):Calls prog 39 #[a,b,c] w (Rt w (.tuple #[.agg #[b.x,b.y,a.x,a.y,c.x,c.y],.bool true])):=by
 have co:=zH a b c;rw [h0] at co;clear h0;have kca:=zV c a;generalize cmpP c a=nca at *
 have kba:=zV b a;generalize cmpP b a=nba at *
 have kbc:=zV b c;generalize cmpP b c=nbc at *
 have kab:=zV a b;generalize cmpP a b=nab at *
 have kcb:=zV c b;generalize cmpP c b=ncb at *
 go_enter func39,ntmps39
 go_wp2_with fail;refine qE4 λW1 Ba Bb Bc Br hw=>?_;refine qK4 (co _) Ba Bb Bc Br hw λw2 Ba Bb Bc Br hw=>?_;have Fa:=Ba.f;have Fb:=Bb.f;have Fc:=Bc.f;have Fr:=Br.f;go_wp2_with fail;refine zG λW3 hW=>?_;replace Ba:=sto Ba hW;replace Bb:=sto Bb hW;replace Bc:=sto Bc hW;replace Br:=sto Br hW;replace hw:=stw hw hW;clear Fa Fb Fc Fr;clear hW;refine wp_loop_rounds 4 ?_;try rw [rounds_succ]
 have FX:=J4 Ba.f Bb.f Bc.f Br.f;go_wp2_with fail;clear FX;refine qC4 (kca _) Ba Bb Bc Br hw λw4 Ba Bb Bc Br hw FX=>?_;go_wp2_with fail;clear FX;refine qK4 (kba _) Ba Bb Bc Br hw λw5 Ba Bb Bc Br hw=>?_;have Fa:=Ba.f;have Fb:=Bb.f;have Fc:=Bc.f;have Fr:=Br.f;go_wp2_with fail
 go_region
 go_wp2_with fail;refine zG λW6 hW=>?_;replace Ba:=sto Ba hW;replace Bb:=sto Bb hW;replace Bc:=sto Bc hW;replace Br:=sto Br hW;replace hw:=stw hw hW;clear Fa Fb Fc Fr;clear hW;try rw [rounds_succ]
 have FX:=J4 Ba.f Bb.f Bc.f Br.f;go_wp2_with fail;clear FX;refine qK4 (kbc _) Ba Bb Bc Br hw λw7 Ba Bb Bc Br hw=>?_;have Fa:=Ba.f;have Fb:=Bb.f;have Fc:=Bc.f;have Fr:=Br.f;go_wp2_with fail
 go_region
 go_wp2_with fail;refine zG λW8 hW=>?_;replace Ba:=sto Ba hW;replace Bb:=sto Bb hW;replace Bc:=sto Bc hW;replace Br:=sto Br hW;replace hw:=stw hw hW;clear Fa Fb Fc Fr;clear hW;try rw [rounds_succ]
 have FX:=J4 Ba.f Bb.f Bc.f Br.f;go_wp2_with fail;clear FX;refine qC4 (kab _) Ba Bb Bc Br hw λw9 Ba Bb Bc Br hw FX=>?_;go_wp2_with fail;clear FX;refine qK4 (kcb _) Ba Bb Bc Br hw λw10 Ba Bb Bc Br hw=>?_;have Fa:=Ba.f;have Fb:=Bb.f;have Fc:=Bc.f;have Fr:=Br.f;go_wp2_with fail;refine bodyPost_ret (v:=.tuple #[.agg #[b.x,b.y,a.x,a.y,c.x,c.y],.bool true]) (by simp [results,results39,go_sem,Fr]) rfl ⟨rfl,by have hl:=hw.size;go_grown⟩
section
def mx4 (x y z v:Int):Int:=max (max (max x y) z) v
theorem run_max4 {P:Program} {w:World} (ts:Array TypeId) (t:TypeId) (k k' k'' k3:IntKind) (x y z v:Int):(Builtin.max_ ts t #[.int k x,.int k' y,.int k'' z,.int k3 v]).run P w=.ok (.int k (mx4 x y z v)) w:=by
 have e:∀ p q:Int,(if p < q then q else p)=max p q:=λp q=>by split <;> omega
 simp [Builtin.max_,Builtin.max2,mx4,go_sem,e]
attribute [local go_sem] run_max4
def lap (a b c d:Pt):Int:=if cmpP (rg (rl a b) (rl c d)) (rl (rg a b) (rg c d)) < 0 then 3 else 0
def meetR (a b c d:Pt):Int:=
 if vld a=false then 0 else if vld b=false then 0 else if vld c=false then 0 else if vld d=false then 0 else if peqI a.x a.y b.x b.y=true then 0 else if peqI c.x c.y d.x d.y=true then 0
 else if ori a b c=0/\ori a b d=0 then lap a b c d
 else if ori a b c * ori a b d < 0/\ori c d a * ori c d b < 0 then 1
 else mx4 (tch a c d) (tch b c d) (tch c a b) (tch d a b)
theorem tch_bd (p a b:Pt):0<=tch p a b/\tch p a b<=2:=by unfold tch;(repeat' split) <;> omega
theorem rmeet_v0 (a b c d:Pt) (ha:vld a=false) (w:World):Calls prog 140 #[a,b,c,d] w (Rt w (.int .i64 0)):=by
 have ca:=z7 a;rw [ha] at ca;clear ha
 go_enter func140,ntmps140
 go_wp2_with fail;refine qE4 λW1 Ba Bb Bc Bd hw=>?_;refine qC4 (ca _) Ba Bb Bc Bd hw λw2 Ba Bb Bc Bd hw Fj=>?_;go_wp2
 go_ret
 exact ⟨rfl,hw⟩
theorem rmeet_v1 (a b c d:Pt) (ha:vld a) (hb:vld b=false) (w:World):Calls prog 140 #[a,b,c,d] w (Rt w (.int .i64 0)):=by
 have ca:=z7 a;rw [ha] at ca;clear ha;have cb:=z7 b;rw [hb] at cb;clear hb
 go_enter func140,ntmps140
 go_wp2_with fail;refine qE4 λW1 Ba Bb Bc Bd hw=>?_;refine qC4 (ca _) Ba Bb Bc Bd hw λw2 Ba Bb Bc Bd hw Fj=>?_;go_wp2_with fail;clear Fj;refine qC4 (cb _) Ba Bb Bc Bd hw λw3 Ba Bb Bc Bd hw Fj=>?_;go_wp2
 go_ret
 exact ⟨rfl,hw⟩
theorem rmeet_v2 (a b c d:Pt) (ha:vld a) (hb:vld b) (hc:vld c=false) (w:World):Calls prog 140 #[a,b,c,d] w (Rt w (.int .i64 0)):=by
 have ca:=z7 a;rw [ha] at ca;clear ha;have cb:=z7 b;rw [hb] at cb;clear hb;have cc:=z7 c;rw [hc] at cc;clear hc
 go_enter func140,ntmps140
 go_wp2_with fail;refine qE4 λW1 Ba Bb Bc Bd hw=>?_;refine qC4 (ca _) Ba Bb Bc Bd hw λw2 Ba Bb Bc Bd hw Fj=>?_;go_wp2_with fail;clear Fj;refine qC4 (cb _) Ba Bb Bc Bd hw λw3 Ba Bb Bc Bd hw Fj=>?_;go_wp2_with fail;clear Fj;refine qC4 (cc _) Ba Bb Bc Bd hw λw4 Ba Bb Bc Bd hw Fj=>?_;go_wp2
 go_ret
 exact ⟨rfl,hw⟩
theorem rmeet_v3 (a b c d:Pt) (ha:vld a) (hb:vld b) (hc:vld c) (hd:vld d=false) (w:World):Calls prog 140 #[a,b,c,d] w (Rt w (.int .i64 0)):=by
 have ca:=z7 a;rw [ha] at ca;clear ha;have cb:=z7 b;rw [hb] at cb;clear hb;have cc:=z7 c;rw [hc] at cc;clear hc;have cd:=z7 d;rw [hd] at cd;clear hd
 go_enter func140,ntmps140
 go_wp2_with fail;refine qE4 λW1 Ba Bb Bc Bd hw=>?_;refine qC4 (ca _) Ba Bb Bc Bd hw λw2 Ba Bb Bc Bd hw Fj=>?_;go_wp2_with fail;clear Fj;refine qC4 (cb _) Ba Bb Bc Bd hw λw3 Ba Bb Bc Bd hw Fj=>?_;go_wp2_with fail;clear Fj;refine qC4 (cc _) Ba Bb Bc Bd hw λw4 Ba Bb Bc Bd hw Fj=>?_;go_wp2_with fail;clear Fj;refine qC4 (cd _) Ba Bb Bc Bd hw λw5 Ba Bb Bc Bd hw Fj=>?_;go_wp2
 go_ret
 exact ⟨rfl,hw⟩
theorem rmeet_e1 (a b c d:Pt) (ha:vld a) (hb:vld b) (hc:vld c) (hd:vld d) (e1:peqI a.x a.y b.x b.y) (w:World):Calls prog 140 #[a,b,c,d] w (Rt w (.int .i64 0)):=by
 have ca:=z7 a;rw [ha] at ca;clear ha;have cb:=z7 b;rw [hb] at cb;clear hb;have cc:=z7 c;rw [hc] at cc;clear hc;have cd:=z7 d;rw [hd] at cd;clear hd
 go_enter func140,ntmps140
 go_wp2_with fail;refine qE4 λW1 Ba Bb Bc Bd hw=>?_;refine qC4 (ca _) Ba Bb Bc Bd hw λw2 Ba Bb Bc Bd hw Fj=>?_;go_wp2_with fail;clear Fj;refine qC4 (cb _) Ba Bb Bc Bd hw λw3 Ba Bb Bc Bd hw Fj=>?_;go_wp2_with fail;clear Fj;refine qC4 (cc _) Ba Bb Bc Bd hw λw4 Ba Bb Bc Bd hw Fj=>?_;go_wp2_with fail;clear Fj;refine qC4 (cd _) Ba Bb Bc Bd hw λw5 Ba Bb Bc Bd hw Fj=>?_;go_wp2
 go_ret
 exact ⟨rfl,hw⟩
theorem rmeet_e2 (a b c d:Pt) (ha:vld a) (hb:vld b) (hc:vld c) (hd:vld d) (e1:peqI a.x a.y b.x b.y=false) (e2:peqI c.x c.y d.x d.y) (w:World):Calls prog 140 #[a,b,c,d] w (Rt w (.int .i64 0)):=by
 have ca:=z7 a;rw [ha] at ca;clear ha;have cb:=z7 b;rw [hb] at cb;clear hb;have cc:=z7 c;rw [hc] at cc;clear hc;have cd:=z7 d;rw [hd] at cd;clear hd
 go_enter func140,ntmps140
 go_wp2_with fail;refine qE4 λW1 Ba Bb Bc Bd hw=>?_;refine qC4 (ca _) Ba Bb Bc Bd hw λw2 Ba Bb Bc Bd hw Fj=>?_;go_wp2_with fail;clear Fj;refine qC4 (cb _) Ba Bb Bc Bd hw λw3 Ba Bb Bc Bd hw Fj=>?_;go_wp2_with fail;clear Fj;refine qC4 (cc _) Ba Bb Bc Bd hw λw4 Ba Bb Bc Bd hw Fj=>?_;go_wp2_with fail;clear Fj;refine qC4 (cd _) Ba Bb Bc Bd hw λw5 Ba Bb Bc Bd hw Fj=>?_;go_wp2
 go_ret
 exact ⟨rfl,hw⟩
theorem rmeet_l0 (a b c d:Pt) (ha:vld a) (hb:vld b) (hc:vld c) (hd:vld d) (e1:peqI a.x a.y b.x b.y=false) (e2:peqI c.x c.y d.x d.y=false) (z1:ori a b c=0) (z2:ori a b d=0) (hk:decide (cmpP (rg (rl a b) (rl c d)) (rl (rg a b) (rg c d)) < 0)=false) (w:World):Calls prog 140 #[a,b,c,d] w (Rt w (.int .i64 0)):=by
 have ca:=z7 a;rw [ha] at ca;clear ha;have cb:=z7 b;rw [hb] at cb;clear hb;have cc:=z7 c;rw [hc] at cc;clear hc;have cd:=z7 d;rw [hd] at cd;clear hd;have o1:=zH a b c;have o2:=zH a b d;have o3:=zH c d a;have o4:=zH c d b;rw [z1] at o1;rw [z2] at o2;clear z1 z2;have l1:=ju a b;have l2:=ju c d;have l3:=jv (rl a b) (rl c d);have l4:=jv a b;have l5:=jv c d;have l6:=ju (rg a b) (rg c d);have kc:=zV (rg (rl a b) (rl c d)) (rl (rg a b) (rg c d));generalize cmpP (rg (rl a b) (rl c d)) (rl (rg a b) (rg c d))=K at *
 generalize rg (rl a b) (rl c d)=lo at *
 generalize rl (rg a b) (rg c d)=hi at *
 generalize rl a b=q1 at *
 generalize rl c d=q2 at *
 generalize rg a b=q3 at *
 generalize rg c d=q4 at *
 generalize ori c d a=A at *
 generalize ori c d b=B at *
 go_enter func140,ntmps140
 go_wp2_with fail;refine qE4 λW1 Ba Bb Bc Bd hw=>?_;refine qC4 (ca _) Ba Bb Bc Bd hw λw2 Ba Bb Bc Bd hw Fj=>?_;go_wp2_with fail;clear Fj;refine qC4 (cb _) Ba Bb Bc Bd hw λw3 Ba Bb Bc Bd hw Fj=>?_;go_wp2_with fail;clear Fj;refine qC4 (cc _) Ba Bb Bc Bd hw λw4 Ba Bb Bc Bd hw Fj=>?_;go_wp2_with fail;clear Fj;refine qC4 (cd _) Ba Bb Bc Bd hw λw5 Ba Bb Bc Bd hw Fj=>?_;go_wp2;refine zG λW6 hW=>?_;subst hW;clear Fj;have FK:=J4 Ba.cells Bb.cells Bc.cells Bd.cells;refine rgn 16 (λw7 hb=>?_);clear FK;obtain ⟨Ba,Bb,Bc,Bd,hw,Fj⟩:=qX4 Ba Bb Bc Bd hw hb;go_wp2;refine zG λW8 hW=>?_;subst hW;clear Fj;have FK:=J4 Ba.cells Bb.cells Bc.cells Bd.cells;refine zn 16 [⟨14,13,34,[(),()]⟩,⟨15,14,34,[(),()]⟩] ?_ (by kernel_rfl) (by decide) (by decide) (by kernel_rfl) (by decide) (C:=λw'=>∃ p:Regrown,w'=grow (redrawn W8 p.d) p.os) rgB ?_
 ·simp only [QT];refine ⟨⟨_,rfl,rfl,rfl,rfl,λρ W=>by simp [execOp,go_sem]⟩,⟨_,rfl,rfl,rfl,rfl,λρ W=>by simp [execOp,go_sem]⟩,λ_ h=>(by cases h)⟩
 simp only [Q5,Qd,Jm,Qw,dropIdx,Qe,Qj,Nat.reduceBEq,Nat.reduceAdd,V6,VF,VG,QA,VZ,VT];refine wkx ?_;intro w9 β hL;simp only [putD,QY,QZ];have ql:=hL.box ⟨14,13,34,[(),()]⟩ (by simp) (by simp);simp only at ql;have qh:=hL.box ⟨15,14,34,[(),()]⟩ (by simp) (by simp);simp only at qh;have nlh:=hL.apart 13 (by simp) 14 (by simp) (by decide);have nhl:=hL.apart 14 (by simp) 13 (by simp) (by decide);have hb:=hL.below;have la:=Ba.lt;have lb:=Bb.lt;have lc:=Bc.lt;have ld:=Bd.lt;clear FK;replace Ba:=Ba.ee hb;replace Bb:=Bb.ee hb;replace Bc:=Bc.ee hb;replace Bd:=Bd.ee hb;have hw0:=hw.size;replace hw:=upB hw hb;clear hb hL;generalize β 13=bkl at *
 generalize β 14=bkh at *
 clear β;obtain ⟨fl,Bl⟩:=ql;obtain ⟨fh,Bh⟩:=qh;simp only [Act.put];have Hw:=J2 Bl.f Bh.f;go_wp2_with fail;refine zI λW10 hW=>?_;replace Ba:=sto Ba hW;replace Bb:=sto Bb hW;replace Bc:=sto Bc hW;replace Bd:=sto Bd hW;replace Bl:=sto Bl hW;replace Bh:=sto Bh hW;replace hw:=stw hw hW;clear Hw;clear hW;refine qK6 (kc _) Ba Bb Bc Bd Bl Bh hw λw11 Ba Bb Bc Bd Bl Bh hw=>?_;go_wp2
 go_ret
 exact ⟨rfl,hw⟩
theorem rmeet_l1 (a b c d:Pt) (ha:vld a) (hb:vld b) (hc:vld c) (hd:vld d) (e1:peqI a.x a.y b.x b.y=false) (e2:peqI c.x c.y d.x d.y=false) (z1:ori a b c=0) (z2:ori a b d=0) (hk:decide (cmpP (rg (rl a b) (rl c d)) (rl (rg a b) (rg c d)) < 0)=true) (w:World):Calls prog 140 #[a,b,c,d] w (Rt w (.int .i64 3)):=by
 have ca:=z7 a;rw [ha] at ca;clear ha;have cb:=z7 b;rw [hb] at cb;clear hb;have cc:=z7 c;rw [hc] at cc;clear hc;have cd:=z7 d;rw [hd] at cd;clear hd;have o1:=zH a b c;have o2:=zH a b d;have o3:=zH c d a;have o4:=zH c d b;rw [z1] at o1;rw [z2] at o2;clear z1 z2;have l1:=ju a b;have l2:=ju c d;have l3:=jv (rl a b) (rl c d);have l4:=jv a b;have l5:=jv c d;have l6:=ju (rg a b) (rg c d);have kc:=zV (rg (rl a b) (rl c d)) (rl (rg a b) (rg c d));generalize cmpP (rg (rl a b) (rl c d)) (rl (rg a b) (rg c d))=K at *
 generalize rg (rl a b) (rl c d)=lo at *
 generalize rl (rg a b) (rg c d)=hi at *
 generalize rl a b=q1 at *
 generalize rl c d=q2 at *
 generalize rg a b=q3 at *
 generalize rg c d=q4 at *
 generalize ori c d a=A at *
 generalize ori c d b=B at *
 go_enter func140,ntmps140
 go_wp2_with fail;refine qE4 λW1 Ba Bb Bc Bd hw=>?_;refine qC4 (ca _) Ba Bb Bc Bd hw λw2 Ba Bb Bc Bd hw Fj=>?_;go_wp2_with fail;clear Fj;refine qC4 (cb _) Ba Bb Bc Bd hw λw3 Ba Bb Bc Bd hw Fj=>?_;go_wp2_with fail;clear Fj;refine qC4 (cc _) Ba Bb Bc Bd hw λw4 Ba Bb Bc Bd hw Fj=>?_;go_wp2_with fail;clear Fj;refine qC4 (cd _) Ba Bb Bc Bd hw λw5 Ba Bb Bc Bd hw Fj=>?_;go_wp2;refine zG λW6 hW=>?_;subst hW;clear Fj;have FK:=J4 Ba.cells Bb.cells Bc.cells Bd.cells;refine rgn 16 (λw7 hb=>?_);clear FK;obtain ⟨Ba,Bb,Bc,Bd,hw,Fj⟩:=qX4 Ba Bb Bc Bd hw hb;go_wp2;refine zG λW8 hW=>?_;subst hW;clear Fj;have FK:=J4 Ba.cells Bb.cells Bc.cells Bd.cells;refine zn 16 [⟨14,13,34,[(),()]⟩,⟨15,14,34,[(),()]⟩] ?_ (by kernel_rfl) (by decide) (by decide) (by kernel_rfl) (by decide) (C:=λw'=>∃ p:Regrown,w'=grow (redrawn W8 p.d) p.os) rgB ?_
 ·simp only [QT];refine ⟨⟨_,rfl,rfl,rfl,rfl,λρ W=>by simp [execOp,go_sem]⟩,⟨_,rfl,rfl,rfl,rfl,λρ W=>by simp [execOp,go_sem]⟩,λ_ h=>(by cases h)⟩
 simp only [Q5,Qd,Jm,Qw,dropIdx,Qe,Qj,Nat.reduceBEq,Nat.reduceAdd,V6,VF,VG,QA,VZ,VT];refine wkx ?_;intro w9 β hL;simp only [putD,QY,QZ];have ql:=hL.box ⟨14,13,34,[(),()]⟩ (by simp) (by simp);simp only at ql;have qh:=hL.box ⟨15,14,34,[(),()]⟩ (by simp) (by simp);simp only at qh;have nlh:=hL.apart 13 (by simp) 14 (by simp) (by decide);have nhl:=hL.apart 14 (by simp) 13 (by simp) (by decide);have hb:=hL.below;have la:=Ba.lt;have lb:=Bb.lt;have lc:=Bc.lt;have ld:=Bd.lt;clear FK;replace Ba:=Ba.ee hb;replace Bb:=Bb.ee hb;replace Bc:=Bc.ee hb;replace Bd:=Bd.ee hb;have hw0:=hw.size;replace hw:=upB hw hb;clear hb hL;generalize β 13=bkl at *
 generalize β 14=bkh at *
 clear β;obtain ⟨fl,Bl⟩:=ql;obtain ⟨fh,Bh⟩:=qh;simp only [Act.put];have Hw:=J2 Bl.f Bh.f;go_wp2_with fail;refine zI λW10 hW=>?_;replace Ba:=sto Ba hW;replace Bb:=sto Bb hW;replace Bc:=sto Bc hW;replace Bd:=sto Bd hW;replace Bl:=sto Bl hW;replace Bh:=sto Bh hW;replace hw:=stw hw hW;clear Hw;clear hW;refine qK6 (kc _) Ba Bb Bc Bd Bl Bh hw λw11 Ba Bb Bc Bd Bl Bh hw=>?_;go_wp2
 go_ret
 exact ⟨rfl,hw⟩
theorem rmeet_x (a b c d:Pt) (ha:vld a) (hb:vld b) (hc:vld c) (hd:vld d) (e1:peqI a.x a.y b.x b.y=false) (e2:peqI c.x c.y d.x d.y=false) (z1:¬ ori a b c=0) (x1:ori a b c * ori a b d < 0) (x2:ori c d a * ori c d b < 0) (w:World):Calls prog 140 #[a,b,c,d] w (Rt w (.int .i64 1)):=by
 have ca:=z7 a;rw [ha] at ca;clear ha;have cb:=z7 b;rw [hb] at cb;clear hb;have cc:=z7 c;rw [hc] at cc;clear hc;have cd:=z7 d;rw [hd] at cd;clear hd;have o1:=zH a b c;have o2:=zH a b d;have o3:=zH c d a;have o4:=zH c d b;have sC:=y6 a b c;have sD:=y6 a b d;have sA:=y6 c d a;have sB:=y6 c d b;have m1:=kz sC sD;have m2:=kz sA sB;generalize ori a b c=C at *
 generalize ori a b d=D at *
 generalize ori c d a=A at *
 generalize ori c d b=B at *
 have t1:(C == 0)=false:=by simpa using z1
 clear z1;have k1:decide (C * D < 0)=true:=by simpa using x1
 have k2:decide (A * B < 0)=true:=by simpa using x2
 clear x1 x2
 go_enter func140,ntmps140
 go_wp2_with fail;refine qE4 λW1 Ba Bb Bc Bd hw=>?_;refine qC4 (ca _) Ba Bb Bc Bd hw λw2 Ba Bb Bc Bd hw Fj=>?_;go_wp2_with fail;clear Fj;refine qC4 (cb _) Ba Bb Bc Bd hw λw3 Ba Bb Bc Bd hw Fj=>?_;go_wp2_with fail;clear Fj;refine qC4 (cc _) Ba Bb Bc Bd hw λw4 Ba Bb Bc Bd hw Fj=>?_;go_wp2_with fail;clear Fj;refine qC4 (cd _) Ba Bb Bc Bd hw λw5 Ba Bb Bc Bd hw Fj=>?_;go_wp2;refine zG λW6 hW=>?_;subst hW;clear Fj;have FK:=J4 Ba.cells Bb.cells Bc.cells Bd.cells;refine rgn 16 (λw7 hb=>?_);clear FK;obtain ⟨Ba,Bb,Bc,Bd,hw,Fj⟩:=qX4 Ba Bb Bc Bd hw hb;go_wp2
 go_ret
 exact ⟨rfl,hw⟩
theorem rmeet_t1 (a b c d:Pt) (ha:vld a) (hb:vld b) (hc:vld c) (hd:vld d) (e1:peqI a.x a.y b.x b.y=false) (e2:peqI c.x c.y d.x d.y=false) (z1:¬ ori a b c=0) (x1:¬ ori a b c * ori a b d < 0) (w:World):Calls prog 140 #[a,b,c,d] w (Rt w (.int .i64 (mx4 (tch a c d) (tch b c d) (tch c a b) (tch d a b)))):=by
 have ca:=z7 a;rw [ha] at ca;clear ha;have cb:=z7 b;rw [hb] at cb;clear hb;have cc:=z7 c;rw [hc] at cc;clear hc;have cd:=z7 d;rw [hd] at cd;clear hd;have o1:=zH a b c;have o2:=zH a b d;have o3:=zH c d a;have o4:=zH c d b;have sC:=y6 a b c;have sD:=y6 a b d;have sA:=y6 c d a;have sB:=y6 c d b;have m1:=kz sC sD;have m2:=kz sA sB;generalize ori a b c=C at *
 generalize ori a b d=D at *
 generalize ori c d a=A at *
 generalize ori c d b=B at *
 have t1:(C == 0)=false:=by simpa using z1
 clear z1;have k1:decide (C * D < 0)=false:=by simpa using x1
 clear x1;have u1:=xy a c d;have u2:=xy b c d;have u3:=xy c a b;have u4:=xy d a b;generalize tch a c d=T1 at *
 generalize tch b c d=T2 at *
 generalize tch c a b=T3 at *
 generalize tch d a b=T4 at *
 go_enter func140,ntmps140
 go_wp2_with fail;refine qE4 λW1 Ba Bb Bc Bd hw=>?_;refine qC4 (ca _) Ba Bb Bc Bd hw λw2 Ba Bb Bc Bd hw Fj=>?_;go_wp2_with fail;clear Fj;refine qC4 (cb _) Ba Bb Bc Bd hw λw3 Ba Bb Bc Bd hw Fj=>?_;go_wp2_with fail;clear Fj;refine qC4 (cc _) Ba Bb Bc Bd hw λw4 Ba Bb Bc Bd hw Fj=>?_;go_wp2_with fail;clear Fj;refine qC4 (cd _) Ba Bb Bc Bd hw λw5 Ba Bb Bc Bd hw Fj=>?_;go_wp2;refine zG λW6 hW=>?_;subst hW;clear Fj;have FK:=J4 Ba.cells Bb.cells Bc.cells Bd.cells;refine rgn 16 (λw7 hb=>?_);clear FK;obtain ⟨Ba,Bb,Bc,Bd,hw,Fj⟩:=qX4 Ba Bb Bc Bd hw hb;go_wp2;refine zG λW8 hW=>?_;subst hW;clear Fj;have FK:=J4 Ba.cells Bb.cells Bc.cells Bd.cells;refine rgn 16 (λw9 hb=>?_);clear FK;obtain ⟨Ba,Bb,Bc,Bd,hw,-⟩:=qX4 Ba Bb Bc Bd hw hb;go_wp2;all_goals go_ret
 all_goals exact ⟨rfl,hw⟩
theorem rmeet_t2 (a b c d:Pt) (ha:vld a) (hb:vld b) (hc:vld c) (hd:vld d) (e1:peqI a.x a.y b.x b.y=false) (e2:peqI c.x c.y d.x d.y=false) (z1:¬ ori a b c=0) (x1:ori a b c * ori a b d < 0) (x2:¬ ori c d a * ori c d b < 0) (w:World):Calls prog 140 #[a,b,c,d] w (Rt w (.int .i64 (mx4 (tch a c d) (tch b c d) (tch c a b) (tch d a b)))):=by
 have ca:=z7 a;rw [ha] at ca;clear ha;have cb:=z7 b;rw [hb] at cb;clear hb;have cc:=z7 c;rw [hc] at cc;clear hc;have cd:=z7 d;rw [hd] at cd;clear hd;have o1:=zH a b c;have o2:=zH a b d;have o3:=zH c d a;have o4:=zH c d b;have sC:=y6 a b c;have sD:=y6 a b d;have sA:=y6 c d a;have sB:=y6 c d b;have m1:=kz sC sD;have m2:=kz sA sB;generalize ori a b c=C at *
 generalize ori a b d=D at *
 generalize ori c d a=A at *
 generalize ori c d b=B at *
 have t1:(C == 0)=false:=by simpa using z1
 clear z1;have k1:decide (C * D < 0)=true:=by simpa using x1
 have k2:decide (A * B < 0)=false:=by simpa using x2
 clear x1 x2;have u1:=xy a c d;have u2:=xy b c d;have u3:=xy c a b;have u4:=xy d a b;generalize tch a c d=T1 at *
 generalize tch b c d=T2 at *
 generalize tch c a b=T3 at *
 generalize tch d a b=T4 at *
 go_enter func140,ntmps140
 go_wp2_with fail;refine qE4 λW1 Ba Bb Bc Bd hw=>?_;refine qC4 (ca _) Ba Bb Bc Bd hw λw2 Ba Bb Bc Bd hw Fj=>?_;go_wp2_with fail;clear Fj;refine qC4 (cb _) Ba Bb Bc Bd hw λw3 Ba Bb Bc Bd hw Fj=>?_;go_wp2_with fail;clear Fj;refine qC4 (cc _) Ba Bb Bc Bd hw λw4 Ba Bb Bc Bd hw Fj=>?_;go_wp2_with fail;clear Fj;refine qC4 (cd _) Ba Bb Bc Bd hw λw5 Ba Bb Bc Bd hw Fj=>?_;go_wp2;refine zG λW6 hW=>?_;subst hW;clear Fj;have FK:=J4 Ba.cells Bb.cells Bc.cells Bd.cells;refine rgn 16 (λw7 hb=>?_);clear FK;obtain ⟨Ba,Bb,Bc,Bd,hw,Fj⟩:=qX4 Ba Bb Bc Bd hw hb;go_wp2;refine zG λW8 hW=>?_;subst hW;clear Fj;have FK:=J4 Ba.cells Bb.cells Bc.cells Bd.cells;refine rgn 16 (λw9 hb=>?_);clear FK;obtain ⟨Ba,Bb,Bc,Bd,hw,-⟩:=qX4 Ba Bb Bc Bd hw hb;go_wp2;all_goals go_ret
 all_goals exact ⟨rfl,hw⟩
theorem rmeet_t3 (a b c d:Pt) (ha:vld a) (hb:vld b) (hc:vld c) (hd:vld d) (e1:peqI a.x a.y b.x b.y=false) (e2:peqI c.x c.y d.x d.y=false) (z1:ori a b c=0) (z2:¬ ori a b d=0) (w:World):Calls prog 140 #[a,b,c,d] w (Rt w (.int .i64 (mx4 (tch a c d) (tch b c d) (tch c a b) (tch d a b)))):=by
 have ca:=z7 a;rw [ha] at ca;clear ha;have cb:=z7 b;rw [hb] at cb;clear hb;have cc:=z7 c;rw [hc] at cc;clear hc;have cd:=z7 d;rw [hd] at cd;clear hd;have o1:=zH a b c;have o2:=zH a b d;have o3:=zH c d a;have o4:=zH c d b;have sC:=y6 a b c;have sD:=y6 a b d;have sA:=y6 c d a;have sB:=y6 c d b;have m2:=kz sA sB;rw [z1] at o1;clear z1;generalize ori a b d=D at *
 generalize ori c d a=A at *
 generalize ori c d b=B at *
 have t2:(D == 0)=false:=by simpa using z2
 clear z2;have u1:=xy a c d;have u2:=xy b c d;have u3:=xy c a b;have u4:=xy d a b;generalize tch a c d=T1 at *
 generalize tch b c d=T2 at *
 generalize tch c a b=T3 at *
 generalize tch d a b=T4 at *
 go_enter func140,ntmps140
 go_wp2_with fail;refine qE4 λW1 Ba Bb Bc Bd hw=>?_;refine qC4 (ca _) Ba Bb Bc Bd hw λw2 Ba Bb Bc Bd hw Fj=>?_;go_wp2_with fail;clear Fj;refine qC4 (cb _) Ba Bb Bc Bd hw λw3 Ba Bb Bc Bd hw Fj=>?_;go_wp2_with fail;clear Fj;refine qC4 (cc _) Ba Bb Bc Bd hw λw4 Ba Bb Bc Bd hw Fj=>?_;go_wp2_with fail;clear Fj;refine qC4 (cd _) Ba Bb Bc Bd hw λw5 Ba Bb Bc Bd hw Fj=>?_;go_wp2;refine zG λW6 hW=>?_;subst hW;clear Fj;have FK:=J4 Ba.cells Bb.cells Bc.cells Bd.cells;refine rgn 16 (λw7 hb=>?_);clear FK;obtain ⟨Ba,Bb,Bc,Bd,hw,Fj⟩:=qX4 Ba Bb Bc Bd hw hb;go_wp2;refine zG λW8 hW=>?_;subst hW;clear Fj;have FK:=J4 Ba.cells Bb.cells Bc.cells Bd.cells;refine rgn 16 (λw9 hb=>?_);clear FK;obtain ⟨Ba,Bb,Bc,Bd,hw,-⟩:=qX4 Ba Bb Bc Bd hw hb;go_wp2;all_goals go_ret
 all_goals exact ⟨rfl,hw⟩
theorem uG (a b c d:Pt) (w:World):Calls prog 140 #[a,b,c,d] w (Rt w (.int .i64 (meetR a b c d))):=by
 cases ha:vld a with
 | false=>rw [show meetR a b c d=0 by unfold meetR;rw [JH ha]];exact rmeet_v0 a b c d ha w
 | true=>
 have n_ha:¬ vld a=false:=by rw [ha];simp
 cases hb:vld b with
 | false=>rw [show meetR a b c d=0 by unfold meetR;rw [J0 n_ha,JH hb]];exact rmeet_v1 a b c d ha hb w
 | true=>
 have n_hb:¬ vld b=false:=by rw [hb];simp
 cases hc:vld c with
 | false=>rw [show meetR a b c d=0 by unfold meetR;rw [J0 n_ha,J0 n_hb,JH hc]];exact rmeet_v2 a b c d ha hb hc w
 | true=>
 have n_hc:¬ vld c=false:=by rw [hc];simp
 cases hd:vld d with
 | false=>rw [show meetR a b c d=0 by unfold meetR;rw [J0 n_ha,J0 n_hb,J0 n_hc,JH hd]];exact rmeet_v3 a b c d ha hb hc hd w
 | true=>
 have n_hd:¬ vld d=false:=by rw [hd];simp
 cases e1:peqI a.x a.y b.x b.y with
 | true=>rw [show meetR a b c d=0 by unfold meetR;rw [J0 n_ha,J0 n_hb,J0 n_hc,J0 n_hd,JH e1]];exact rmeet_e1 a b c d ha hb hc hd e1 w
 | false=>
 have n_e1:¬ peqI a.x a.y b.x b.y=true:=by rw [e1];simp
 cases e2:peqI c.x c.y d.x d.y with
 | true=>rw [show meetR a b c d=0 by unfold meetR;rw [J0 n_ha,J0 n_hb,J0 n_hc,J0 n_hd,J0 n_e1,JH e2]];exact rmeet_e2 a b c d ha hb hc hd e1 e2 w
 | false=>
 have n_e2:¬ peqI c.x c.y d.x d.y=true:=by rw [e2];simp
 by_cases z1:ori a b c=0
 ·by_cases z2:ori a b d=0
  ·rw [show meetR a b c d=lap a b c d by unfold meetR;rw [J0 n_ha,J0 n_hb,J0 n_hc,J0 n_hd,J0 n_e1,J0 n_e2,JH ⟨z1,z2⟩]];by_cases hk:cmpP (rg (rl a b) (rl c d)) (rl (rg a b) (rg c d)) < 0
   ·rw [show lap a b c d=3 by unfold lap;rw [JH hk]];exact rmeet_l1 a b c d ha hb hc hd e1 e2 z1 z2 (by simpa using hk) w
   ·rw [show lap a b c d=0 by unfold lap;rw [J0 hk]];exact rmeet_l0 a b c d ha hb hc hd e1 e2 z1 z2 (by simpa using hk) w
  ·rw [show meetR a b c d=mx4 (tch a c d) (tch b c d) (tch c a b) (tch d a b) by unfold meetR;rw [J0 n_ha,J0 n_hb,J0 n_hc,J0 n_hd,J0 n_e1,J0 n_e2,J0 (λh=>z2 h.2),J0 (λh=>by have:=h.1;rw [z1] at this;simp at this)]];exact rmeet_t3 a b c d ha hb hc hd e1 e2 z1 z2 w
 ·by_cases x1:ori a b c * ori a b d < 0
  ·by_cases x2:ori c d a * ori c d b < 0
   ·rw [show meetR a b c d=1 by unfold meetR;rw [J0 n_ha,J0 n_hb,J0 n_hc,J0 n_hd,J0 n_e1,J0 n_e2,J0 (λh=>z1 h.1),JH ⟨x1,x2⟩]];exact rmeet_x a b c d ha hb hc hd e1 e2 z1 x1 x2 w
   ·rw [show meetR a b c d=mx4 (tch a c d) (tch b c d) (tch c a b) (tch d a b) by unfold meetR;rw [J0 n_ha,J0 n_hb,J0 n_hc,J0 n_hd,J0 n_e1,J0 n_e2,J0 (λh=>z1 h.1),J0 (λh=>x2 h.2)]];exact rmeet_t2 a b c d ha hb hc hd e1 e2 z1 x1 x2 w
  ·rw [show meetR a b c d=mx4 (tch a c d) (tch b c d) (tch c a b) (tch d a b) by unfold meetR;rw [J0 n_ha,J0 n_hb,J0 n_hc,J0 n_hd,J0 n_e1,J0 n_e2,J0 (λh=>z1 h.1),J0 (λh=>x1 h.1)]];exact rmeet_t1 a b c d ha hb hc hd e1 e2 z1 x1 w
end
def kk (a b p:Pt):Int:=(p.x - a.x) * (b.x - a.x)+(p.y - a.y) * (b.y - a.y)
def EE (a b:Pt):Int:=(b.x - a.x) * (b.x - a.x)+(b.y - a.y) * (b.y - a.y)
theorem tw {a b:Pt} (h:a≠b):0 < EE a b:=by
 have h1:=qB (b.x - a.x);have h2:=qB (b.y - a.y);have h3:EE a b≠0:=λh0=>by
  unfold EE at h0;have g1:(b.x - a.x) * (b.x - a.x)=0:=by omega
  have g2:(b.y - a.y) * (b.y - a.y)=0:=by omega
  apply h;rw [Pt.eq_iff];have k1:b.x - a.x=0:=by rcases JF.1 g1 with k | k <;> exact k
  have k2:b.y - a.y=0:=by rcases JF.1 g2 with k | k <;> exact k
  omega
 have:0<=EE a b:=by unfold EE;omega
 omega
theorem coll {a b p:Pt} (h:det a b p=0):EE a b * (p.x - a.x)=kk a b p * (b.x - a.x)/\EE a b * (p.y - a.y)=kk a b p * (b.y - a.y):=by
 have e1:EE a b * (p.x - a.x)=kk a b p * (b.x - a.x) - (b.y - a.y) * det a b p:=by unfold EE kk det;grind
 have e2:EE a b * (p.y - a.y)=kk a b p * (b.y - a.y)+(b.x - a.x) * det a b p:=by unfold EE kk det;grind
 rw [h] at e1 e2;simp only [Jh,Qp,VA] at e1 e2;exact ⟨e1,e2⟩
theorem coll2 {a b p:Pt} (h:det a b p=0):EE a b * (p.x - b.x)=(kk a b p - EE a b) * (b.x - a.x)/\EE a b * (p.y - b.y)=(kk a b p - EE a b) * (b.y - a.y):=by
 obtain ⟨h1,h2⟩:=coll h;generalize EE a b=E at *
 generalize kk a b p=k at *
 exact ⟨by grind,by grind⟩
def lexs (u v:Int):Int:=if u=0 then sgn v else sgn u
theorem kR (p q:Pt):cmpP p q=lexs (p.x - q.x) (p.y - q.y):=by
 unfold cmpP lexs cmpN;by_cases h:p.x=q.x
 ·rw [JH h,JH (by omega)]
 ·rw [J0 h,J0 (by omega)]
theorem jE {E x y z:Int} (hE:0 < E) (h:E * x=y * z):sgn x=sgn y * sgn z:=by
 have h1:=KF E x;rw [sgn_p hE,h,KF] at h1;omega
theorem tM {E k u1 v1 u2 v2:Int} (hE:0 < E) (h1:E * u1=k * u2) (h2:E * v1=k * v2):lexs u1 v1=sgn k * lexs u2 v2:=by
 have s1:=jE hE h1;have s2:=jE hE h2;unfold lexs;by_cases hu:u1=0
 ·rw [JH hu,s2];by_cases hu2:u2=0
  ·rw [JH hu2]
  ·rw [J0 hu2];rw [hu] at h1;have:k=0:=by
    rcases JF.1 (show k * u2=0 by rw [<-h1];simp) with h | h
    ·exact h
    ·exact absurd h hu2
   rw [this];simp [sgn]
 ·rw [J0 hu,s1];have hu2:u2≠0:=λh=>by
   rw [h] at h1;simp only [Jh] at h1;rcases JF.1 h1 with h | h
   ·omega
   ·exact hu h
  rw [J0 hu2]
theorem lexs_ne {u v:Int} (h:¬ (u=0/\v=0)):lexs u v=1\/lexs u v = -1:=by
 unfold lexs;have h1:=zL u;have h2:=zL v;split <;> omega
theorem one_sq {x:Int} (h:x=1\/x = -1) (a b:Int) : -(a * x) * (b * x) = -(a * b):=by
 rcases h with rfl | rfl <;> grind
theorem on_k {a b p:Pt} (hab:a≠b) (h:det a b p=0):(0<=cmpP a p * cmpP p b)↔(0<=kk a b p/\kk a b p<=EE a b):=by
 have hE:=tw hab;obtain ⟨c1,c2⟩:=coll h;obtain ⟨c3,c4⟩:=coll2 h;have l1:=tM hE c1 c2;have l2:=tM hE c3 c4;have l3:cmpP a p = -cmpP p a:=by unfold cmpP cmpN sgn;(repeat' split) <;> omega
 rw [<-kR,<-kR] at l1;rw [<-kR,<-kR] at l2;have l4:cmpP b a=1\/cmpP b a = -1:=by
  rw [kR];refine lexs_ne (λk=>hab ?_);rw [Pt.eq_iff];omega
 rw [l3,l1,l2,one_sq l4];have h1:=zL (kk a b p);have h2:=zL (kk a b p - EE a b);rcases h1 with ⟨s1,t1⟩ | ⟨s1,t1⟩ | ⟨s1,t1⟩ <;> rcases h2 with ⟨s2,t2⟩ | ⟨s2,t2⟩ | ⟨s2,t2⟩ <;> rw [s1,s2] <;> omega
theorem btw_t {n a b:Int} (h:btw n a b):0<=(n - a) * (b - a)/\(n - a) * (b - a)<=(b - a) * (b - a):=by
 simp only [btw,JA] at h;rcases VW a b with k | k
 ·exact ⟨JD (by omega) (by omega),Jx (by omega) (by omega)⟩
 ·exact ⟨QG (by omega) (by omega),U5 (by omega) (by omega)⟩
theorem KA {E k n a b:Int} (hE:0 < E) (k0:0<=k) (k1:k<=E) (h:E * (n - a)=k * (b - a)):btw n a b=true:=by
 simp only [btw,JA];rcases VW a b with c | c
 ·have h1:E * 0<=E * (n - a):=by rw [h,Jh];exact JD k0 (by omega)
  have h2:E * (n - a)<=E * (b - a):=by rw [h];exact Jx k1 (by omega)
  have g1:=QK h1 hE;have g2:=QK h2 hE;omega
 ·have h1:E * (n - a)<=E * 0:=by rw [h,Jh];exact QV k0 (by omega)
  have h2:E * (b - a)<=E * (n - a):=by rw [h];exact U5 k1 (by omega)
  have g1:=QK h1 hE;have g2:=QK h2 hE;omega
theorem btw_k {a b p:Pt} (hab:a≠b) (h:det a b p=0):(btw p.x a.x b.x && btw p.y a.y b.y)=true↔(0<=kk a b p/\kk a b p<=EE a b):=by
 have hE:=tw hab;obtain ⟨c1,c2⟩:=coll h;rw [JB];constructor
 ·rintro ⟨h1,h2⟩;have t1:=btw_t h1;have t2:=btw_t h2;unfold kk EE;omega
 ·rintro ⟨h1,h2⟩;exact ⟨KA hE h1 h2 c1,KA hE h1 h2 c2⟩
theorem on_eq (p a b:Pt):onS p a b=onR p a b:=by
 unfold onS onR;cases hp:vld p with
 | false=>rfl
 | true=>cases ha:vld a with
  | false=>rfl
  | true=>cases hb:vld b with
   | false=>rfl
   | true=>
    simp only [Qq];have ho:decide (ori a b p=0)=decide (det a b p=0):=by
     rw [ori_v ha hb hp,decide_eq_decide];exact yZ
    rw [ho];by_cases hd:det a b p=0
    ·rw [show decide (det a b p=0)=true by simpa using hd];simp only [Qq];by_cases hab:a=b
     ·subst hab;rw [Qm,JA,JB];simp only [btw,JA];have l3:cmpP a p = -cmpP p a:=by unfold cmpP cmpN sgn;(repeat' split) <;> omega
      have l4:cmpP p a=0↔p.x=a.x/\p.y=a.y:=by unfold cmpP cmpN sgn;(repeat' split) <;> omega
      have l5:=jo p a;rw [l3];have l6:cmpP p a=0\/cmpP p a=1\/cmpP p a = -1:=by omega
      rcases l6 with l | l | l <;> rw [l] at l4 ⊢ <;> omega
     ·rw [Qm,JA,btw_k hab hd];exact on_k hab hd
    ·rw [show decide (det a b p=0)=false by simpa using hd];rfl
theorem tch_k {p a b:Pt} (hp:vld p) (ha:vld a) (hb:vld b) (hab:a≠b):tch p a b=if det a b p=0/\0 < kk a b p/\kk a b p < EE a b then 2 else 0:=by
 have hE:=tw hab;unfold tch onR;rw [hp,ha,hb];simp only [Qq];by_cases hd:det a b p=0
 ·rw [show decide (det a b p=0)=true by simpa using hd];simp only [Qq];obtain ⟨c1,c2⟩:=coll hd;obtain ⟨c3,c4⟩:=coll2 hd;have z1:p=a↔kk a b p=0:=by
   constructor
   ·rintro rfl;unfold kk;simp
   ·intro h;rw [h] at c1 c2;simp only [Jn] at c1 c2;rw [Pt.eq_iff];rcases JF.1 c1 with h1 | h1 <;> rcases JF.1 c2 with h2 | h2 <;> omega
  have z2:p=b↔kk a b p - EE a b=0:=by
   constructor
   ·rintro rfl;unfold kk EE;omega
   ·intro h;rw [h] at c3 c4;simp only [Jn] at c3 c4;rw [Pt.eq_iff];rcases JF.1 c3 with h1 | h1 <;> rcases JF.1 c4 with h2 | h2 <;> omega
  by_cases hk:0<=kk a b p/\kk a b p<=EE a b
  ·rw [(btw_k hab hd).2 hk,J0 (by simp)];by_cases h1:p=a
   ·have:=z1.1 h1;rw [JH (pp h1),J0 (by omega)]
   ·rw [J0 (np h1)];by_cases h2:p=b
    ·have:=z2.1 h2;rw [JH (pp h2),J0 (by omega)]
    ·have k1:kk a b p≠0:=λk=>h1 (z1.2 k);have k2:kk a b p - EE a b≠0:=λk=>h2 (z2.2 k);rw [J0 (np h2),JH (by omega)]
  ·have:(btw p.x a.x b.x && btw p.y a.y b.y)=false:=by rw [<-QO,btw_k hab hd];exact hk
   rw [JH this,J0 (by omega)]
 ·rw [show decide (det a b p=0)=false by simpa using hd,JH (by simp),J0 (λk=>hd k.1)]
theorem I1 (a b c d:Pt):EE a b * det c d a=kk a b c * det a b d - det a b c * kk a b d:=by unfold EE kk det;grind
theorem I2 (a b c d:Pt):EE a b * det c d b=(kk a b c - EE a b) * det a b d - det a b c * (kk a b d - EE a b):=by unfold EE kk det;grind
structure Seg2 (a b c d:Pt):Prop where
 va:vld a=true
 vb:vld b=true
 vc:vld c=true
 vd:vld d=true
 nab:a≠b
 ncd:c≠d
theorem yQ {a b c d:Pt} (h:¬ Seg2 a b c d):meetS a b c d=0:=by
 unfold meetS;cases va:vld a with
 | false=>rfl
 | true=>cases vb:vld b with
  | false=>rfl
  | true=>cases vc:vld c with
   | false=>rfl
   | true=>cases vd:vld d with
    | false=>rfl
    | true=>
     by_cases e1:a=b
     ·rw [J0 (by simp),J0 (by simp),J0 (by simp),J0 (by simp),JH (pp e1)]
     ·by_cases e2:c=d
      ·rw [J0 (by simp),J0 (by simp),J0 (by simp),J0 (by simp),J0 (np e1),JH (pp e2)]
      ·exact absurd ⟨va,vb,vc,vd,e1,e2⟩ h
theorem meetR_none {a b c d:Pt} (h:¬ Seg2 a b c d):meetR a b c d=0:=by
 unfold meetR;cases va:vld a with
 | false=>rfl
 | true=>cases vb:vld b with
  | false=>rfl
  | true=>cases vc:vld c with
   | false=>rfl
   | true=>cases vd:vld d with
    | false=>rfl
    | true=>
     by_cases e1:a=b
     ·rw [J0 (by simp),J0 (by simp),J0 (by simp),J0 (by simp),JH (pp e1)]
     ·by_cases e2:c=d
      ·rw [J0 (by simp),J0 (by simp),J0 (by simp),J0 (by simp),J0 (np e1),JH (pp e2)]
      ·exact absurd ⟨va,vb,vc,vd,e1,e2⟩ h
section
variable {a b c d:Pt} (s:Seg2 a b c d)
include s
theorem yI (h:det a b c=0/\det a b d=0):meetS a b c d=mil a b c d:=by
 unfold meetS;rw [J0 (by rw [s.va];simp),J0 (by rw [s.vb];simp),J0 (by rw [s.vc];simp),J0 (by rw [s.vd];simp),J0 (np s.nab),J0 (np s.ncd),
  JH ⟨by rw [ori_v s.va s.vb s.vc,h.1];rfl,by rw [ori_v s.va s.vb s.vd,h.2];rfl⟩]
theorem ZC (h:¬ (det a b c=0/\det a b d=0)):¬ (ori a b c=0/\ori a b d=0):=λk=>h ⟨by rw [<-yZ,<-ori_v s.va s.vb s.vc];exact k.1,by rw [<-yZ,<-ori_v s.va s.vb s.vd];exact k.2⟩
theorem xF (h:¬ (det a b c=0/\det a b d=0)) (e:a=c\/a=d\/b=c\/b=d):meetS a b c d=0:=by
 unfold meetS;rw [J0 (by rw [s.va];simp),J0 (by rw [s.vb];simp),J0 (by rw [s.vc];simp),J0 (by rw [s.vd];simp),J0 (np s.nab),J0 (np s.ncd),J0 (ZC s h)];by_cases e1:a=c
 ·rw [JH (pp e1)]
 rw [J0 (np e1)];by_cases e2:a=d
 ·rw [JH (pp e2)]
 rw [J0 (np e2)];by_cases e3:b=c
 ·rw [JH (pp e3)]
 rw [J0 (np e3)];by_cases e4:b=d
 ·rw [JH (pp e4)]
 rcases e with e | e | e | e
 ·exact absurd e e1
 ·exact absurd e e2
 ·exact absurd e e3
 ·exact absurd e e4
theorem yv (h:¬ (det a b c=0/\det a b d=0)) (e:¬ (a=c\/a=d\/b=c\/b=d)):meetS a b c d=fin (sgn (det c d a)) (sgn (det c d b)) (sgn (det a b c)) (sgn (det a b d)):=by
 unfold meetS;rw [J0 (by rw [s.va];simp),J0 (by rw [s.vb];simp),J0 (by rw [s.vc];simp),J0 (by rw [s.vd];simp),J0 (np s.nab),J0 (np s.ncd),J0 (ZC s h),
  J0 (np (λk=>e (.inl k))),J0 (np (λk=>e (.inr (.inl k)))),J0 (np (λk=>e (.inr (.inr (.inl k))))),J0 (np (λk=>e (.inr (.inr (.inr k))))),
  ori_v s.va s.vb s.vc,ori_v s.va s.vb s.vd,ori_v s.vc s.vd s.va,ori_v s.vc s.vd s.vb]
theorem meetR_line (h:det a b c=0/\det a b d=0):meetR a b c d=lap a b c d:=by
 unfold meetR;rw [J0 (by rw [s.va];simp),J0 (by rw [s.vb];simp),J0 (by rw [s.vc];simp),J0 (by rw [s.vd];simp),J0 (np s.nab),J0 (np s.ncd),
  JH ⟨by rw [ori_v s.va s.vb s.vc,h.1];rfl,by rw [ori_v s.va s.vb s.vd,h.2];rfl⟩]
theorem kJ (h:¬ (det a b c=0/\det a b d=0)):meetR a b c d=if sgn (det a b c) * sgn (det a b d) < 0/\sgn (det c d a) * sgn (det c d b) < 0 then 1 else mx4 (tch a c d) (tch b c d) (tch c a b) (tch d a b):=by
 unfold meetR;rw [J0 (by rw [s.va];simp),J0 (by rw [s.vb];simp),J0 (by rw [s.vc];simp),J0 (by rw [s.vd];simp),J0 (np s.nab),J0 (np s.ncd),J0 (ZC s h),
  ori_v s.va s.vb s.vc,ori_v s.va s.vb s.vd,ori_v s.vc s.vd s.va,ori_v s.vc s.vd s.vb]
theorem key_n:key a≠key b:=λh=>s.nab (yj s.va s.vb h)
theorem key_n2:key c≠key d:=λh=>s.ncd (yj s.vc s.vd h)
end
theorem KR {p q:Pt} (hp:vld p) (hq:vld q):vld (lo2 p q)=true/\key (lo2 p q)=min (key p) (key q):=by
 unfold lo2;rw [xO hq hp];have:=zL (key q - key p);split
 ·exact ⟨hq,by omega⟩
 ·exact ⟨hp,by omega⟩
theorem KY {p q:Pt} (hp:vld p) (hq:vld q):vld (hi2 p q)=true/\key (hi2 p q)=max (key p) (key q):=by
 unfold hi2;rw [xO hq hp];have:=zL (key q - key p);split
 ·exact ⟨hp,by omega⟩
 ·exact ⟨hq,by omega⟩
theorem Kp {p q:Pt} (hp:vld p) (hq:vld q):vld (rl p q)=true/\key (rl p q)=min (key p) (key q):=by
 unfold rl;rw [xO hp hq];have:=zL (key p - key q);split
 ·exact ⟨hp,by omega⟩
 ·exact ⟨hq,by omega⟩
theorem Kq {p q:Pt} (hp:vld p) (hq:vld q):vld (rg p q)=true/\key (rg p q)=max (key p) (key q):=by
 unfold rg;rw [xO hp hq];have:=zL (key p - key q);split
 ·exact ⟨hq,by omega⟩
 ·exact ⟨hp,by omega⟩
theorem kr {p q:Pt} (hp:vld p) (hq:vld q):cmpP p q < 0↔key p < key q:=by
 rw [xO hp hq];have:=zL (key p - key q);omega
theorem q8 {a b c d:Pt} (s:Seg2 a b c d):mil a b c d=if min (key a) (key b) < max (key c) (key d)/\min (key c) (key d) < max (key a) (key b) then 3 else 0:=by
 obtain ⟨u1,u2⟩:=KR s.va s.vb;obtain ⟨u3,u4⟩:=KY s.va s.vb;obtain ⟨u5,u6⟩:=KR s.vc s.vd;obtain ⟨u7,u8⟩:=KY s.vc s.vd;unfold mil;simp only [kr u1 u7,kr u5 u3,u2,u4,u6,u8]
 (repeat' split) <;> omega
theorem lap_key {a b c d:Pt} (s:Seg2 a b c d):lap a b c d=if min (key a) (key b) < max (key c) (key d)/\min (key c) (key d) < max (key a) (key b) then 3 else 0:=by
 obtain ⟨u1,u2⟩:=Kp s.va s.vb;obtain ⟨u3,u4⟩:=Kq s.va s.vb;obtain ⟨u5,u6⟩:=Kp s.vc s.vd;obtain ⟨u7,u8⟩:=Kq s.vc s.vd;obtain ⟨t1,t2⟩:=Kq u1 u5;obtain ⟨t3,t4⟩:=Kp u3 u7;have n1:=key_n s;have n2:=key_n2 s;unfold lap;simp only [kr t1 t3,t2,t4,u2,u4,u6,u8]
 (repeat' split) <;> omega
theorem fin_0 {sA sB sC sD:Int} (h:sA=sB\/sC=sD):fin sA sB sC sD=0:=by unfold fin;(repeat' split) <;> omega
theorem fin_2 {sA sB sC sD:Int} (h1:sA≠sB) (h2:sC≠sD) (h:sA=0\/sB=0\/sC=0\/sD=0):fin sA sB sC sD=2:=by unfold fin;(repeat' split) <;> omega
theorem Yh {E A B kc D:Int} (hE:0 < E) (hD:D≠0) (h1:E * A=kc * D) (h2:E * B=(kc - E) * D):(kc=0/\A=0/\B≠0)\/(kc=E/\B=0/\A≠0)\/((kc < 0\/E < kc)/\A≠0/\B≠0/\sgn A=sgn B)\/(0 < kc/\kc < E/\A≠0/\B≠0/\sgn A≠sgn B):=by
 have s1:=jE hE h1;have s2:=jE hE h2;have c1:=zL kc;have c2:=zL (kc - E);have c3:=zL D;have c4:=zL A;have c5:=zL B;rcases c1 with ⟨e1,t1⟩ | ⟨e1,t1⟩ | ⟨e1,t1⟩ <;> rcases c2 with ⟨e2,t2⟩ | ⟨e2,t2⟩ | ⟨e2,t2⟩ <;> rw [e1] at s1 <;> rw [e2] at s2 <;> omega
theorem s0:sgn 0=0:=rfl
theorem Zx (a b:Pt):kk a b a=0:=by unfold kk;simp
theorem K7 (a b:Pt):kk a b b=EE a b:=rfl
theorem det_1 (a b:Pt):det a b a=0:=by unfold det;grind
theorem det_2 (a b:Pt):det a b b=0:=by unfold det;grind
theorem vQ (a b c d:Pt):meetS a b c d=meetR a b c d:=by
 by_cases s:Seg2 a b c d
 case neg=>rw [yQ s,meetR_none s]
 case pos=>
 by_cases hl:det a b c=0/\det a b d=0
 ·rw [yI s hl,meetR_line s hl,q8 s,lap_key s]
 rw [kJ s hl,tch_k s.va s.vc s.vd s.ncd,tch_k s.vb s.vc s.vd s.ncd,tch_k s.vc s.va s.vb s.nab,tch_k s.vd s.va s.vb s.nab];have hE:=tw s.nab;have hF:=tw s.ncd;have i1:=I1 a b c d;have i2:=I2 a b c d;have i3:=I1 c d a b;have i4:=I2 c d a b
 -- ends in common
 have e1:a=c->det c d a=0/\det a b c=0/\kk c d a=0/\kk a b c=0:=by rintro rfl;exact ⟨det_1 _ _,det_1 _ _,Zx _ _,Zx _ _⟩
 have e2:a=d->det c d a=0/\det a b d=0/\kk c d a=EE c d/\kk a b d=0:=by rintro rfl;exact ⟨det_2 _ _,det_1 _ _,K7 _ _,Zx _ _⟩
 have e3:b=c->det c d b=0/\det a b c=0/\kk c d b=0/\kk a b c=EE a b:=by rintro rfl;exact ⟨det_1 _ _,det_2 _ _,Zx _ _,K7 _ _⟩
 have e4:b=d->det c d b=0/\det a b d=0/\kk c d b=EE c d/\kk a b d=EE a b:=by rintro rfl;exact ⟨det_2 _ _,det_2 _ _,K7 _ _,K7 _ _⟩
 have f1:det a b c=0->kk a b c=0->a=c:=λh k=>by
  obtain ⟨c1,c2⟩:=coll h;rw [k] at c1 c2;simp only [Jn] at c1 c2;rw [Pt.eq_iff];rcases JF.1 c1 with h1 | h1 <;> rcases JF.1 c2 with h2 | h2 <;> omega
 have f2:det a b d=0->kk a b d=0->a=d:=λh k=>by
  obtain ⟨c1,c2⟩:=coll h;rw [k] at c1 c2;simp only [Jn] at c1 c2;rw [Pt.eq_iff];rcases JF.1 c1 with h1 | h1 <;> rcases JF.1 c2 with h2 | h2 <;> omega
 have f3:det a b c=0->kk a b c=EE a b->b=c:=λh k=>by
  obtain ⟨c1,c2⟩:=coll2 h;rw [k] at c1 c2;simp only [VB,Jn] at c1 c2;rw [Pt.eq_iff];rcases JF.1 c1 with h1 | h1 <;> rcases JF.1 c2 with h2 | h2 <;> omega
 have f4:det a b d=0->kk a b d=EE a b->b=d:=λh k=>by
  obtain ⟨c1,c2⟩:=coll2 h;rw [k] at c1 c2;simp only [VB,Jn] at c1 c2;rw [Pt.eq_iff];rcases JF.1 c1 with h1 | h1 <;> rcases JF.1 c2 with h2 | h2 <;> omega
 by_cases hs:a=c\/a=d\/b=c\/b=d
 ·rw [xF s hl hs];clear f1 f2 f3 f4;generalize det a b c=C at *
  generalize det a b d=D at *
  generalize det c d a=A at *
  generalize det c d b=B at *
  generalize kk a b c=kc at *
  generalize kk a b d=kd at *
  generalize kk c d a=la at *
  generalize kk c d b=lb at *
  generalize EE a b=E at *
  generalize EE c d=F at *
  rcases hs with h | h | h | h
  ·obtain ⟨g1,g2,g3,g4⟩:=e1 h;subst g1 g2 g3 g4;have hD:D≠0:=λk=>hl ⟨rfl,k⟩;have hB:B≠0:=by rcases Yh (A:=0) (B:=B) (kc:=0) hE hD (by simp) (by simpa using i2) with x | x | x | x <;> omega
   simp [sgn,mx4,hD,hB]
  ·obtain ⟨g1,g2,g3,g4⟩:=e2 h;subst g1 g2 g3 g4;have hC:C≠0:=λk=>hl ⟨k,rfl⟩;have hB:B≠0:=by
    rintro rfl;simp only [Jh,VV] at i2;have:=JF.1 (show C * -E=0 by omega);omega
   simp [sgn,mx4,hC,hB]
  ·obtain ⟨g1,g2,g3,g4⟩:=e3 h;subst g1 g2 g3 g4;have hD:D≠0:=λk=>hl ⟨rfl,k⟩;have hA:A≠0:=by
    rintro rfl;simp only [Jh,Jn,Qp] at i1;have:=JF.1 i1.symm;omega
   simp [sgn,mx4,hD,hA]
  ·obtain ⟨g1,g2,g3,g4⟩:=e4 h;subst g1 g2 g3 g4;have hC:C≠0:=λk=>hl ⟨k,rfl⟩;have hA:A≠0:=by
    rintro rfl;simp only [Jh,VV] at i1;have:=JF.1 (show C * kd=0 by omega);omega
   simp [sgn,mx4,hC,hA]
 ·rw [yv s hl hs];have n1:¬ a=c:=λh=>hs (.inl h);have n2:¬ a=d:=λh=>hs (.inr (.inl h));have n3:¬ b=c:=λh=>hs (.inr (.inr (.inl h)));have n4:¬ b=d:=λh=>hs (.inr (.inr (.inr h)));clear e1 e2 e3 e4 hs;generalize det a b c=C at *
  generalize det a b d=D at *
  generalize det c d a=A at *
  generalize det c d b=B at *
  generalize kk a b c=kc at *
  generalize kk a b d=kd at *
  generalize kk c d a=la at *
  generalize kk c d b=lb at *
  generalize EE a b=E at *
  generalize EE c d=F at *
  by_cases hC:C=0
  ·subst hC;have hD:D≠0:=λk=>hl ⟨rfl,k⟩;have k1:kc≠0:=λk=>n1 (f1 rfl k);have k2:kc≠E:=λk=>n3 (f3 rfl k);rcases Yh (A:=A) (B:=B) hE hD (by simpa using i1) (by simpa using i2) with x | x | ⟨x1,x2,x3,x4⟩ | ⟨x1,x2,x3,x4,x5⟩
   ·omega
   ·omega
   ·rw [s0,fin_0 (.inl x4),J0 (by simp),J0 (by omega),J0 (by omega),J0 (by omega),J0 (by omega)];rfl
   ·rw [s0,fin_2 x5 (by have:=zL D;omega) (.inr (.inr (.inl rfl))),J0 (by simp),J0 (by omega),J0 (by omega),JH (by omega),J0 (by omega)];rfl
  ·by_cases hD:D=0
   ·subst hD;have k1:kd≠0:=λk=>n2 (f2 rfl k);have k2:kd≠E:=λk=>n4 (f4 rfl k);rcases Yh (A := -A) (B := -B) (kc:=kd) hE hC (by simp only [Jh,VV] at i1;rw [Ql,i1,VQ C];simp) (by simp only [Jh,VV] at i2;rw [Ql,i2,VQ C];simp) with x | x | ⟨x1,x2,x3,x4⟩ | ⟨x1,x2,x3,x4,x5⟩
    ·omega
    ·omega
    ·rw [xI,xI] at x4;rw [s0,fin_0 (.inl (by omega)),J0 (by simp),J0 (by omega),J0 (by omega),J0 (by omega),J0 (by omega)];rfl
    ·rw [xI,xI] at x5;rw [s0,fin_2 (by omega) (by have:=zL C;omega) (.inr (.inr (.inr rfl))),J0 (by simp),J0 (by omega),J0 (by omega),J0 (by omega),JH (by omega)];rfl
   ·by_cases hA:A=0
    ·subst hA;have hB:B≠0:=by
      rintro rfl;simp only [Jh,Jn,Qp] at i3;rcases JF.1 i3 with h | h <;> omega
     rcases Yh (A:=C) (B:=D) (kc:=la) hF hB (by simpa using i3) (by simpa using i4) with x | x | ⟨x1,x2,x3,x4⟩ | ⟨x1,x2,x3,x4,x5⟩
     ·omega
     ·omega
     ·rw [s0,fin_0 (.inr x4),J0 (by simp),J0 (by omega),J0 (by omega),J0 (by omega),J0 (by omega)];rfl
     ·rw [s0,fin_2 (by have:=zL B;omega) x5 (.inl rfl),J0 (by simp),JH (by omega),J0 (by omega),J0 (by omega),J0 (by omega)];rfl
    ·by_cases hB:B=0
     ·subst hB;rcases Yh (A := -C) (B := -D) (kc:=lb) hF hA (by simp only [Jh,VV] at i3;rw [Ql,i3,VQ A];simp) (by simp only [Jh,VV] at i4;rw [Ql,i4,VQ A];simp) with x | x | ⟨x1,x2,x3,x4⟩ | ⟨x1,x2,x3,x4,x5⟩
      ·omega
      ·omega
      ·rw [xI,xI] at x4;rw [s0,fin_0 (.inr (by omega)),J0 (by simp),J0 (by omega),J0 (by omega),J0 (by omega),J0 (by omega)];rfl
      ·rw [xI,xI] at x5;rw [s0,fin_2 (by have:=zL A;omega) (by omega) (.inr (.inl rfl)),J0 (by simp),J0 (by omega),JH (by omega),J0 (by omega),J0 (by omega)];rfl
     ·have c1:=zL A;have c2:=zL B;have c3:=zL C;have c4:=zL D;simp only [hA,hB,hC,hD,false_and,VT];have m0:mx4 0 0 0 0=0:=rfl;rw [m0];generalize sgn A=sA at *
      generalize sgn B=sB at *
      generalize sgn C=sC at *
      generalize sgn D=sD at *
      have d1:sA=1\/sA = -1:=by omega
      have d2:sB=1\/sB = -1:=by omega
      have d3:sC=1\/sC = -1:=by omega
      have d4:sD=1\/sD = -1:=by omega
      clear c1 c2 c3 c4;rcases d1 with rfl | rfl <;> rcases d2 with rfl | rfl <;> rcases d3 with rfl | rfl <;> rcases d4 with rfl | rfl <;> rfl
structure Tri3 where
 A:Pt
 B:Pt
 C:Pt
instance:Coe Tri3 Value:=⟨λT=>.agg #[.int .i64 T.A.x,.int .i64 T.A.y,.int .i64 T.B.x,.int .i64 T.B.y,.int .i64 T.C.x,.int .i64 T.C.y]⟩
def mkT (x y z:Pt):Tri3:=if cmpP y x < 0\/cmpP z x < 0 then (if cmpP z y < 0\/cmpP x y < 0 then ⟨z,x,y⟩ else ⟨y,z,x⟩) else ⟨x,y,z⟩
def mk (a b c:Pt):Tri3:=if ori a b c=0 then ⟨⟨0,0⟩,⟨0,0⟩,⟨0,0⟩⟩ else if ori a b c=1 then mkT a b c else mkT a c b
theorem kG {x y z:Pt} (hx:vld x) (hy:vld y) (hz:vld z) (n1:key x≠key y) (n2:key x≠key z) (n3:key y≠key z):(key x < key y/\key x < key z/\mkT x y z=⟨x,y,z⟩)\/(key y < key x/\key y < key z/\mkT x y z=⟨y,z,x⟩)\/(key z < key x/\key z < key y/\mkT x y z=⟨z,x,y⟩):=by
 unfold mkT;simp only [kr hy hx,kr hz hx,kr hz hy,kr hx hy]
 (repeat' split) <;> simp <;> omega
theorem dlt {p q:Pt} (hp:vld p) (hq:vld q) (h:key p < key q):decide (cmpP p q < 0)=true:=by simpa using (kr hp hq).2 h
theorem dge {p q:Pt} (hp:vld p) (hq:vld q) (h:key q<=key p):decide (cmpP p q < 0)=false:=by
 have:=kr hp hq;simp;omega
theorem yT (a b c:Pt) (w:World):Calls prog 39 #[a,b,c] w (Rt w (.tuple #[.agg #[.int .i64 (mk a b c).A.x,.int .i64 (mk a b c).A.y,.int .i64 (mk a b c).B.x,.int .i64 (mk a b c).B.y,.int .i64 (mk a b c).C.x,.int .i64 (mk a b c).C.y],.bool (!decide (ori a b c=0))])):=by
 by_cases h0:ori a b c=0
 ·rw [show mk a b c=⟨⟨0,0⟩,⟨0,0⟩,⟨0,0⟩⟩ by unfold mk;rw [JH h0],show (!decide (ori a b c=0))=false by simp [h0]];exact rmake_0 a b c h0 w
 ·obtain ⟨va,vb,vc⟩:=yz h0;obtain ⟨d1,d2,d3⟩:=yf h0;have n1:key a≠key b:=λh=>d1 (yj va vb h).symm;have n2:key a≠key c:=λh=>d2 (yj va vc h).symm;have n3:key b≠key c:=λh=>d3 (yj vb vc h).symm;rw [show (!decide (ori a b c=0))=true by simp [h0]];have hb:=y6 a b c;by_cases h1:ori a b c=1
  ·rw [show mk a b c=mkT a b c by unfold mk;rw [J0 h0,JH h1]];rcases kG va vb vc n1 n2 n3 with ⟨x1,x2,e⟩ | ⟨x1,x2,e⟩ | ⟨x1,x2,e⟩ <;> rw [e]
   ·exact rmake_p0 a b c h1 (dge vb va (by omega)) (dge vc va (by omega)) w
   ·exact rmake_p1 a b c h1 (dlt vb va (by omega)) (dge vc vb (by omega)) (dge va vb (by omega)) w
   ·rcases VH (key b) (key a) with y | y
    ·exact rmake_p2 a b c h1 (dlt vb va (by omega)) (dlt vc vb (by omega)) (dge va vc (by omega)) (dge vb vc (by omega)) w
    ·exact rmake_p3 a b c h1 (dge vb va (by omega)) (dlt vc va (by omega)) (dlt vc vb (by omega)) (dge va vc (by omega)) (dge vb vc (by omega)) w
  ·have h2:ori a b c = -1:=by omega
   rw [show mk a b c=mkT a c b by unfold mk;rw [J0 h0,J0 h1]];rcases kG va vc vb n2 n1 n3.symm with ⟨x1,x2,e⟩ | ⟨x1,x2,e⟩ | ⟨x1,x2,e⟩ <;> rw [e]
   ·exact rmake_n0 a b c h2 (dge vc va (by omega)) (dge vb va (by omega)) w
   ·exact rmake_n1 a b c h2 (dlt vc va (by omega)) (dge vb vc (by omega)) (dge va vc (by omega)) w
   ·rcases VH (key c) (key a) with y | y
    ·exact rmake_n2 a b c h2 (dlt vc va (by omega)) (dlt vb vc (by omega)) (dge va vb (by omega)) (dge vc vb (by omega)) w
    ·exact rmake_n3 a b c h2 (dge vc va (by omega)) (dlt vb va (by omega)) (dlt vb vc (by omega)) (dge va vb (by omega)) (dge vc vb (by omega)) w
def teq (s u:Tri3):Bool:=peqI s.A.x s.A.y u.A.x u.A.y && (peqI s.B.x s.B.y u.B.x u.B.y && peqI s.C.x s.C.y u.C.x u.C.y)
theorem tri_eql (s u:Tri3) (w:World):(binOp .eql 45 (.agg #[s.A.x,s.A.y,s.B.x,s.B.y,s.C.x,s.C.y]) (.agg #[u.A.x,u.A.y,u.B.x,u.B.y,u.C.x,u.C.y])).run prog w=.ok (.bool (teq s u)) w:=by
 unfold teq peqI;by_cases h1:s.A.x=u.A.x
 case neg=>simp [go_sem,h1]
 case pos=>
 by_cases h2:s.A.y=u.A.y
 case neg=>simp [go_sem,h1,h2]
 case pos=>
 by_cases h3:s.B.x=u.B.x
 case neg=>simp [go_sem,h1,h2,h3]
 case pos=>
 by_cases h4:s.B.y=u.B.y
 case neg=>simp [go_sem,h1,h2,h3,h4]
 case pos=>
 by_cases h5:s.C.x=u.C.x
 case neg=>simp [go_sem,h1,h2,h3,h4,h5]
 case pos=>
 by_cases h6:s.C.y=u.C.y
 ·simp [go_sem,h1,h2,h3,h4,h5,h6]
 ·simp [go_sem,h1,h2,h3,h4,h5,h6]
attribute [local go_sem 10000] tri_eql
def valT (T:Tri3):Bool := !decide (ori T.A T.B T.C=0) && teq (mk T.A T.B T.C) T
theorem rvalT_0 (T:Tri3) (h:(!decide (ori T.A T.B T.C=0))=false) (w:World):Calls prog 77 #[T] w (Rt w (.bool false)):=by
 have cm:=yT T.A T.B T.C;rw [h] at cm;clear h;generalize mk T.A T.B T.C=M at *
 go_enter func77,ntmps77
 go_wp2_with fail;refine qE1 λW1 Bt hw=>?_;refine qC1 (cm _) Bt hw λw2 Bt hw Ft=>?_;go_wp2
 go_ret
 exact ⟨rfl,by have hl:=hw.size;go_grown⟩
theorem rvalT_1 (T:Tri3) (h:(!decide (ori T.A T.B T.C=0))=true) (w:World):Calls prog 77 #[T] w (Rt w (.bool (teq (mk T.A T.B T.C) T))):=by
 have cm:=yT T.A T.B T.C;rw [h] at cm;clear h;generalize mk T.A T.B T.C=M at *
 go_enter func77,ntmps77
 go_wp2_with fail;refine qE1 λW1 Bt hw=>?_;refine qC1 (cm _) Bt hw λw2 Bt hw Ft=>?_;go_wp2
 go_ret
 exact ⟨rfl,by have hl:=hw.size;go_grown⟩
theorem qW (T:Tri3) (w:World):Calls prog 77 #[T] w (Rt w (.bool (valT T))):=by
 unfold valT;cases h:(!decide (ori T.A T.B T.C=0)) with
 | false=>exact rvalT_0 T h w
 | true=>exact rvalT_1 T h w
def hasP (T:Tri3) (p:Pt):Bool:=valT T && (vld p && (decide (0<=ori T.A T.B p) && (decide (0<=ori T.B T.C p) && decide (0<=ori T.C T.A p))))
theorem rhasP_0 (T:Tri3) (p:Pt) (h0:valT T=false) (w:World):Calls prog 136 #[T,p] w (Rt w (.bool false)):=by
 have cv:=qW T;rw [h0] at cv;clear h0
 go_enter func136,ntmps136
 go_wp2_with fail;refine qE2 λW1 Bt Bp hw=>?_;refine qC2 (cv _) Bt Bp hw λw2 Bt Bp hw FU=>?_;go_wp2
 go_ret
 exact ⟨rfl,hw⟩
theorem rhasP_1 (T:Tri3) (p:Pt) (h0:valT T) (h1:vld p=false) (w:World):Calls prog 136 #[T,p] w (Rt w (.bool false)):=by
 have cv:=qW T;rw [h0] at cv;clear h0;have cp:=z7 p;rw [h1] at cp;clear h1
 go_enter func136,ntmps136
 go_wp2_with fail;refine qE2 λW1 Bt Bp hw=>?_;refine qC2 (cv _) Bt Bp hw λw2 Bt Bp hw FU=>?_;go_wp2_with fail;clear FU;refine qC2 (cp _) Bt Bp hw λw3 Bt Bp hw FU=>?_;go_wp2
 go_ret
 exact ⟨rfl,hw⟩
theorem rhasP_2 (T:Tri3) (p:Pt) (h0:valT T) (h1:vld p) (g0:decide (0<=ori T.A T.B p)=false) (w:World):Calls prog 136 #[T,p] w (Rt w (.bool false)):=by
 have cv:=qW T;rw [h0] at cv;clear h0;have cp:=z7 p;rw [h1] at cp;clear h1;have o0:=zH T.A T.B p;generalize ori T.A T.B p=O0 at *
 go_enter func136,ntmps136
 go_wp2_with fail;refine qE2 λW1 Bt Bp hw=>?_;refine qC2 (cv _) Bt Bp hw λw2 Bt Bp hw FU=>?_;go_wp2_with fail;clear FU;refine qC2 (cp _) Bt Bp hw λw3 Bt Bp hw FU=>?_;go_wp2_with fail;clear FU;refine qC2 (o0 _) Bt Bp hw λw4 Bt Bp hw FU=>?_;go_wp2
 go_ret
 exact ⟨rfl,hw⟩
theorem rhasP_3 (T:Tri3) (p:Pt) (h0:valT T) (h1:vld p) (g0:decide (0<=ori T.A T.B p)=true) (g1:decide (0<=ori T.B T.C p)=false) (w:World):Calls prog 136 #[T,p] w (Rt w (.bool false)):=by
 have cv:=qW T;rw [h0] at cv;clear h0;have cp:=z7 p;rw [h1] at cp;clear h1;have o0:=zH T.A T.B p;generalize ori T.A T.B p=O0 at *
 have o1:=zH T.B T.C p;generalize ori T.B T.C p=O1 at *
 go_enter func136,ntmps136
 go_wp2_with fail;refine qE2 λW1 Bt Bp hw=>?_;refine qC2 (cv _) Bt Bp hw λw2 Bt Bp hw FU=>?_;go_wp2_with fail;clear FU;refine qC2 (cp _) Bt Bp hw λw3 Bt Bp hw FU=>?_;go_wp2_with fail;clear FU;refine qC2 (o0 _) Bt Bp hw λw4 Bt Bp hw FU=>?_;go_wp2_with fail;clear FU;refine qC2 (o1 _) Bt Bp hw λw5 Bt Bp hw FU=>?_;go_wp2
 go_ret
 exact ⟨rfl,hw⟩
theorem rhasP_4 (T:Tri3) (p:Pt) (h0:valT T) (h1:vld p) (g0:decide (0<=ori T.A T.B p)=true) (g1:decide (0<=ori T.B T.C p)=true) (w:World):Calls prog 136 #[T,p] w (Rt w (.bool (decide (0<=ori T.C T.A p)))):=by
 have cv:=qW T;rw [h0] at cv;clear h0;have cp:=z7 p;rw [h1] at cp;clear h1;have o0:=zH T.A T.B p;generalize ori T.A T.B p=O0 at *
 have o1:=zH T.B T.C p;generalize ori T.B T.C p=O1 at *
 have o2:=zH T.C T.A p;generalize ori T.C T.A p=O2 at *
 go_enter func136,ntmps136
 go_wp2_with fail;refine qE2 λW1 Bt Bp hw=>?_;refine qC2 (cv _) Bt Bp hw λw2 Bt Bp hw FU=>?_;go_wp2_with fail;clear FU;refine qC2 (cp _) Bt Bp hw λw3 Bt Bp hw FU=>?_;go_wp2_with fail;clear FU;refine qC2 (o0 _) Bt Bp hw λw4 Bt Bp hw FU=>?_;go_wp2_with fail;clear FU;refine qC2 (o1 _) Bt Bp hw λw5 Bt Bp hw FU=>?_;go_wp2_with fail;clear FU;refine qC2 (o2 _) Bt Bp hw λw6 Bt Bp hw FU=>?_;go_wp2
 go_ret
 exact ⟨rfl,hw⟩
theorem qZ (T:Tri3) (p:Pt) (w:World):Calls prog 136 #[T,p] w (Rt w (.bool (hasP T p))):=by
 unfold hasP;cases h0:valT T with
 | false=>exact rhasP_0 T p h0 w
 | true=>cases h1:vld p with
  | false=>exact rhasP_1 T p h0 h1 w
  | true=>cases g0:decide (0<=ori T.A T.B p) with
   | false=>exact rhasP_2 T p h0 h1 g0 w
   | true=>cases g1:decide (0<=ori T.B T.C p) with
    | false=>exact rhasP_3 T p h0 h1 g0 g1 w
    | true=>exact rhasP_4 T p h0 h1 g0 g1 w
end
section
open Go.RowKit Go.Sort
attribute [local go_sem] rOper rAt rUpon cell_set sg_i64 sg_u64 alloc_cell alloc_frozen
attribute [local go_sem 10000] pt_eql pt_neq
attribute [local irreducible] rWalk
def plc (i:Int):Int:=i % 3
theorem uJ (i:Int):plc i=0\/plc i=1\/plc i=2:=by unfold plc;omega
theorem uK (i:Int):(wrap64 (i.tmod 3+3)).tmod 3=plc i:=by
 have h := @Int.tmod_eq_emod i 3;have h2:i.tmod 3=i % 3\/i.tmod 3=i % 3 - 3:=by
  split at h
  ·left;omega
  ·right;simp at h;omega
 rw [show wrap64 (i.tmod 3+3)=i.tmod 3+3 by rw [w64];omega,Vo (by omega)];unfold plc;omega
theorem jF (i:Int) (w:World):Calls prog 64 #[i] w (Rt w (.int .i64 (plc i))):=by
 rw [<-uK]
 go_enter func64,ntmps64
 go_wp2
 go_ret
 exact ⟨rfl,by go_grown⟩
def crn (T:Tri3) (i:Int):Pt:=if plc i=0 then T.A else if plc i=1 then T.B else T.C
theorem crn_plc (T:Tri3) (i:Int):crn T (plc i)=crn T i:=by
 have:plc (plc i)=plc i:=by unfold plc;omega
 unfold crn;rw [this]
theorem crn_next (T:Tri3) (i:Int):crn T (plc i+1)=crn T (i+1):=by
 have:plc (plc i+1)=plc (i+1):=by unfold plc;omega
 unfold crn;rw [this]
theorem corner_0 (T:Tri3) (i:Int) (h:plc i=0) (w:World):Calls prog 65 #[T,i] w (Rt w (.agg #[T.A.x,T.A.y])):=by
 have cp:=jF i;rw [h] at cp;clear h
 go_enter func65,ntmps65
 go_wp2_with fail;refine qE2 λW1 Bt Br hw=>?_;refine qK2 (cp _) Bt Br hw λw2 Bt Br hw=>?_;have Ft:=Bt.f;have Fr:=Br.f;go_wp2_with fail;refine bodyPost_ret (v:=.agg #[T.A.x,T.A.y]) (by simp [results,results65,go_sem,Fr]) rfl ⟨rfl,by have hl:=hw.size;go_grown⟩
theorem corner_1 (T:Tri3) (i:Int) (h:plc i=1) (w:World):Calls prog 65 #[T,i] w (Rt w (.agg #[T.B.x,T.B.y])):=by
 have cp:=jF i;rw [h] at cp;clear h
 go_enter func65,ntmps65
 go_wp2_with fail;refine qE2 λW1 Bt Br hw=>?_;refine qK2 (cp _) Bt Br hw λw2 Bt Br hw=>?_;have Ft:=Bt.f;have Fr:=Br.f;go_wp2_with fail;refine bodyPost_ret (v:=.agg #[T.B.x,T.B.y]) (by simp [results,results65,go_sem,Fr]) rfl ⟨rfl,by have hl:=hw.size;go_grown⟩
theorem corner_2 (T:Tri3) (i:Int) (h:plc i=2) (w:World):Calls prog 65 #[T,i] w (Rt w (.agg #[T.C.x,T.C.y])):=by
 have cp:=jF i;rw [h] at cp;clear h
 go_enter func65,ntmps65
 go_wp2_with fail;refine qE2 λW1 Bt Br hw=>?_;refine qK2 (cp _) Bt Br hw λw2 Bt Br hw=>?_;have Ft:=Bt.f;have Fr:=Br.f;go_wp2_with fail;refine bodyPost_ret (v:=.agg #[T.C.x,T.C.y]) (by simp [results,results65,go_sem,Fr]) rfl ⟨rfl,by have hl:=hw.size;go_grown⟩
theorem kQ (T:Tri3) (i:Int) (w:World):Calls prog 65 #[T,i] w (Rt w (.agg #[.int .i64 (crn T i).x,.int .i64 (crn T i).y])):=by
 rcases uJ i with h | h | h
 ·rw [show crn T i=T.A by unfold crn;simp [h]];exact corner_0 T i h w
 ·rw [show crn T i=T.B by unfold crn;simp [h]];exact corner_1 T i h w
 ·rw [show crn T i=T.C by unfold crn;simp [h]];exact corner_2 T i h w
theorem yk (T:Tri3) (w:World):Calls prog 67 #[T] w (Rt w (.agg #[T.B.x,T.B.y,T.C.x,T.C.y,T.A.x,T.A.y])):=by
 go_enter func67,ntmps67
 go_wp2_with fail;refine bodyPost_ret (v:=.agg #[T.B.x,T.B.y,T.C.x,T.C.y,T.A.x,T.A.y]) (by simp [results,results67,go_sem]) rfl ⟨rfl,by go_grown⟩
def leq (p q:Pt):Bool:=decide (cmpP p q<=0)
def lds (T:Tri3):Bool:=leq T.A T.B && leq T.A T.C
theorem leads_0 (T:Tri3) (h:leq T.A T.B=false) (w:World):Calls prog 66 #[T] w (Rt w (.bool false)):=by
 have c1:=zo T.A T.B;unfold leq at h;generalize cmpP T.A T.B=n at *
 go_enter func66,ntmps66
 go_wp2_with fail;refine qE1 λW1 Bt hw=>?_;refine qC1 (c1 _) Bt hw λw2 Bt hw Ft=>?_;go_wp2
 go_ret
 exact ⟨rfl,by have hl:=hw.size;go_grown⟩
theorem leads_1 (T:Tri3) (h:leq T.A T.B) (w:World):Calls prog 66 #[T] w (Rt w (.bool (leq T.A T.C))):=by
 have c1:=zo T.A T.B;have c2:=zo T.A T.C;unfold leq at h ⊢;generalize cmpP T.A T.B=n at *
 generalize cmpP T.A T.C=m at *
 go_enter func66,ntmps66
 go_wp2_with fail;refine qE1 λW1 Bt hw=>?_;refine qC1 (c1 _) Bt hw λw2 Bt hw Ft=>?_;go_wp2_with fail;clear Ft;refine qC1 (c2 _) Bt hw λw3 Bt hw Ft=>?_;go_wp2
 go_ret
 exact ⟨rfl,by have hl:=hw.size;go_grown⟩
theorem y8 (T:Tri3) (w:World):Calls prog 66 #[T] w (Rt w (.bool (lds T))):=by
 unfold lds;cases h:leq T.A T.B with
 | false=>exact leads_0 T h w
 | true=>exact leads_1 T h w
def valS (T:Tri3):Bool:=decide (0 < ori T.A T.B T.C) && lds T
theorem tvalid_0 (T:Tri3) (h:decide (0 < ori T.A T.B T.C)=false) (w:World):Calls prog 61 #[T] w (Rt w (.bool false)):=by
 have c1:=zJ T.A T.B T.C;generalize ori T.A T.B T.C=n at *
 go_enter func61,ntmps61
 go_wp2_with fail;refine qE1 λW1 Bt hw=>?_;refine qC1 (c1 _) Bt hw λw2 Bt hw Ft=>?_;go_wp2
 go_ret
 exact ⟨rfl,by have hl:=hw.size;go_grown⟩
theorem tvalid_1 (T:Tri3) (h:decide (0 < ori T.A T.B T.C)=true) (w:World):Calls prog 61 #[T] w (Rt w (.bool (lds T))):=by
 have c1:=zJ T.A T.B T.C;have c2:=y8 T;generalize ori T.A T.B T.C=n at *
 generalize lds T=m at *
 go_enter func61,ntmps61
 go_wp2_with fail;refine qE1 λW1 Bt hw=>?_;refine qC1 (c1 _) Bt hw λw2 Bt hw Ft=>?_;go_wp2_with fail;clear Ft;refine qC1 (c2 _) Bt hw λw3 Bt hw Ft=>?_;go_wp2
 go_ret
 exact ⟨rfl,by have hl:=hw.size;go_grown⟩
theorem xA {p q:Pt} (hp:vld p) (hq:vld q):leq p q=decide (key p<=key q):=by
 have h:=kr hq hp;have h2:=xO hp hq;have h3:=zL (key p - key q);unfold leq;by_cases hh:key p<=key q
 ·rw [Qk hh,Qk];omega
 ·rw [Qh hh,Qh];omega
theorem k9 {s u:Tri3}:teq s u=true↔s=u:=by
 unfold teq;simp only [JB,xJ];cases s with | mk a b c=>cases u with | mk d e f=>cases a;cases b;cases c;cases d;cases e;cases f;simp [and_assoc]
theorem Tri3.eq_iff {s u:Tri3}:s=u↔s.A=u.A/\s.B=u.B/\s.C=u.C:=by
 cases s;cases u;simp
theorem Z3 (T:Tri3):valT T=valS T:=by
 obtain ⟨a,b,c⟩:=T;unfold valT valS lds;simp only;have hb:=y6 a b c;by_cases h0:ori a b c=0
 ·simp [h0]
 ·obtain ⟨va,vb,vc⟩:=yz h0;obtain ⟨d1,d2,d3⟩:=yf h0;have n1:key a≠key b:=λh=>d1 (yj va vb h).symm;have n2:key a≠key c:=λh=>d2 (yj va vc h).symm;have n3:key b≠key c:=λh=>d3 (yj vb vc h).symm;rw [xA va vb,xA va vc,show (!decide (ori a b c=0))=true by simp [h0],Qq];rw [Qm,k9];by_cases h1:ori a b c=1
  ·rw [show mk a b c=mkT a b c by unfold mk;rw [J0 h0,JH h1]];rcases kG va vb vc n1 n2 n3 with ⟨x1,x2,e⟩ | ⟨x1,x2,e⟩ | ⟨x1,x2,e⟩ <;> rw [e,Tri3.eq_iff] <;> simp only [JB,JA]
   ·simp;omega
   ·exact ⟨λh=>absurd h.1 d1,λh=>by omega⟩
   ·exact ⟨λh=>absurd h.1 d2,λh=>by omega⟩
  ·have h2:ori a b c = -1:=by omega
   rw [show mk a b c=mkT a c b by unfold mk;rw [J0 h0,J0 h1]];rcases kG va vc vb n2 n1 n3.symm with ⟨x1,x2,e⟩ | ⟨x1,x2,e⟩ | ⟨x1,x2,e⟩ <;> rw [e,Tri3.eq_iff] <;> simp only [JB,JA]
   ·exact ⟨λh=>absurd h.2.1 d3,λh=>by omega⟩
   ·exact ⟨λh=>absurd h.1 d2,λh=>by omega⟩
   ·exact ⟨λh=>absurd h.1 d1,λh=>by omega⟩
theorem yH (T:Tri3) (w:World):Calls prog 61 #[T] w (Rt w (.bool (valT T))):=by
 rw [Z3];unfold valS;cases h:decide (0 < ori T.A T.B T.C) with
 | false=>exact tvalid_0 T h w
 | true=>exact tvalid_1 T h w
instance:DecidableEq Tri3:=λp q=>decidable_of_iff (p.A=q.A/\p.B=q.B/\p.C=q.C) Tri3.eq_iff.symm
instance:Inhabited Tri3:=⟨⟨⟨0,0⟩,⟨0,0⟩,⟨0,0⟩⟩⟩
def cP (p:Pt):List Value:=[p.x,p.y]
def cT (t:Tri3):List Value:=[t.A.x,t.A.y,t.B.x,t.B.y,t.C.x,t.C.y]
@[reducible] def eT (t:Tri3):Value:=.agg #[t.A.x,t.A.y,t.B.x,t.B.y,t.C.x,t.C.y]
def okT (t:Tri3):Prop:=okP t.A/\okP t.B/\okP t.C
abbrev Hs:=HoldsMap eW eT okW
section
variable {α:Type}
def RowAt (c:α->List Value) (k:Nat) (w:World) (a:Option Addr) (L:List α):Prop:=
 ∀ (j:Nat) (x:α),L[j]? = some x->∃ ad,a=some ad/\ad.block < w.heap.size/\∀ i u,(c x)[i]? = some u->w.cell? ((ad.add (j * k)).add i)=some u
theorem zj (a:Addr) (n:Nat):(a.add n).block=a.block:=by unfold Addr.add;split <;> rfl
theorem RowAt.ext {c:α->List Value} {k:Nat} {w w':World} {a:Option Addr} {L:List α} {n:Nat} (h:RowAt c k w a L) (hb:Below n w w') (hn:n=w.heap.size):RowAt c k w' a L:=λj x hx=>by
 obtain ⟨ad,h1,h2,h3⟩:=h j x hx;refine ⟨ad,h1,QN h2 hb.size,λi u hu=>?_⟩;rw [hb.cell (p:=(ad.add (j * k)).add i) (by rw [zj,zj,hn];exact h2)];exact h3 i u hu
theorem RowAt.ee {c:α->List Value} {k:Nat} {w w':World} {a:Option Addr} {L:List α} (h:RowAt c k w a L) (hb:Below w w w'):RowAt c k w' a L:=h.ext hb rfl
theorem RowAt.kept {c:α->List Value} {k:Nat} {w w':World} {a:Option Addr} {L:List α} {row:Option Nat} (h:RowAt c k w a L) (hg:w.grownBy w' row) (hne:∀ ad,a=some ad->some ad.block≠row):RowAt c k w' a L:=λj x hx=>by
 obtain ⟨ad,h1,h2,h3⟩:=h j x hx;refine ⟨ad,h1,QN h2 hg.size,λi u hu=>?_⟩;exact hg.cell (h3 i u hu) (by rw [zj,zj];exact hne ad h1)
theorem RowAt.nil {c:α->List Value} {k:Nat} {w:World} {a:Option Addr}:RowAt c k w a []:=λj x h=>by simp at h
theorem RowAt.old {c:α->List Value} {k:Nat} {w:World} {a:Option Addr} {L:List α} (h:RowAt c k w a L) (o:Obj):RowAt c k (w.alloc o) a L:=
 h.kept (World.grownBy_alloc w o none) (by simp)
theorem RowAt.tri {w:World} {a:Option Addr} {L:List Tri3} (h:RowAt cT 6 w a L) {j:Nat} (hj:j < L.length):∃ ad A,a=some ad/\ad.add (j * 6)=A/\(A.block=w.heap.size)=False/\A.block < w.heap.size/\(w.cell? A=some (.int .i64 L[j].A.x)/\w.cell? ⟨A.block,A.off+1,none⟩=some (.int .i64 L[j].A.y)/\w.cell? ⟨A.block,A.off+2,none⟩=some (.int .i64 L[j].B.x)/\w.cell? ⟨A.block,A.off+3,none⟩=some (.int .i64 L[j].B.y)/\w.cell? ⟨A.block,A.off+4,none⟩=some (.int .i64 L[j].C.x)/\w.cell? ⟨A.block,A.off+5,none⟩=some (.int .i64 L[j].C.y)):=by
 obtain ⟨ad,h1,h2,h3⟩:=h j L[j] (JG hj);have hb:(ad.add (j * 6)).block=ad.block:=zj _ _;refine ⟨ad,_,h1,rfl,by rw [hb];simp;omega,by rw [hb];exact h2,?_⟩;have e0:=h3 0 _ rfl;have e1:=h3 1 _ rfl;have e2:=h3 2 _ rfl;have e3:=h3 3 _ rfl;have e4:=h3 4 _ rfl;have e5:=h3 5 _ rfl;simp only [Addr.add_zero',Addr.add_succ'] at e0 e1 e2 e3 e4 e5;exact ⟨e0,e1,e2,e3,e4,e5⟩
theorem RowAt.pt {w:World} {a:Option Addr} {L:List Pt} (h:RowAt cP 2 w a L) {j:Nat} (hj:j < L.length):∃ ad A,a=some ad/\ad.add (j * 2)=A/\(A.block=w.heap.size)=False/\A.block < w.heap.size/\(w.cell? A=some (.int .i64 L[j].x)/\w.cell? ⟨A.block,A.off+1,none⟩=some (.int .i64 L[j].y)):=by
 obtain ⟨ad,h1,h2,h3⟩:=h j L[j] (JG hj);have hb:(ad.add (j * 2)).block=ad.block:=zj _ _;refine ⟨ad,_,h1,rfl,by rw [hb];simp;omega,by rw [hb];exact h2,?_⟩;have e0:=h3 0 _ rfl;have e1:=h3 1 _ rfl;simp only [Addr.add_zero',Addr.add_succ'] at e0 e1;exact ⟨e0,e1⟩
end
end
section
open Go.RowKit Go.Sort
theorem wp_region_lateG {P : Program} {C : World -> Prop} {id : Nat} {Q : Exit -> Act -> World -> Prop} {a : Act} {w : World} {l hd : List Oper} (n j s : Nat) (d t : Tmp) {T : TypeId} {zs us : List Value} {eff : Nat -> World -> World} (heff : ∀ (w : World) (b : Nat), w.heap[b]? = some (.cells zs.toArray T) -> (eff b w).heap[b]? = some (.cells us.toArray T) /\ (∀ B, B <= b -> Below B w (eff b w))) (u : Value) {oj os : Oper}
    (hoj:l.toArray[j]? = some oj) (hos:l.toArray[s]? = some os) (hjd:oj.dst=some d) (hafter:oj.after=#[]) (hguard:oj.guard=none) (hsd:os.dst=none) (hsg:os.guard=none)
    (hdsz:d < a.tmps.size)
    (hrun:∀ (ρ:Operand->Value) (w:World),(execOp ρ oj).run P w=.ok (.value (.pointer (some ⟨w,0,none⟩))) (w.alloc (.cells zs.toArray T)))
    (hm:P.follows .mixedOrders) (hB:lateB .any l.toArray n j s d t)
    (hhd:((List.range n).filter λi=>i != j && i != s).map (λi=>l.toArray[i]?)=hd.map some)
    (hC:∀ w',Below w w w'->C w')
    (h:rWalk P l.toArray C (λa'=>a'.eval (.tmp t)=u/\∀ w' b,Below w w w'->w.heap.size<=b->b < w'.heap.size->Box w' b us T->wpList P l.toArray Q (l.drop n) (a'.put (some d) (.pointer (some ⟨b,0,none⟩))) w') hd a)
    (hst:∀ (ρ:Operand->Value) (w:World) (b:Nat),ρ (.tmp d)=.pointer (some ⟨b,0,none⟩)->ρ (.tmp t)=u->Box w b zs T->(execOp ρ os).run P w=.ok .skip (eff b w)) :
    (Code.region id l.toArray true).wp P Q a w:=by
 simp only [lateB,JB,JA] at hB;obtain ⟨⟨⟨⟨⟨⟨⟨⟨⟨⟨⟨⟨⟨hsel,hn⟩,hjn⟩,hsn⟩,hjs⟩,hdt⟩,hs⟩,hc⟩,hph⟩,hbk⟩,hsj⟩,hwr⟩,hqa⟩,ho⟩:=hB;have K:Late P .any l.toArray n j s d t T zs.toArray us.toArray u oj os eff:=
  ⟨hsel,hn,hjn,hsn,hjs,hs,hc,hbk,hoj,hos,hjd,hafter,hguard,hsd,hsg,hsj,hdt,hwr,hrun,hst,λw b h=>heff w b h⟩
 have hjz:(Array.replicate l.toArray.size false).getD j true=false:=getD_in (by simp;simp at hn;omega) (getD_replicate_false _ _);have hsz:(Array.replicate l.toArray.size false).getD s true=false:=getD_in (by simp;simp at hn;omega) (getD_replicate_false _ _);have tl:∀ (m:Array Bool) (i:Nat),i < n->(m.size=l.toArray.size/\∀ t',n<=t'->t' < l.toArray.size->m.getD t' true=false)->((m.setIfInBounds i true).size=l.toArray.size/\∀ t',n<=t'->t' < l.toArray.size->(m.setIfInBounds i true).getD t' true=false):=
  λm i hi ⟨h1,h2⟩=>⟨by simpa using h1,λt' ht ht'=>by rw [getD_set_ne true (by omega)];exact h2 t' ht ht'⟩
 have i0:(Array.replicate l.toArray.size false).size=l.toArray.size/\∀ t',n<=t'->t' < l.toArray.size->(Array.replicate l.toArray.size false).getD t' true=false:=
  ⟨by simp,λt' _ ht'=>getD_in (by simpa using ht') (getD_replicate_false _ _)⟩
 have H:=yy (md:=.any) (g:=l.toArray.size - n) hsel (λm=>m.size=l.toArray.size/\∀ t',n<=t'->t' < l.toArray.size->m.getD t' true=false) (λm i hi _ hin=>tl m i hin hi) (λm hm=>vL hph hc hm.2)
  ((List.range n).filter λi=>i != j && i != s) hd _ a hhd (tl _ s hsn (tl _ j hjn i0)) ho h
 refine wp_region_any hm ?_;have R:=Zw (md:=.any) (Q:=Q) (l:=l.drop n) (w0:=w) K hqa (g:=l.toArray.size - n) (by simp) (λj=>by simp [Qr]) hC (λa' hl=>hl.1)
  (λa' w' b h1 h2 h3 h4 hl=>hl.2 w' b h1 h2 h3 h4) _ (Array.replicate l.toArray.size false) a { w with drawn:=w.drawn+1 } hdsz ⟨rfl,rfl,rfl,JJ _,λ_ _=>rfl⟩ hjz hsz headInv0 H
 have hcount:((List.range n).filter λi=>i != j && i != s).length+1+1=n:=YK hjn hsn hjs;rw [show ((List.range n).filter λi=>i != j && i != s).length+(l.toArray.size - n)+1+1=l.toArray.size by omega] at R;exact R
theorem qC {P : Program} {C : World -> Prop} {id : Nat} {Q : Exit -> Act -> World -> Prop} {a : Act} {w : World} {l : List Oper} (m : Nat) (d t : Tmp) {T : TypeId} {zs : List Value} (us : List Value) {eff : Nat -> World -> World} (heff : ∀ (w : World) (b : Nat), w.heap[b]? = some (.cells zs.toArray T) -> (eff b w).heap[b]? = some (.cells us.toArray T) /\ (∀ B, B <= b -> Below B w (eff b w))) {oj os : Oper}
    (hoj:l.toArray[m]? = some oj) (hos:l.toArray[m+1]? = some os) (hjd:oj.dst=some d) (hafter:oj.after=#[]) (hguard:oj.guard=none) (hsd:os.dst=none) (hsg:os.guard=none)
    (hdsz:d < a.tmps.size)
    (hrun:∀ (ρ:Operand->Value) (w:World),(execOp ρ oj).run P w=.ok (.value (.pointer (some ⟨w,0,none⟩))) (w.alloc (.cells zs.toArray T)))
    (hm:P.follows .mixedOrders) (hB:lateB .any l.toArray (m+2) m (m+1) d t=true)
    (hC:∀ w',Below w w w'->C w')
    (h:rWalk P l.toArray C (λa'=>a'.eval (.tmp t)=.agg us.toArray/\∀ w' b,Below w w w'->w.heap.size<=b->b < w'.heap.size->Box w' b us T->wpList P l.toArray Q (l.drop (m+2)) (a'.put (some d) (.pointer (some ⟨b,0,none⟩))) w') (l.take m) a)
    (hst:∀ (ρ:Operand->Value) (w:World) (b:Nat),ρ (.tmp d)=.pointer (some ⟨b,0,none⟩)->ρ (.tmp t)=.agg us.toArray->Box w b zs T->(execOp ρ os).run P w=.ok .skip (eff b w)) :
    (Code.region id l.toArray true).wp P Q a w:=by
 refine wp_region_lateG (hd:=l.take m) (m+2) m (m+1) d t heff _ hoj hos hjd hafter hguard hsd hsg hdsz hrun hm hB ?_ hC h hst;have hn:m+2 < l.length:=by
  simp only [lateB,JB,JA] at hB;have:=hB.1.1.1.1.1.1.1.1.1.1.1.1.2
  simpa using this
 rw [Zk];apply VI;intro j;simp only [VJ,QX];by_cases hj:j < m
 ·simp [hj,show j < l.length by omega]
 ·simp [hj]
def eff6 (c0 c1 c2 c3 c4 c5:Value) (b:Nat) (w:World):World:=(((((w.setCell ⟨b,0,none⟩ c0).setCell ⟨b,1,none⟩ c1).setCell ⟨b,2,none⟩ c2).setCell ⟨b,3,none⟩ c3).setCell ⟨b,4,none⟩ c4).setCell ⟨b,5,none⟩ c5
theorem eff6_spec {c0 c1 c2 c3 c4 c5 z:Value} {T:TypeId} (w:World) (b:Nat) (h:w.heap[b]? = some (.cells [z,z,z,z,z,z].toArray T)):(eff6 c0 c1 c2 c3 c4 c5 b w).heap[b]? = some (.cells [c0,c1,c2,c3,c4,c5].toArray T)/\(∀ B,B<=b->Below B w (eff6 c0 c1 c2 c3 c4 c5 b w)):=by
 have B0:Box w b [z,z,z,z,z,z] T:=h;exact ⟨(((((B0.set 0 c0).set 1 c1).set 2 c2).set 3 c3).set 4 c4).set 5 c5,λB hB=>((((((Below.refl B w).setCell hB _).setCell hB _).setCell hB _).setCell hB _).setCell hB _).setCell hB _⟩
end
end Go.Proofs.YthhcehmmglmlfaaGreat
