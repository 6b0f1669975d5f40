/- Put together: ExK, ExL, ExU. -/
import Derived.Test.YtogffkimgmlilaaGreatPfb7
import Derived.LoopN
set_option maxRecDepth 100000
set_option maxHeartbeats 8000000
set_option linter.all false
namespace Go.Proofs.YtogffkimgmlilaaGreat
open Go.RowKit Go.Sort _root_.Go.Proofs.Tryz
section
attribute [local go_sem] rOper rAt rUpon cell_set sg_i64 sg_u64 alloc_cell alloc_frozen
attribute [local go_sem 10000] pt_eql pt_neq
attribute [local irreducible] rWalk
theorem rcircle_0 (a b c d:Pt) (h0:ori a b c=0) (w:World):Calls prog 26 #[a,b,c,d] w (Rt w (.int .i64 0)):=by
 have co:=zA3 a b c;rw [h0] at co;clear h0
 go_enter func26,ntmps26
 go_wp2_with fail;refine qE4 fun W1 Ba Bb Bc Bd hw=>?_;refine qK4 (co _) Ba Bb Bc Bd hw fun w2 Ba Bb Bc Bd hw=>?_;go_wp2
 go_ret
 exact ⟨rfl,hw⟩
theorem zKh (a b c d:Pt) (h0:¬ ori a b c=0) (hv:vld d=false) (w:World):Calls prog 26 #[a,b,c,d] w (Rt w (.int .i64 0)):=by
 have co:=zA3 a b c;have cv:=zA0 d;rw [hv] at cv;clear hv;have bo:=zAw a b c;generalize ori a b c=o at *
 have t0:(o == 0)=false:=by simpa using h0
 clear h0
 go_enter func26,ntmps26
 go_wp2_with fail;refine qE4 fun W1 Ba Bb Bc Bd hw=>?_;refine qC4 (co _) Ba Bb Bc Bd hw fun w2 Ba Bb Bc Bd hw F_abcd=>?_;go_wp2_with fail;clear F_abcd;refine qC4 (cv _) Ba Bb Bc Bd hw fun w3 Ba Bb Bc Bd hw F_abcd=>?_;go_wp2
 go_ret
 exact ⟨rfl,hw⟩
theorem zKg (a b c d:Pt) (h0:¬ ori a b c=0) (hv:vld d=true) (e1:peqI d.x d.y a.x a.y=true) (w:World):Calls prog 26 #[a,b,c,d] w (Rt w (.int .i64 0)):=by
 have co:=zA3 a b c;have cv:=zA0 d;rw [hv] at cv;clear hv;have bo:=zAw a b c;generalize ori a b c=o at *
 have t0:(o == 0)=false:=by simpa using h0
 clear h0
 go_enter func26,ntmps26
 go_wp2_with fail;refine qE4 fun W1 Ba Bb Bc Bd hw=>?_;refine qC4 (co _) Ba Bb Bc Bd hw fun w2 Ba Bb Bc Bd hw F_abcd=>?_;go_wp2_with fail;clear F_abcd;refine qC4 (cv _) Ba Bb Bc Bd hw fun w3 Ba Bb Bc Bd hw F_abcd=>?_;go_wp2
 go_ret
 exact ⟨rfl,hw⟩
theorem zKf (a b c d:Pt) (h0:¬ ori a b c=0) (hv:vld d=true) (e1:peqI d.x d.y a.x a.y=false) (e2:peqI d.x d.y b.x b.y=true) (w:World):Calls prog 26 #[a,b,c,d] w (Rt w (.int .i64 0)):=by
 have co:=zA3 a b c;have cv:=zA0 d;rw [hv] at cv;clear hv;have bo:=zAw a b c;generalize ori a b c=o at *
 have t0:(o == 0)=false:=by simpa using h0
 clear h0
 go_enter func26,ntmps26
 go_wp2_with fail;refine qE4 fun W1 Ba Bb Bc Bd hw=>?_;refine qC4 (co _) Ba Bb Bc Bd hw fun w2 Ba Bb Bc Bd hw F_abcd=>?_;go_wp2_with fail;clear F_abcd;refine qC4 (cv _) Ba Bb Bc Bd hw fun w3 Ba Bb Bc Bd hw F_abcd=>?_;go_wp2
 go_ret
 exact ⟨rfl,hw⟩
theorem zKe (a b c d:Pt) (h0:¬ ori a b c=0) (hv:vld d=true) (e1:peqI d.x d.y a.x a.y=false) (e2:peqI d.x d.y b.x b.y=false) (e3:peqI d.x d.y c.x c.y=true) (w:World):Calls prog 26 #[a,b,c,d] w (Rt w (.int .i64 0)):=by
 have co:=zA3 a b c;have cv:=zA0 d;rw [hv] at cv;clear hv;have bo:=zAw a b c;generalize ori a b c=o at *
 have t0:(o == 0)=false:=by simpa using h0
 clear h0
 go_enter func26,ntmps26
 go_wp2_with fail;refine qE4 fun W1 Ba Bb Bc Bd hw=>?_;refine qC4 (co _) Ba Bb Bc Bd hw fun w2 Ba Bb Bc Bd hw F_abcd=>?_;go_wp2_with fail;clear F_abcd;refine qC4 (cv _) Ba Bb Bc Bd hw fun w3 Ba Bb Bc Bd hw F_abcd=>?_;go_wp2
 go_ret
 exact ⟨rfl,hw⟩
theorem lft_r (u v z:Pt):(u.x * u.x+u.y * u.y) * (v.x * z.y - z.x * v.y) + -((v.x * v.x+v.y * v.y) * (u.x * z.y - z.x * u.y))+(z.x * z.x+z.y * z.y) * (u.x * v.y - v.x * u.y)=ht u * cr v z+ht v * cr z u+ht z * cr u v:=by
 unfold ht cr;grind
theorem rcircle_5 (a b c d:Pt) (h0:ori a b c=1) (hv:vld d=true) (e1:peqI d.x d.y a.x a.y=false) (e2:peqI d.x d.y b.x b.y=false) (e3:peqI d.x d.y c.x c.y=false) (hl:¬ sgn (lft a b c d)=0) (w:World):Calls prog 26 #[a,b,c,d] w (Rt w (.int .i64 (sgn (lft a b c d)))):=by
 have hvv:vld a=true∧vld b=true∧vld c=true:=zBy (by omega);obtain ⟨vva,vvb,vvc⟩:=hvv;have co:=zA3 a b c;rw [h0] at co;have cv:=zA0 d;rw [hv] at cv;have su:=zE0 hv vva;have sv:=zE0 hv vvb;have sz:=zE0 hv vvc;have el:=lft_r (way d a) (way d b) (way d c);have el':lft a b c d=ht (way d a) * cr (way d b) (way d c)+ht (way d b) * cr (way d c) (way d a)+ht (way d c) * cr (way d a) (way d b):=rfl;rw [←el'] at el;have ww1:IntKind.i64.wrap (a.x - d.x)=(way d a).x:=by rw [zAm] at *;rw [IntKind.wrap_i64];unfold way;simp only;omega
 have ww2:IntKind.i64.wrap (a.y - d.y)=(way d a).y:=by rw [zAm] at *;rw [IntKind.wrap_i64];unfold way;simp only;omega
 have ww3:IntKind.i64.wrap (b.x - d.x)=(way d b).x:=by rw [zAm] at *;rw [IntKind.wrap_i64];unfold way;simp only;omega
 have ww4:IntKind.i64.wrap (b.y - d.y)=(way d b).y:=by rw [zAm] at *;rw [IntKind.wrap_i64];unfold way;simp only;omega
 have ww5:IntKind.i64.wrap (c.x - d.x)=(way d c).x:=by rw [zAm] at *;rw [IntKind.wrap_i64];unfold way;simp only;omega
 have ww6:IntKind.i64.wrap (c.y - d.y)=(way d c).y:=by rw [zAm] at *;rw [IntKind.wrap_i64];unfold way;simp only;omega
 clear el';generalize way d a=u at *
 generalize way d b=v at *
 generalize way d c=z at *
 have a1:=zBi su.1 su.1;have a2:=zBi su.2 su.2;have a3:=zBi sv.1 sv.1;have a4:=zBi sv.2 sv.2;have a5:=zBi sz.1 sz.1;have a6:=zBi sz.2 sz.2;have a7:=zBi sv.1 sz.2;have a8:=zBi sz.1 sv.2;have a9:=zBi su.1 sz.2;have a10:=zBi sz.1 su.2;have a11:=zBi su.1 sv.2;have a12:=zBi sv.1 su.2;have g1:=zD7 u.x;have g2:=zD7 u.y;have g3:=zD7 v.x;have g4:=zD7 v.y;have g5:=zD7 z.x;have g6:=zD7 z.y;have m1:=r_mul (u.x * u.x+u.y * u.y) (v.x * z.y - z.x * v.y) (by omega) (by omega) (by omega) (by omega);have m2:=r_mul (v.x * v.x+v.y * v.y) (u.x * z.y - z.x * u.y) (by omega) (by omega) (by omega) (by omega);have m3:=r_mul (z.x * z.x+z.y * z.y) (u.x * v.y - v.x * u.y) (by omega) (by omega) (by omega) (by omega);have p1:=zEu (p:=u.x * u.x+u.y * u.y) (q:=v.x * z.y - z.x * v.y) (by omega) (by omega);have p2:=zEu (p:=v.x * v.x+v.y * v.y) (q:=u.x * z.y - z.x * u.y) (by omega) (by omega);have p3:=zEu (p:=z.x * z.x+z.y * z.y) (q:=u.x * v.y - v.x * u.y) (by omega) (by omega);generalize (u.x * u.x+u.y * u.y) * (v.x * z.y - z.x * v.y)=P1 at *
 generalize (v.x * v.x+v.y * v.y) * (u.x * z.y - z.x * u.y)=P2 at *
 generalize (z.x * z.x+z.y * z.y) * (u.x * v.y - v.x * u.y)=P3 at *
 have n2:=zNl (cH P2) (cL P2) (ok_c _);rw [V_c (zAn.2 ⟨by omega,by omega⟩),(m_c (n := -P2) (zAn.2 ⟨by omega,by omega⟩)).1,(m_c (n := -P2) (zAn.2 ⟨by omega,by omega⟩)).2] at n2;have s1:=zF0 (cH P1) (cL P1) (cH (-P2)) (cL (-P2)) (ok_c _) (ok_c _);rw [V_c (zAn.2 ⟨by omega,by omega⟩),V_c (zAn.2 ⟨by omega,by omega⟩),(m_c (n:=P1 + -P2) (zAn.2 ⟨by omega,by omega⟩)).1,(m_c (n:=P1 + -P2) (zAn.2 ⟨by omega,by omega⟩)).2] at s1;have s2:=zF0 (cH (P1 + -P2)) (cL (P1 + -P2)) (cH P3) (cL P3) (ok_c _) (ok_c _);rw [V_c (zAn.2 ⟨by omega,by omega⟩),V_c (zAn.2 ⟨by omega,by omega⟩),(m_c (n:=P1 + -P2+P3) (zAn.2 ⟨by omega,by omega⟩)).1,(m_c (n:=P1 + -P2+P3) (zAn.2 ⟨by omega,by omega⟩)).2] at s2;have s3:=r_sign (cH (P1 + -P2+P3)) (cL (P1 + -P2+P3)) (ok_c _);rw [V_c (zAn.2 ⟨by omega,by omega⟩)] at s3;generalize cH (P1 + -P2+P3)=H3 at *
 generalize cL (P1 + -P2+P3)=L3 at *
 rw [el] at s3;clear p1 p2 p3 el su sv sz vva vvb vvc hv h0;generalize sgn (lft a b c d)=S at *
 generalize cH (P1 + -P2)=H2 at *
 generalize cL (P1 + -P2)=L2 at *
 generalize cH P1=H0 at *
 generalize cL P1=L0 at *
 generalize cH (-P2)=H5 at *
 generalize cL (-P2)=L5 at *
 generalize cH P2=H1 at *
 generalize cL P2=L1 at *
 generalize cH P3=H4 at *
 generalize cL P3=L4 at *
 have t1:(S != 0)=true:=by simpa using hl
 clear hl
 go_enter func26,ntmps26
 go_wp2_with fail;refine qE4 fun W1 Ba Bb Bc Bd hw=>?_;refine qK4 (co _) Ba Bb Bc Bd hw fun w2 Ba Bb Bc Bd hw=>?_;have Fa:=Ba.f;have Fb:=Bb.f;have Fc:=Bc.f;have Fd:=Bd.f;go_wp2_with fail;clear Fa Fb Fc Fd;refine qK4 (cv _) Ba Bb Bc Bd hw fun w3 Ba Bb Bc Bd hw=>?_;have Fa:=Ba.f;have Fb:=Bb.f;have Fc:=Bc.f;have Fd:=Bd.f;go_wp2;refine zA1 fun W4 hW=>?_;subst hW;clear Fa Fb Fc Fd;have ga:=Ba.cells;have gb:=Bb.cells;have gc:=Bc.cells;have gd:=Bd.cells;refine rgn 35 (fun w5 hb=>?_);clear ga gb gc gd;obtain ⟨Ba,Bb,Bc,Bd,hw,-⟩:=qX4 Ba Bb Bc Bd hw hb;clear ww1 ww2 ww3 ww4 ww5 ww6;have Fa:=Ba.f;have Fb:=Bb.f;have Fc:=Bc.f;have Fd:=Bd.f;go_wp2_with fail;clear Fa Fb Fc Fd;refine qK4 (m1 _) Ba Bb Bc Bd hw fun w6 Ba Bb Bc Bd hw=>?_;have Fa:=Ba.f;have Fb:=Bb.f;have Fc:=Bc.f;have Fd:=Bd.f;go_wp2_with fail;refine zA1 fun W7 hW=>?_;obtain ⟨bkz,hbz⟩:∃ b,w6.heap.size=b:=⟨_,rfl⟩;rw [hbz];obtain ⟨laz,lbz,lcz,ldz,fz,Bz,Ba,Bb,Bc,Bd,hw⟩:=qM4 hW hbz Ba Bb Bc Bd hw;clear hW hbz;have rr0:Hid (IntKind.i64.wrap (v.x * v.x)=v.x * v.x):=hdd (by rw [IntKind.wrap_i64];omega);have rr1:Hid (IntKind.i64.wrap (v.y * v.y)=v.y * v.y):=hdd (by rw [IntKind.wrap_i64];omega);have rr2:Hid (IntKind.i64.wrap (v.x * v.x+v.y * v.y)=v.x * v.x+v.y * v.y):=hdd (by rw [IntKind.wrap_i64];omega);have rr3:Hid (IntKind.i64.wrap (u.x * z.y)=u.x * z.y):=hdd (by rw [IntKind.wrap_i64];omega);have rr4:Hid (IntKind.i64.wrap (z.x * u.y)=z.x * u.y):=hdd (by rw [IntKind.wrap_i64];omega);have rr5:Hid (IntKind.i64.wrap (u.x * z.y - z.x * u.y)=u.x * z.y - z.x * u.y):=hdd (by rw [IntKind.wrap_i64];omega);have qq0:=rr0.out;clear rr0;have qq1:=rr1.out;clear rr1;have qq2:=rr2.out;clear rr2;have qq3:=rr3.out;clear rr3;have qq4:=rr4.out;clear rr4;have qq5:=rr5.out;clear rr5;have ga:=Ba.cells;have gb:=Bb.cells;have gc:=Bc.cells;have gd:=Bd.cells;have gz:=Bz.cells;refine rgn 18 (fun w8 hb=>?_);clear ga gb gc gd gz;clear Fa Fb Fc Fd;obtain ⟨Ba,Bb,Bc,Bd,Bz,hw,-⟩:=qX5 Ba Bb Bc Bd Bz hw hb;clear qq0 qq1 qq2 qq3 qq4 qq5;have Fa:=Ba.f;have Fb:=Bb.f;have Fc:=Bc.f;have Fd:=Bd.f;have Fz:=Bz.f;go_wp2_with fail;refine zA1 fun W9 hW=>?_;replace Ba:=sto Ba hW;replace Bb:=sto Bb hW;replace Bc:=sto Bc hW;replace Bd:=sto Bd hW;replace Bz:=sto Bz hW;replace hw:=stw hw hW;clear Fa Fb Fc Fd Fz;clear hW;have rr0:Hid (IntKind.i64.wrap (z.x * z.x)=z.x * z.x):=hdd (by rw [IntKind.wrap_i64];omega);have rr1:Hid (IntKind.i64.wrap (z.y * z.y)=z.y * z.y):=hdd (by rw [IntKind.wrap_i64];omega);have rr2:Hid (IntKind.i64.wrap (z.x * z.x+z.y * z.y)=z.x * z.x+z.y * z.y):=hdd (by rw [IntKind.wrap_i64];omega);have rr3:Hid (IntKind.i64.wrap (u.x * v.y)=u.x * v.y):=hdd (by rw [IntKind.wrap_i64];omega);have rr4:Hid (IntKind.i64.wrap (v.x * u.y)=v.x * u.y):=hdd (by rw [IntKind.wrap_i64];omega);have rr5:Hid (IntKind.i64.wrap (u.x * v.y - v.x * u.y)=u.x * v.y - v.x * u.y):=hdd (by rw [IntKind.wrap_i64];omega);have qq0:=rr0.out;clear rr0;have qq1:=rr1.out;clear rr1;have qq2:=rr2.out;clear rr2;have qq3:=rr3.out;clear rr3;have qq4:=rr4.out;clear rr4;have qq5:=rr5.out;clear rr5;have ga:=Ba.cells;have gb:=Bb.cells;have gc:=Bc.cells;have gd:=Bd.cells;have gz:=Bz.cells;refine rgn 17 (fun w10 hb=>?_);clear ga gb gc gd gz;obtain ⟨Ba,Bb,Bc,Bd,Bz,hw,-⟩:=qX5 Ba Bb Bc Bd Bz hw hb;clear qq0 qq1 qq2 qq3 qq4 qq5 a1 a2 a3 a4 a5 a6 a7 a8 a9 a10 a11 a12 g1 g2 g3 g4 g5 g6;have Fa:=Ba.f;have Fb:=Bb.f;have Fc:=Bc.f;have Fd:=Bd.f;have Fz:=Bz.f;go_wp2_with fail;refine zA4 fun W11 hW=>?_;replace Ba:=sto Ba hW;replace Bb:=sto Bb hW;replace Bc:=sto Bc hW;replace Bd:=sto Bd hW;replace Bz:=sto Bz hW;replace hw:=stw hw hW;clear Fa Fb Fc Fd Fz;clear hW;refine qK5 (s3 _) Ba Bb Bc Bd Bz hw fun w12 Ba Bb Bc Bd Bz hw=>?_;go_wp2
 go_ret
 exact ⟨rfl,hw⟩
theorem zHq {a b c d:Int}:peqI a b c d=peqI c d a b:=by
 rw [jCs,zC9,zC9];omega
theorem zEc (a b:Int):peqI a b a b=true:=by rw [zC9];exact ⟨rfl,rfl⟩
theorem det_ne {a b c:Pt} (h:¬ ori a b c=0):peqI b.x b.y a.x a.y=false∧peqI c.x c.y a.x a.y=false∧peqI c.x c.y b.x b.y=false:=by
 have hd:¬ det a b c=0:=fun hd=>h (by unfold ori;rw [hd];simp [sgn]);refine ⟨?_,?_,?_⟩ <;> (rw [←jBl,zC9];rintro ⟨h1,h2⟩;apply hd;unfold det;rw [h1,h2])
 ·simp
 ·simp
 ·grind
theorem rcircle_6 (a b c d:Pt) (h0:ori a b c=1) (hv:vld d=true) (e1:peqI d.x d.y a.x a.y=false) (e2:peqI d.x d.y b.x b.y=false) (e3:peqI d.x d.y c.x c.y=false) (hl:sgn (lft a b c d)=0) (w:World):Calls prog 26 #[a,b,c,d] w fun e w'=>e=.returned (.int .i64 (tie a b c d (lsr c (lsr b (lsr a d))) 1))∧Below w w w':=by
 have hvv:vld a=true∧vld b=true∧vld c=true:=zBy (by omega);obtain ⟨vva,vvb,vvc⟩:=hvv;have co:=zA3 a b c;rw [h0] at co;have cv:=zA0 d;rw [hv] at cv;have su:=zE0 hv vva;have sv:=zE0 hv vvb;have sz:=zE0 hv vvc;have el:=lft_r (way d a) (way d b) (way d c);have el':lft a b c d=ht (way d a) * cr (way d b) (way d c)+ht (way d b) * cr (way d c) (way d a)+ht (way d c) * cr (way d a) (way d b):=rfl;rw [←el'] at el;have ww1:IntKind.i64.wrap (a.x - d.x)=(way d a).x:=by rw [zAm] at *;rw [IntKind.wrap_i64];unfold way;simp only;omega
 have ww2:IntKind.i64.wrap (a.y - d.y)=(way d a).y:=by rw [zAm] at *;rw [IntKind.wrap_i64];unfold way;simp only;omega
 have ww3:IntKind.i64.wrap (b.x - d.x)=(way d b).x:=by rw [zAm] at *;rw [IntKind.wrap_i64];unfold way;simp only;omega
 have ww4:IntKind.i64.wrap (b.y - d.y)=(way d b).y:=by rw [zAm] at *;rw [IntKind.wrap_i64];unfold way;simp only;omega
 have ww5:IntKind.i64.wrap (c.x - d.x)=(way d c).x:=by rw [zAm] at *;rw [IntKind.wrap_i64];unfold way;simp only;omega
 have ww6:IntKind.i64.wrap (c.y - d.y)=(way d c).y:=by rw [zAm] at *;rw [IntKind.wrap_i64];unfold way;simp only;omega
 clear el';generalize way d a=u at *
 generalize way d b=v at *
 generalize way d c=z at *
 have a1:=zBi su.1 su.1;have a2:=zBi su.2 su.2;have a3:=zBi sv.1 sv.1;have a4:=zBi sv.2 sv.2;have a5:=zBi sz.1 sz.1;have a6:=zBi sz.2 sz.2;have a7:=zBi sv.1 sz.2;have a8:=zBi sz.1 sv.2;have a9:=zBi su.1 sz.2;have a10:=zBi sz.1 su.2;have a11:=zBi su.1 sv.2;have a12:=zBi sv.1 su.2;have g1:=zD7 u.x;have g2:=zD7 u.y;have g3:=zD7 v.x;have g4:=zD7 v.y;have g5:=zD7 z.x;have g6:=zD7 z.y;have m1:=r_mul (u.x * u.x+u.y * u.y) (v.x * z.y - z.x * v.y) (by omega) (by omega) (by omega) (by omega);have m2:=r_mul (v.x * v.x+v.y * v.y) (u.x * z.y - z.x * u.y) (by omega) (by omega) (by omega) (by omega);have m3:=r_mul (z.x * z.x+z.y * z.y) (u.x * v.y - v.x * u.y) (by omega) (by omega) (by omega) (by omega);have p1:=zEu (p:=u.x * u.x+u.y * u.y) (q:=v.x * z.y - z.x * v.y) (by omega) (by omega);have p2:=zEu (p:=v.x * v.x+v.y * v.y) (q:=u.x * z.y - z.x * u.y) (by omega) (by omega);have p3:=zEu (p:=z.x * z.x+z.y * z.y) (q:=u.x * v.y - v.x * u.y) (by omega) (by omega);generalize (u.x * u.x+u.y * u.y) * (v.x * z.y - z.x * v.y)=P1 at *
 generalize (v.x * v.x+v.y * v.y) * (u.x * z.y - z.x * u.y)=P2 at *
 generalize (z.x * z.x+z.y * z.y) * (u.x * v.y - v.x * u.y)=P3 at *
 have n2:=zNl (cH P2) (cL P2) (ok_c _);rw [V_c (zAn.2 ⟨by omega,by omega⟩),(m_c (n := -P2) (zAn.2 ⟨by omega,by omega⟩)).1,(m_c (n := -P2) (zAn.2 ⟨by omega,by omega⟩)).2] at n2;have s1:=zF0 (cH P1) (cL P1) (cH (-P2)) (cL (-P2)) (ok_c _) (ok_c _);rw [V_c (zAn.2 ⟨by omega,by omega⟩),V_c (zAn.2 ⟨by omega,by omega⟩),(m_c (n:=P1 + -P2) (zAn.2 ⟨by omega,by omega⟩)).1,(m_c (n:=P1 + -P2) (zAn.2 ⟨by omega,by omega⟩)).2] at s1;have s2:=zF0 (cH (P1 + -P2)) (cL (P1 + -P2)) (cH P3) (cL P3) (ok_c _) (ok_c _);rw [V_c (zAn.2 ⟨by omega,by omega⟩),V_c (zAn.2 ⟨by omega,by omega⟩),(m_c (n:=P1 + -P2+P3) (zAn.2 ⟨by omega,by omega⟩)).1,(m_c (n:=P1 + -P2+P3) (zAn.2 ⟨by omega,by omega⟩)).2] at s2;have s3:=r_sign (cH (P1 + -P2+P3)) (cL (P1 + -P2+P3)) (ok_c _);rw [V_c (zAn.2 ⟨by omega,by omega⟩)] at s3;generalize cH (P1 + -P2+P3)=H3 at *
 generalize cL (P1 + -P2+P3)=L3 at *
 rw [el] at s3;obtain ⟨d1,d2,d3⟩:=det_ne (a:=a) (b:=b) (c:=c) (by rw [h0];omega);clear p1 p2 p3 el su sv sz vva vvb vvc hv h0;generalize sgn (lft a b c d)=S at *
 generalize cH (P1 + -P2)=H2 at *
 generalize cL (P1 + -P2)=L2 at *
 generalize cH P1=H0 at *
 generalize cL P1=L0 at *
 generalize cH (-P2)=H5 at *
 generalize cL (-P2)=L5 at *
 generalize cH P2=H1 at *
 generalize cL P2=L1 at *
 generalize cH P3=H4 at *
 generalize cL P3=L4 at *
 have f1:peqI a.x a.y d.x d.y=false:=by rw [zHq];exact e1
 have f2:peqI b.x b.y d.x d.y=false:=by rw [zHq];exact e2
 have f3:peqI c.x c.y d.x d.y=false:=by rw [zHq];exact e3
 have i1:=zEc a.x a.y;have i2:=zEc b.x b.y;have i3:=zEc d.x d.y;have t1:(S != 0)=false:=by simpa using hl
 clear hl
 go_enter func26,ntmps26
 go_wp2_with fail;refine qE4 fun W1 Ba Bb Bc Bd hw=>?_;refine qK4 (co _) Ba Bb Bc Bd hw fun w2 Ba Bb Bc Bd hw=>?_;have Fa:=Ba.f;have Fb:=Bb.f;have Fc:=Bc.f;have Fd:=Bd.f;go_wp2_with fail;clear Fa Fb Fc Fd;refine qK4 (cv _) Ba Bb Bc Bd hw fun w3 Ba Bb Bc Bd hw=>?_;have Fa:=Ba.f;have Fb:=Bb.f;have Fc:=Bc.f;have Fd:=Bd.f;go_wp2;refine zA1 fun W4 hW=>?_;subst hW;clear Fa Fb Fc Fd;have ga:=Ba.cells;have gb:=Bb.cells;have gc:=Bc.cells;have gd:=Bd.cells;refine rgn 35 (fun w5 hb=>?_);clear ga gb gc gd;obtain ⟨Ba,Bb,Bc,Bd,hw,-⟩:=qX4 Ba Bb Bc Bd hw hb;clear ww1 ww2 ww3 ww4 ww5 ww6;have Fa:=Ba.f;have Fb:=Bb.f;have Fc:=Bc.f;have Fd:=Bd.f;go_wp2_with fail;clear Fa Fb Fc Fd;refine qK4 (m1 _) Ba Bb Bc Bd hw fun w6 Ba Bb Bc Bd hw=>?_;have Fa:=Ba.f;have Fb:=Bb.f;have Fc:=Bc.f;have Fd:=Bd.f;go_wp2_with fail;refine zA1 fun W7 hW=>?_;obtain ⟨bkz,hbz⟩:∃ b,w6.heap.size=b:=⟨_,rfl⟩;rw [hbz];obtain ⟨laz,lbz,lcz,ldz,fz,Bz,Ba,Bb,Bc,Bd,hw⟩:=qM4 hW hbz Ba Bb Bc Bd hw;clear hW hbz;have rr0:Hid (IntKind.i64.wrap (v.x * v.x)=v.x * v.x):=hdd (by rw [IntKind.wrap_i64];omega);have rr1:Hid (IntKind.i64.wrap (v.y * v.y)=v.y * v.y):=hdd (by rw [IntKind.wrap_i64];omega);have rr2:Hid (IntKind.i64.wrap (v.x * v.x+v.y * v.y)=v.x * v.x+v.y * v.y):=hdd (by rw [IntKind.wrap_i64];omega);have rr3:Hid (IntKind.i64.wrap (u.x * z.y)=u.x * z.y):=hdd (by rw [IntKind.wrap_i64];omega);have rr4:Hid (IntKind.i64.wrap (z.x * u.y)=z.x * u.y):=hdd (by rw [IntKind.wrap_i64];omega);have rr5:Hid (IntKind.i64.wrap (u.x * z.y - z.x * u.y)=u.x * z.y - z.x * u.y):=hdd (by rw [IntKind.wrap_i64];omega);have qq0:=rr0.out;clear rr0;have qq1:=rr1.out;clear rr1;have qq2:=rr2.out;clear rr2;have qq3:=rr3.out;clear rr3;have qq4:=rr4.out;clear rr4;have qq5:=rr5.out;clear rr5;have ga:=Ba.cells;have gb:=Bb.cells;have gc:=Bc.cells;have gd:=Bd.cells;have gz:=Bz.cells;refine rgn 18 (fun w8 hb=>?_);clear ga gb gc gd gz;clear Fa Fb Fc Fd;obtain ⟨Ba,Bb,Bc,Bd,Bz,hw,-⟩:=qX5 Ba Bb Bc Bd Bz hw hb;clear qq0 qq1 qq2 qq3 qq4 qq5;have Fa:=Ba.f;have Fb:=Bb.f;have Fc:=Bc.f;have Fd:=Bd.f;have Fz:=Bz.f;go_wp2_with fail;refine zA1 fun W9 hW=>?_;replace Ba:=sto Ba hW;replace Bb:=sto Bb hW;replace Bc:=sto Bc hW;replace Bd:=sto Bd hW;replace Bz:=sto Bz hW;replace hw:=stw hw hW;clear Fa Fb Fc Fd Fz;clear hW;have rr0:Hid (IntKind.i64.wrap (z.x * z.x)=z.x * z.x):=hdd (by rw [IntKind.wrap_i64];omega);have rr1:Hid (IntKind.i64.wrap (z.y * z.y)=z.y * z.y):=hdd (by rw [IntKind.wrap_i64];omega);have rr2:Hid (IntKind.i64.wrap (z.x * z.x+z.y * z.y)=z.x * z.x+z.y * z.y):=hdd (by rw [IntKind.wrap_i64];omega);have rr3:Hid (IntKind.i64.wrap (u.x * v.y)=u.x * v.y):=hdd (by rw [IntKind.wrap_i64];omega);have rr4:Hid (IntKind.i64.wrap (v.x * u.y)=v.x * u.y):=hdd (by rw [IntKind.wrap_i64];omega);have rr5:Hid (IntKind.i64.wrap (u.x * v.y - v.x * u.y)=u.x * v.y - v.x * u.y):=hdd (by rw [IntKind.wrap_i64];omega);have qq0:=rr0.out;clear rr0;have qq1:=rr1.out;clear rr1;have qq2:=rr2.out;clear rr2;have qq3:=rr3.out;clear rr3;have qq4:=rr4.out;clear rr4;have qq5:=rr5.out;clear rr5;have ga:=Ba.cells;have gb:=Bb.cells;have gc:=Bc.cells;have gd:=Bd.cells;have gz:=Bz.cells;refine rgn 17 (fun w10 hb=>?_);clear ga gb gc gd gz;obtain ⟨Ba,Bb,Bc,Bd,Bz,hw,-⟩:=qX5 Ba Bb Bc Bd Bz hw hb;clear qq0 qq1 qq2 qq3 qq4 qq5 a1 a2 a3 a4 a5 a6 a7 a8 a9 a10 a11 a12 g1 g2 g3 g4 g5 g6;have Fa:=Ba.f;have Fb:=Bb.f;have Fc:=Bc.f;have Fd:=Bd.f;have Fz:=Bz.f;go_wp2_with fail;refine zA4 fun W11 hW=>?_;replace Ba:=sto Ba hW;replace Bb:=sto Bb hW;replace Bc:=sto Bc hW;replace Bd:=sto Bd hW;replace Bz:=sto Bz hW;replace hw:=stw hw hW;clear Fa Fb Fc Fd Fz;clear hW;refine qK5 (s3 _) Ba Bb Bc Bd Bz hw fun w12 Ba Bb Bc Bd Bz hw=>?_;have Fa:=Ba.f;have Fb:=Bb.f;have Fc:=Bc.f;have Fd:=Bd.f;have Fz:=Bz.f;go_wp2_with fail;refine zA4 fun W13 hW=>?_;obtain ⟨bkx,hbx⟩:∃ b,w12.heap.size=b:=⟨_,rfl⟩;rw [hbx];obtain ⟨lax,lbx,lcx,ldx,lzx,fx,Bx,Ba,Bb,Bc,Bd,Bz,hw⟩:=qM5 hW hbx Ba Bb Bc Bd Bz hw;clear hW hbx;have Fa:=Ba.f;have Fb:=Bb.f;have Fc:=Bc.f;have Fd:=Bd.f;have Fz:=Bz.f;have Fx:=Bx.f;have kc:=zAe a d;have L1:Hid (lsr a d=if cmpP a d < 0 then a else d):=hdd rfl;generalize cmpP a d=k0 at *
 clear Fa Fb Fc Fd Fz Fx;refine qK6 (kc _) Ba Bb Bc Bd Bz Bx hw fun w14 Ba Bb Bc Bd Bz Bx hw=>?_;by_cases hk0:k0 < 0
 ·have t2:decide (k0 < 0)=true:=by simpa using hk0
  have M0:lsr a d=a:=by rw [L1.out];exact jAc hk0
  have N0:=hdd M0;clear M0 L1;have Fa:=Ba.f;have Fb:=Bb.f;have Fc:=Bc.f;have Fd:=Bd.f;have Fz:=Bz.f;have Fx:=Bx.f;go_wp2_with fail;refine zA4 fun W15 hW=>?_;replace Ba:=sto Ba hW;replace Bb:=sto Bb hW;replace Bc:=sto Bc hW;replace Bd:=sto Bd hW;replace Bz:=sto Bz hW;replace Bx:=sto Bx hW;replace hw:=stw hw hW;clear Fa Fb Fc Fd Fz Fx;clear hW;have Fa:=Ba.f;have Fb:=Bb.f;have Fc:=Bc.f;have Fd:=Bd.f;have Fz:=Bz.f;have Fx:=Bx.f;have kc:=zAe b a;have L1:Hid (lsr b a=if cmpP b a < 0 then b else a):=hdd rfl;generalize cmpP b a=k1 at *
  clear Fa Fb Fc Fd Fz Fx;refine qK6 (kc _) Ba Bb Bc Bd Bz Bx hw fun w16 Ba Bb Bc Bd Bz Bx hw=>?_;by_cases hk1:k1 < 0
  ·have t3:decide (k1 < 0)=true:=by simpa using hk1
   have M1:lsr b a=b:=by rw [L1.out];exact jAc hk1
   have N1:=hdd M1;clear M1 L1;have Fa:=Ba.f;have Fb:=Bb.f;have Fc:=Bc.f;have Fd:=Bd.f;have Fz:=Bz.f;have Fx:=Bx.f;go_wp2_with fail;refine zA4 fun W17 hW=>?_;replace Ba:=sto Ba hW;replace Bb:=sto Bb hW;replace Bc:=sto Bc hW;replace Bd:=sto Bd hW;replace Bz:=sto Bz hW;replace Bx:=sto Bx hW;replace hw:=stw hw hW;clear Fa Fb Fc Fd Fz Fx;clear hW;have Fa:=Ba.f;have Fb:=Bb.f;have Fc:=Bc.f;have Fd:=Bd.f;have Fz:=Bz.f;have Fx:=Bx.f;have kc:=zAe c b;have L1:Hid (lsr c b=if cmpP c b < 0 then c else b):=hdd rfl;generalize cmpP c b=k2 at *
   clear Fa Fb Fc Fd Fz Fx;refine qK6 (kc _) Ba Bb Bc Bd Bz Bx hw fun w18 Ba Bb Bc Bd Bz Bx hw=>?_;by_cases hk2:k2 < 0
   ·have t4:decide (k2 < 0)=true:=by simpa using hk2
    have M2:lsr c b=c:=by rw [L1.out];exact jAc hk2
    have N2:=hdd M2;clear M2 L1;have Fa:=Ba.f;have Fb:=Bb.f;have Fc:=Bc.f;have Fd:=Bd.f;have Fz:=Bz.f;have Fx:=Bx.f;go_wp2_with fail;refine zA4 fun W19 hW=>?_;replace Ba:=sto Ba hW;replace Bb:=sto Bb hW;replace Bc:=sto Bc hW;replace Bd:=sto Bd hW;replace Bz:=sto Bz hW;replace Bx:=sto Bx hW;replace hw:=stw hw hW;clear Fa Fb Fc Fd Fz Fx;clear hW;have Fa:=Ba.f;have Fb:=Bb.f;have Fc:=Bc.f;have Fd:=Bd.f;have Fz:=Bz.f;have Fx:=Bx.f;have Fa:=Ba.f;have Fb:=Bb.f;have Fc:=Bc.f;have Fd:=Bd.f;have Fz:=Bz.f;have Fx:=Bx.f;have co2:=zA3 a b d;have bo2:=zAw a b d;have E:Hid (tie a b c d (lsr c (lsr b (lsr a d))) 1 = -ori a b d):=hdd (by rw [N0.out];rw [N1.out];rw [N2.out];simp [tie,f3,d2,d3]);generalize ori a b d=o2 at *
    go_wp2_with fail;clear Fa Fb Fc Fd Fz Fx;refine qK6 (co2 _) Ba Bb Bc Bd Bz Bx hw fun w20 Ba Bb Bc Bd Bz Bx hw=>?_;go_wp2
    go_ret
    exact ⟨zAp (by rw [E.out]),hw⟩
   ·have t4:decide (k2 < 0)=false:=by simpa using hk2
    have M2:lsr c b=b:=by rw [L1.out];exact jA0 hk2
    have N2:=hdd M2;clear M2 L1;have Fa:=Ba.f;have Fb:=Bb.f;have Fc:=Bc.f;have Fd:=Bd.f;have Fz:=Bz.f;have Fx:=Bx.f;go_wp2_with fail;have Fa:=Ba.f;have Fb:=Bb.f;have Fc:=Bc.f;have Fd:=Bd.f;have Fz:=Bz.f;have Fx:=Bx.f;have co2:=zA3 a d c;have bo2:=zAw a d c;have E:Hid (tie a b c d (lsr c (lsr b (lsr a d))) 1 = -ori a d c):=hdd (by rw [N0.out];rw [N1.out];rw [N2.out];simp [tie,f2,d1,i2]);generalize ori a d c=o2 at *
    go_wp2_with fail;clear Fa Fb Fc Fd Fz Fx;refine qK6 (co2 _) Ba Bb Bc Bd Bz Bx hw fun w19 Ba Bb Bc Bd Bz Bx hw=>?_;go_wp2
    go_ret
    exact ⟨zAp (by rw [E.out]),hw⟩
  ·have t3:decide (k1 < 0)=false:=by simpa using hk1
   have M1:lsr b a=a:=by rw [L1.out];exact jA0 hk1
   have N1:=hdd M1;clear M1 L1;have Fa:=Ba.f;have Fb:=Bb.f;have Fc:=Bc.f;have Fd:=Bd.f;have Fz:=Bz.f;have Fx:=Bx.f;go_wp2_with fail;have kc:=zAe c a;have L1:Hid (lsr c a=if cmpP c a < 0 then c else a):=hdd rfl;generalize cmpP c a=k2 at *
   clear Fa Fb Fc Fd Fz Fx;refine qK6 (kc _) Ba Bb Bc Bd Bz Bx hw fun w17 Ba Bb Bc Bd Bz Bx hw=>?_;by_cases hk2:k2 < 0
   ·have t4:decide (k2 < 0)=true:=by simpa using hk2
    have M2:lsr c a=c:=by rw [L1.out];exact jAc hk2
    have N2:=hdd M2;clear M2 L1;have Fa:=Ba.f;have Fb:=Bb.f;have Fc:=Bc.f;have Fd:=Bd.f;have Fz:=Bz.f;have Fx:=Bx.f;go_wp2_with fail;refine zA4 fun W18 hW=>?_;replace Ba:=sto Ba hW;replace Bb:=sto Bb hW;replace Bc:=sto Bc hW;replace Bd:=sto Bd hW;replace Bz:=sto Bz hW;replace Bx:=sto Bx hW;replace hw:=stw hw hW;clear Fa Fb Fc Fd Fz Fx;clear hW;have Fa:=Ba.f;have Fb:=Bb.f;have Fc:=Bc.f;have Fd:=Bd.f;have Fz:=Bz.f;have Fx:=Bx.f;have Fa:=Ba.f;have Fb:=Bb.f;have Fc:=Bc.f;have Fd:=Bd.f;have Fz:=Bz.f;have Fx:=Bx.f;have co2:=zA3 a b d;have bo2:=zAw a b d;have E:Hid (tie a b c d (lsr c (lsr b (lsr a d))) 1 = -ori a b d):=hdd (by rw [N0.out];rw [N1.out];rw [N2.out];simp [tie,f3,d2,d3]);generalize ori a b d=o2 at *
    go_wp2_with fail;clear Fa Fb Fc Fd Fz Fx;refine qK6 (co2 _) Ba Bb Bc Bd Bz Bx hw fun w19 Ba Bb Bc Bd Bz Bx hw=>?_;go_wp2
    go_ret
    exact ⟨zAp (by rw [E.out]),hw⟩
   ·have t4:decide (k2 < 0)=false:=by simpa using hk2
    have M2:lsr c a=a:=by rw [L1.out];exact jA0 hk2
    have N2:=hdd M2;clear M2 L1;have Fa:=Ba.f;have Fb:=Bb.f;have Fc:=Bc.f;have Fd:=Bd.f;have Fz:=Bz.f;have Fx:=Bx.f;go_wp2_with fail;have Fa:=Ba.f;have Fb:=Bb.f;have Fc:=Bc.f;have Fd:=Bd.f;have Fz:=Bz.f;have Fx:=Bx.f;have co2:=zA3 d b c;have bo2:=zAw d b c;have E:Hid (tie a b c d (lsr c (lsr b (lsr a d))) 1 = -ori d b c):=hdd (by rw [N0.out];rw [N1.out];rw [N2.out];simp [tie,f1,i1]);generalize ori d b c=o2 at *
    go_wp2_with fail;clear Fa Fb Fc Fd Fz Fx;refine qK6 (co2 _) Ba Bb Bc Bd Bz Bx hw fun w18 Ba Bb Bc Bd Bz Bx hw=>?_;go_wp2
    go_ret
    exact ⟨zAp (by rw [E.out]),hw⟩
 ·have t2:decide (k0 < 0)=false:=by simpa using hk0
  have M0:lsr a d=d:=by rw [L1.out];exact jA0 hk0
  have N0:=hdd M0;clear M0 L1;have Fa:=Ba.f;have Fb:=Bb.f;have Fc:=Bc.f;have Fd:=Bd.f;have Fz:=Bz.f;have Fx:=Bx.f;go_wp2_with fail;have kc:=zAe b d;have L1:Hid (lsr b d=if cmpP b d < 0 then b else d):=hdd rfl;generalize cmpP b d=k1 at *
  clear Fa Fb Fc Fd Fz Fx;refine qK6 (kc _) Ba Bb Bc Bd Bz Bx hw fun w15 Ba Bb Bc Bd Bz Bx hw=>?_;by_cases hk1:k1 < 0
  ·have t3:decide (k1 < 0)=true:=by simpa using hk1
   have M1:lsr b d=b:=by rw [L1.out];exact jAc hk1
   have N1:=hdd M1;clear M1 L1;have Fa:=Ba.f;have Fb:=Bb.f;have Fc:=Bc.f;have Fd:=Bd.f;have Fz:=Bz.f;have Fx:=Bx.f;go_wp2_with fail;refine zA4 fun W16 hW=>?_;replace Ba:=sto Ba hW;replace Bb:=sto Bb hW;replace Bc:=sto Bc hW;replace Bd:=sto Bd hW;replace Bz:=sto Bz hW;replace Bx:=sto Bx hW;replace hw:=stw hw hW;clear Fa Fb Fc Fd Fz Fx;clear hW;have Fa:=Ba.f;have Fb:=Bb.f;have Fc:=Bc.f;have Fd:=Bd.f;have Fz:=Bz.f;have Fx:=Bx.f;have kc:=zAe c b;have L1:Hid (lsr c b=if cmpP c b < 0 then c else b):=hdd rfl;generalize cmpP c b=k2 at *
   clear Fa Fb Fc Fd Fz Fx;refine qK6 (kc _) Ba Bb Bc Bd Bz Bx hw fun w17 Ba Bb Bc Bd Bz Bx hw=>?_;by_cases hk2:k2 < 0
   ·have t4:decide (k2 < 0)=true:=by simpa using hk2
    have M2:lsr c b=c:=by rw [L1.out];exact jAc hk2
    have N2:=hdd M2;clear M2 L1;have Fa:=Ba.f;have Fb:=Bb.f;have Fc:=Bc.f;have Fd:=Bd.f;have Fz:=Bz.f;have Fx:=Bx.f;go_wp2_with fail;refine zA4 fun W18 hW=>?_;replace Ba:=sto Ba hW;replace Bb:=sto Bb hW;replace Bc:=sto Bc hW;replace Bd:=sto Bd hW;replace Bz:=sto Bz hW;replace Bx:=sto Bx hW;replace hw:=stw hw hW;clear Fa Fb Fc Fd Fz Fx;clear hW;have Fa:=Ba.f;have Fb:=Bb.f;have Fc:=Bc.f;have Fd:=Bd.f;have Fz:=Bz.f;have Fx:=Bx.f;have Fa:=Ba.f;have Fb:=Bb.f;have Fc:=Bc.f;have Fd:=Bd.f;have Fz:=Bz.f;have Fx:=Bx.f;have co2:=zA3 a b d;have bo2:=zAw a b d;have E:Hid (tie a b c d (lsr c (lsr b (lsr a d))) 1 = -ori a b d):=hdd (by rw [N0.out];rw [N1.out];rw [N2.out];simp [tie,f3,d2,d3]);generalize ori a b d=o2 at *
    go_wp2_with fail;clear Fa Fb Fc Fd Fz Fx;refine qK6 (co2 _) Ba Bb Bc Bd Bz Bx hw fun w19 Ba Bb Bc Bd Bz Bx hw=>?_;go_wp2
    go_ret
    exact ⟨zAp (by rw [E.out]),hw⟩
   ·have t4:decide (k2 < 0)=false:=by simpa using hk2
    have M2:lsr c b=b:=by rw [L1.out];exact jA0 hk2
    have N2:=hdd M2;clear M2 L1;have Fa:=Ba.f;have Fb:=Bb.f;have Fc:=Bc.f;have Fd:=Bd.f;have Fz:=Bz.f;have Fx:=Bx.f;go_wp2_with fail;have Fa:=Ba.f;have Fb:=Bb.f;have Fc:=Bc.f;have Fd:=Bd.f;have Fz:=Bz.f;have Fx:=Bx.f;have co2:=zA3 a d c;have bo2:=zAw a d c;have E:Hid (tie a b c d (lsr c (lsr b (lsr a d))) 1 = -ori a d c):=hdd (by rw [N0.out];rw [N1.out];rw [N2.out];simp [tie,f2,d1,i2]);generalize ori a d c=o2 at *
    go_wp2_with fail;clear Fa Fb Fc Fd Fz Fx;refine qK6 (co2 _) Ba Bb Bc Bd Bz Bx hw fun w18 Ba Bb Bc Bd Bz Bx hw=>?_;go_wp2
    go_ret
    exact ⟨zAp (by rw [E.out]),hw⟩
  ·have t3:decide (k1 < 0)=false:=by simpa using hk1
   have M1:lsr b d=d:=by rw [L1.out];exact jA0 hk1
   have N1:=hdd M1;clear M1 L1;have Fa:=Ba.f;have Fb:=Bb.f;have Fc:=Bc.f;have Fd:=Bd.f;have Fz:=Bz.f;have Fx:=Bx.f;go_wp2_with fail;have kc:=zAe c d;have L1:Hid (lsr c d=if cmpP c d < 0 then c else d):=hdd rfl;generalize cmpP c d=k2 at *
   clear Fa Fb Fc Fd Fz Fx;refine qK6 (kc _) Ba Bb Bc Bd Bz Bx hw fun w16 Ba Bb Bc Bd Bz Bx hw=>?_;by_cases hk2:k2 < 0
   ·have t4:decide (k2 < 0)=true:=by simpa using hk2
    have M2:lsr c d=c:=by rw [L1.out];exact jAc hk2
    have N2:=hdd M2;clear M2 L1;have Fa:=Ba.f;have Fb:=Bb.f;have Fc:=Bc.f;have Fd:=Bd.f;have Fz:=Bz.f;have Fx:=Bx.f;go_wp2_with fail;refine zA4 fun W17 hW=>?_;replace Ba:=sto Ba hW;replace Bb:=sto Bb hW;replace Bc:=sto Bc hW;replace Bd:=sto Bd hW;replace Bz:=sto Bz hW;replace Bx:=sto Bx hW;replace hw:=stw hw hW;clear Fa Fb Fc Fd Fz Fx;clear hW;have Fa:=Ba.f;have Fb:=Bb.f;have Fc:=Bc.f;have Fd:=Bd.f;have Fz:=Bz.f;have Fx:=Bx.f;have Fa:=Ba.f;have Fb:=Bb.f;have Fc:=Bc.f;have Fd:=Bd.f;have Fz:=Bz.f;have Fx:=Bx.f;have co2:=zA3 a b d;have bo2:=zAw a b d;have E:Hid (tie a b c d (lsr c (lsr b (lsr a d))) 1 = -ori a b d):=hdd (by rw [N0.out];rw [N1.out];rw [N2.out];simp [tie,f3,d2,d3]);generalize ori a b d=o2 at *
    go_wp2_with fail;clear Fa Fb Fc Fd Fz Fx;refine qK6 (co2 _) Ba Bb Bc Bd Bz Bx hw fun w18 Ba Bb Bc Bd Bz Bx hw=>?_;go_wp2
    go_ret
    exact ⟨zAp (by rw [E.out]),hw⟩
   ·have t4:decide (k2 < 0)=false:=by simpa using hk2
    have M2:lsr c d=d:=by rw [L1.out];exact jA0 hk2
    have N2:=hdd M2;clear M2 L1;have Fa:=Ba.f;have Fb:=Bb.f;have Fc:=Bc.f;have Fd:=Bd.f;have Fz:=Bz.f;have Fx:=Bx.f;go_wp2_with fail;have Fa:=Ba.f;have Fb:=Bb.f;have Fc:=Bc.f;have Fd:=Bd.f;have Fz:=Bz.f;have Fx:=Bx.f;have E:Hid (tie a b c d (lsr c (lsr b (lsr a d))) 1=1):=hdd (by rw [N0.out];rw [N1.out];rw [N2.out];simp [tie,i3]);go_wp2
    go_ret
    exact ⟨zAp (by rw [E.out]),hw⟩
theorem zH0 (a b c d:Pt) (h:ori a b c=1) (w:World):Calls prog 26 #[a,b,c,d] w (Rt w (.int .i64 (circ a b c d))):=by
 have h0:¬ ori a b c=0:=by omega
 cases hv:vld d with
 | false=>rw [zAg (.inr (.inl hv))];exact zKh a b c d h0 hv w
 | true=>cases e1:peqI d.x d.y a.x a.y with
  | true=>rw [zAg (.inr (.inr (.inl (zEd.1 e1))))];exact zKg a b c d h0 hv e1 w
  | false=>cases e2:peqI d.x d.y b.x b.y with
   | true=>rw [zAg (.inr (.inr (.inr (.inl (zEd.1 e2)))))];exact zKf a b c d h0 hv e1 e2 w
   | false=>cases e3:peqI d.x d.y c.x c.y with
    | true=>rw [zAg (.inr (.inr (.inr (.inr (zEd.1 e3)))))];exact zKe a b c d h0 hv e1 e2 e3 w
    | false=>
     rw [zBv h0 hv (zBr.1 e1) (zBr.1 e2) (zBr.1 e3)];by_cases hl:sgn (lft a b c d)=0
     ·rw [jA0 (fun k=>k hl),h];obtain ⟨va,vb,vc⟩:=zBy h0;rw [←min4_r va vb vc hv];exact rcircle_6 a b c d h hv e1 e2 e3 hl w
     ·rw [jAc hl];exact rcircle_5 a b c d h hv e1 e2 e3 hl w
theorem rcircle_neg (a b c d:Pt) (h:ori a b c = -1) (hv:vld d=true) (e1:peqI d.x d.y a.x a.y=false) (e2:peqI d.x d.y b.x b.y=false) (e3:peqI d.x d.y c.x c.y=false) (w:World):Calls prog 26 #[a,b,c,d] w (Rt w (.int .i64 (-circ a c b d))):=by
 have co:=zA3 a b c;have cv:=zA0 d;rw [hv] at cv;have hn:ori a c b=1:=by rw [zEe,h];rfl
 have cc:=zH0 a c b d hn;rw [h] at co;have bc : -1≤circ a c b d∧circ a c b d≤1:=by
  have:=circ_sign (a:=a) (b:=c) (c:=b) (d:=d) (by omega) hv (zBr.1 e1) (zBr.1 e3) (zBr.1 e2);omega
 generalize circ a c b d=K at *
 clear hv h hn
 go_enter func26,ntmps26
 go_wp2_with fail;refine qE4 fun W1 Ba Bb Bc Bd hw=>?_;refine qC4 (co _) Ba Bb Bc Bd hw fun w2 Ba Bb Bc Bd hw F_abcd=>?_;go_wp2_with fail;clear F_abcd;refine qC4 (cv _) Ba Bb Bc Bd hw fun w3 Ba Bb Bc Bd hw F_abcd=>?_;go_wp2_with fail;clear F_abcd;refine qK4 (cc _) Ba Bb Bc Bd hw fun w4 Ba Bb Bc Bd hw=>?_;go_wp2
 go_ret
 exact ⟨rfl,hw⟩
theorem zCk (a b c d:Pt) (w:World):Calls prog 26 #[a,b,c,d] w (Rt w (.int .i64 (circ a b c d))):=by
 have hb:=zAw a b c;have h3:ori a b c=0∨ori a b c=1∨ori a b c = -1:=by omega
 rcases h3 with h | h | h
 ·rw [zAg (.inl h)];exact rcircle_0 a b c d h w
 ·exact zH0 a b c d h w
 ·have h0:¬ ori a b c=0:=by omega
  cases hv:vld d with
  | false=>rw [zAg (.inr (.inl hv))];exact zKh a b c d h0 hv w
  | true=>cases e1:peqI d.x d.y a.x a.y with
   | true=>rw [zAg (.inr (.inr (.inl (zEd.1 e1))))];exact zKg a b c d h0 hv e1 w
   | false=>cases e2:peqI d.x d.y b.x b.y with
    | true=>rw [zAg (.inr (.inr (.inr (.inl (zEd.1 e2)))))];exact zKf a b c d h0 hv e1 e2 w
    | false=>cases e3:peqI d.x d.y c.x c.y with
     | true=>rw [zAg (.inr (.inr (.inr (.inr (zEd.1 e3)))))];exact zKe a b c d h0 hv e1 e2 e3 w
     | false=>
      rw [show circ a b c d = -circ a c b d by rw [←zIb a c b d,zIa b c a d,zIb a b c d];omega];exact rcircle_neg a b c d h hv e1 e2 e3 w
theorem Box.drew {w:World} {b:Nat} {cs:List Value} {T:TypeId} (h:Box w b cs T):Box w.drew b cs T:=h
theorem rmake_0 (a b c:Pt) (h0:ori a b c=0) (w:World):Calls prog 30 #[a,b,c] w (Rt w (.tuple #[.agg #[(),(),(),(),(),()],.bool false])):=by
 have co:=zA3 a b c;rw [h0] at co;clear h0
 go_enter func30,ntmps30
 go_wp2_with fail;refine qE4 fun W1 Ba Bb Bc Br hw=>?_;refine qK4 (co _) Ba Bb Bc Br hw fun w2 Ba Bb Bc Br hw=>?_;have Fa:=Ba.f;have Fb:=Bb.f;have Fc:=Bc.f;have Fr:=Br.f;go_wp2_with fail;refine bodyPost_ret (v:=.tuple #[.agg #[(),(),(),(),(),()],.bool false]) (by simp [results,results30,go_sem,Fr]) rfl ⟨rfl,by have hl:=hw.size;go_grown⟩
theorem rmake_p0 (a b c:Pt) (h0:ori a b c=1) (tba:decide (cmpP b a < 0)=false) (tca:decide (cmpP c a < 0)=false) (w:World):Calls prog 30 #[a,b,c] w (Rt w (.tuple #[.agg #[a.x,a.y,b.x,b.y,c.x,c.y],.bool true])):=by
 have co:=zA3 a b c;rw [h0] at co;clear h0;have kba:=zAe b a;generalize cmpP b a=nba at *
 have kca:=zAe c a;generalize cmpP c a=nca at *
 go_enter func30,ntmps30
 go_wp2_with fail;refine qE4 fun W1 Ba Bb Bc Br hw=>?_;refine qK4 (co _) Ba Bb Bc Br hw fun w2 Ba Bb Bc Br hw=>?_;have Fa:=Ba.f;have Fb:=Bb.f;have Fc:=Bc.f;have Fr:=Br.f;go_wp2_with fail;refine zA1 fun W3 hW=>?_;subst hW;clear Fa Fb Fc Fr;refine wp_loop_rounds 4 ?_;try rw [rounds_succ]
 have Fa:=Ba.f;have Fb:=Bb.f;have Fc:=Bc.f;have Fr:=Br.f;go_wp2_with fail;clear Fa Fb Fc Fr;refine qK4 (kba _) Ba Bb Bc Br hw fun w4 Ba Bb Bc Br hw=>?_;have Fa:=Ba.f;have Fb:=Bb.f;have Fc:=Bc.f;have Fr:=Br.f;go_wp2_with fail;clear Fa Fb Fc Fr;refine qK4 (kca _) Ba Bb Bc Br hw fun w5 Ba Bb Bc Br hw=>?_;have Fa:=Ba.f;have Fb:=Bb.f;have Fc:=Bc.f;have Fr:=Br.f;go_wp2_with fail;refine bodyPost_ret (v:=.tuple #[.agg #[a.x,a.y,b.x,b.y,c.x,c.y],.bool true]) (by simp [results,results30,go_sem,Fr]) rfl ⟨rfl,by have hl:=hw.size;go_grown⟩
theorem rmake_p1 (a b c:Pt) (h0:ori a b c=1) (tba:decide (cmpP b a < 0)=true) (tcb:decide (cmpP c b < 0)=false) (tab:decide (cmpP a b < 0)=false) (w:World):Calls prog 30 #[a,b,c] w (Rt w (.tuple #[.agg #[b.x,b.y,c.x,c.y,a.x,a.y],.bool true])):=by
 have co:=zA3 a b c;rw [h0] at co;clear h0;have kba:=zAe b a;generalize cmpP b a=nba at *
 have kcb:=zAe c b;generalize cmpP c b=ncb at *
 have kab:=zAe a b;generalize cmpP a b=nab at *
 go_enter func30,ntmps30
 go_wp2_with fail;refine qE4 fun W1 Ba Bb Bc Br hw=>?_;refine qK4 (co _) Ba Bb Bc Br hw fun w2 Ba Bb Bc Br hw=>?_;have Fa:=Ba.f;have Fb:=Bb.f;have Fc:=Bc.f;have Fr:=Br.f;go_wp2_with fail;refine zA1 fun W3 hW=>?_;subst hW;clear Fa Fb Fc Fr;refine wp_loop_rounds 4 ?_;try rw [rounds_succ]
 have Fa:=Ba.f;have Fb:=Bb.f;have Fc:=Bc.f;have Fr:=Br.f;go_wp2_with fail;clear Fa Fb Fc Fr;refine qK4 (kba _) Ba Bb Bc Br hw fun w4 Ba Bb Bc Br hw=>?_;have Fa:=Ba.f;have Fb:=Bb.f;have Fc:=Bc.f;have Fr:=Br.f;go_wp2_with fail
 go_region
 go_wp2_with fail;refine zA1 fun W5 hW=>?_;replace Ba:=sto Ba hW;replace Bb:=sto Bb hW;replace Bc:=sto Bc hW;replace Br:=sto Br hW;replace hw:=stw hw hW;clear Fa Fb Fc Fr;clear hW;try rw [rounds_succ]
 have Fa:=Ba.f;have Fb:=Bb.f;have Fc:=Bc.f;have Fr:=Br.f;go_wp2_with fail;clear Fa Fb Fc Fr;refine qK4 (kcb _) Ba Bb Bc Br hw fun w6 Ba Bb Bc Br hw=>?_;have Fa:=Ba.f;have Fb:=Bb.f;have Fc:=Bc.f;have Fr:=Br.f;go_wp2_with fail;clear Fa Fb Fc Fr;refine qK4 (kab _) Ba Bb Bc Br hw fun w7 Ba Bb Bc Br hw=>?_;have Fa:=Ba.f;have Fb:=Bb.f;have Fc:=Bc.f;have Fr:=Br.f;go_wp2_with fail;refine bodyPost_ret (v:=.tuple #[.agg #[b.x,b.y,c.x,c.y,a.x,a.y],.bool true]) (by simp [results,results30,go_sem,Fr]) rfl ⟨rfl,by have hl:=hw.size;go_grown⟩
theorem rmake_p2 (a b c:Pt) (h0:ori a b c=1) (tba:decide (cmpP b a < 0)=true) (tcb:decide (cmpP c b < 0)=true) (tac:decide (cmpP a c < 0)=false) (tbc:decide (cmpP b c < 0)=false) (w:World):Calls prog 30 #[a,b,c] w (Rt w (.tuple #[.agg #[c.x,c.y,a.x,a.y,b.x,b.y],.bool true])):=by
 have co:=zA3 a b c;rw [h0] at co;clear h0;have kba:=zAe b a;generalize cmpP b a=nba at *
 have kcb:=zAe c b;generalize cmpP c b=ncb at *
 have kac:=zAe a c;generalize cmpP a c=nac at *
 have kbc:=zAe b c;generalize cmpP b c=nbc at *
 go_enter func30,ntmps30
 go_wp2_with fail;refine qE4 fun W1 Ba Bb Bc Br hw=>?_;refine qK4 (co _) Ba Bb Bc Br hw fun w2 Ba Bb Bc Br hw=>?_;have Fa:=Ba.f;have Fb:=Bb.f;have Fc:=Bc.f;have Fr:=Br.f;go_wp2_with fail;refine zA1 fun W3 hW=>?_;subst hW;clear Fa Fb Fc Fr;refine wp_loop_rounds 4 ?_;try rw [rounds_succ]
 have Fa:=Ba.f;have Fb:=Bb.f;have Fc:=Bc.f;have Fr:=Br.f;go_wp2_with fail;clear Fa Fb Fc Fr;refine qK4 (kba _) Ba Bb Bc Br hw fun w4 Ba Bb Bc Br hw=>?_;have Fa:=Ba.f;have Fb:=Bb.f;have Fc:=Bc.f;have Fr:=Br.f;go_wp2_with fail
 go_region
 go_wp2_with fail;refine zA1 fun W5 hW=>?_;replace Ba:=sto Ba hW;replace Bb:=sto Bb hW;replace Bc:=sto Bc hW;replace Br:=sto Br hW;replace hw:=stw hw hW;clear Fa Fb Fc Fr;clear hW;try rw [rounds_succ]
 have Fa:=Ba.f;have Fb:=Bb.f;have Fc:=Bc.f;have Fr:=Br.f;go_wp2_with fail;clear Fa Fb Fc Fr;refine qK4 (kcb _) Ba Bb Bc Br hw fun w6 Ba Bb Bc Br hw=>?_;have Fa:=Ba.f;have Fb:=Bb.f;have Fc:=Bc.f;have Fr:=Br.f;go_wp2_with fail
 go_region
 go_wp2_with fail;refine zA1 fun W7 hW=>?_;replace Ba:=sto Ba hW;replace Bb:=sto Bb hW;replace Bc:=sto Bc hW;replace Br:=sto Br hW;replace hw:=stw hw hW;clear Fa Fb Fc Fr;clear hW;try rw [rounds_succ]
 have Fa:=Ba.f;have Fb:=Bb.f;have Fc:=Bc.f;have Fr:=Br.f;go_wp2_with fail;clear Fa Fb Fc Fr;refine qK4 (kac _) Ba Bb Bc Br hw fun w8 Ba Bb Bc Br hw=>?_;have Fa:=Ba.f;have Fb:=Bb.f;have Fc:=Bc.f;have Fr:=Br.f;go_wp2_with fail;clear Fa Fb Fc Fr;refine qK4 (kbc _) Ba Bb Bc Br hw fun w9 Ba Bb Bc Br hw=>?_;have Fa:=Ba.f;have Fb:=Bb.f;have Fc:=Bc.f;have Fr:=Br.f;go_wp2_with fail;refine bodyPost_ret (v:=.tuple #[.agg #[c.x,c.y,a.x,a.y,b.x,b.y],.bool true]) (by simp [results,results30,go_sem,Fr]) rfl ⟨rfl,by have hl:=hw.size;go_grown⟩
theorem rmake_p3 (a b c:Pt) (h0:ori a b c=1) (tba:decide (cmpP b a < 0)=false) (tca:decide (cmpP c a < 0)=true) (tcb:decide (cmpP c b < 0)=true) (tac:decide (cmpP a c < 0)=false) (tbc:decide (cmpP b c < 0)=false) (w:World):Calls prog 30 #[a,b,c] w (Rt w (.tuple #[.agg #[c.x,c.y,a.x,a.y,b.x,b.y],.bool true])):=by
 have co:=zA3 a b c;rw [h0] at co;clear h0;have kba:=zAe b a;generalize cmpP b a=nba at *
 have kca:=zAe c a;generalize cmpP c a=nca at *
 have kcb:=zAe c b;generalize cmpP c b=ncb at *
 have kac:=zAe a c;generalize cmpP a c=nac at *
 have kbc:=zAe b c;generalize cmpP b c=nbc at *
 go_enter func30,ntmps30
 go_wp2_with fail;refine qE4 fun W1 Ba Bb Bc Br hw=>?_;refine qK4 (co _) Ba Bb Bc Br hw fun w2 Ba Bb Bc Br hw=>?_;have Fa:=Ba.f;have Fb:=Bb.f;have Fc:=Bc.f;have Fr:=Br.f;go_wp2_with fail;refine zA1 fun W3 hW=>?_;subst hW;clear Fa Fb Fc Fr;refine wp_loop_rounds 4 ?_;try rw [rounds_succ]
 have Fa:=Ba.f;have Fb:=Bb.f;have Fc:=Bc.f;have Fr:=Br.f;go_wp2_with fail;clear Fa Fb Fc Fr;refine qK4 (kba _) Ba Bb Bc Br hw fun w4 Ba Bb Bc Br hw=>?_;have Fa:=Ba.f;have Fb:=Bb.f;have Fc:=Bc.f;have Fr:=Br.f;go_wp2_with fail;clear Fa Fb Fc Fr;refine qK4 (kca _) Ba Bb Bc Br hw fun w5 Ba Bb Bc Br hw=>?_;have Fa:=Ba.f;have Fb:=Bb.f;have Fc:=Bc.f;have Fr:=Br.f;go_wp2_with fail
 go_region
 go_wp2_with fail;refine zA1 fun W6 hW=>?_;replace Ba:=sto Ba hW;replace Bb:=sto Bb hW;replace Bc:=sto Bc hW;replace Br:=sto Br hW;replace hw:=stw hw hW;clear Fa Fb Fc Fr;clear hW;try rw [rounds_succ]
 have Fa:=Ba.f;have Fb:=Bb.f;have Fc:=Bc.f;have Fr:=Br.f;go_wp2_with fail;clear Fa Fb Fc Fr;refine qK4 (kcb _) Ba Bb Bc Br hw fun w7 Ba Bb Bc Br hw=>?_;have Fa:=Ba.f;have Fb:=Bb.f;have Fc:=Bc.f;have Fr:=Br.f;go_wp2_with fail
 go_region
 go_wp2_with fail;refine zA1 fun W8 hW=>?_;replace Ba:=sto Ba hW;replace Bb:=sto Bb hW;replace Bc:=sto Bc hW;replace Br:=sto Br hW;replace hw:=stw hw hW;clear Fa Fb Fc Fr;clear hW;try rw [rounds_succ]
 have Fa:=Ba.f;have Fb:=Bb.f;have Fc:=Bc.f;have Fr:=Br.f;go_wp2_with fail;clear Fa Fb Fc Fr;refine qK4 (kac _) Ba Bb Bc Br hw fun w9 Ba Bb Bc Br hw=>?_;have Fa:=Ba.f;have Fb:=Bb.f;have Fc:=Bc.f;have Fr:=Br.f;go_wp2_with fail;clear Fa Fb Fc Fr;refine qK4 (kbc _) Ba Bb Bc Br hw fun w10 Ba Bb Bc Br hw=>?_;have Fa:=Ba.f;have Fb:=Bb.f;have Fc:=Bc.f;have Fr:=Br.f;go_wp2_with fail;refine bodyPost_ret (v:=.tuple #[.agg #[c.x,c.y,a.x,a.y,b.x,b.y],.bool true]) (by simp [results,results30,go_sem,Fr]) rfl ⟨rfl,by have hl:=hw.size;go_grown⟩
theorem rmake_n0 (a b c:Pt) (h0:ori a b c = -1) (tca:decide (cmpP c a < 0)=false) (tba:decide (cmpP b a < 0)=false) (w:World):Calls prog 30 #[a,b,c] w (Rt w (.tuple #[.agg #[a.x,a.y,c.x,c.y,b.x,b.y],.bool true])):=by
 have co:=zA3 a b c;rw [h0] at co;clear h0;have kca:=zAe c a;generalize cmpP c a=nca at *
 have kba:=zAe b a;generalize cmpP b a=nba at *
 go_enter func30,ntmps30
 go_wp2_with fail;refine qE4 fun W1 Ba Bb Bc Br hw=>?_;refine qK4 (co _) Ba Bb Bc Br hw fun w2 Ba Bb Bc Br hw=>?_;have Fa:=Ba.f;have Fb:=Bb.f;have Fc:=Bc.f;have Fr:=Br.f;go_wp2_with fail;refine zA1 fun W3 hW=>?_;replace Ba:=sto Ba hW;replace Bb:=sto Bb hW;replace Bc:=sto Bc hW;replace Br:=sto Br hW;replace hw:=stw hw hW;clear Fa Fb Fc Fr;clear hW;refine wp_loop_rounds 4 ?_;try rw [rounds_succ]
 have Fa:=Ba.f;have Fb:=Bb.f;have Fc:=Bc.f;have Fr:=Br.f;go_wp2_with fail;clear Fa Fb Fc Fr;refine qK4 (kca _) Ba Bb Bc Br hw fun w4 Ba Bb Bc Br hw=>?_;have Fa:=Ba.f;have Fb:=Bb.f;have Fc:=Bc.f;have Fr:=Br.f;go_wp2_with fail;clear Fa Fb Fc Fr;refine qK4 (kba _) Ba Bb Bc Br hw fun w5 Ba Bb Bc Br hw=>?_;have Fa:=Ba.f;have Fb:=Bb.f;have Fc:=Bc.f;have Fr:=Br.f;go_wp2_with fail;refine bodyPost_ret (v:=.tuple #[.agg #[a.x,a.y,c.x,c.y,b.x,b.y],.bool true]) (by simp [results,results30,go_sem,Fr]) rfl ⟨rfl,by have hl:=hw.size;go_grown⟩
theorem rmake_n1 (a b c:Pt) (h0:ori a b c = -1) (tca:decide (cmpP c a < 0)=true) (tbc:decide (cmpP b c < 0)=false) (tac:decide (cmpP a c < 0)=false) (w:World):Calls prog 30 #[a,b,c] w (Rt w (.tuple #[.agg #[c.x,c.y,b.x,b.y,a.x,a.y],.bool true])):=by
 have co:=zA3 a b c;rw [h0] at co;clear h0;have kca:=zAe c a;generalize cmpP c a=nca at *
 have kbc:=zAe b c;generalize cmpP b c=nbc at *
 have kac:=zAe a c;generalize cmpP a c=nac at *
 go_enter func30,ntmps30
 go_wp2_with fail;refine qE4 fun W1 Ba Bb Bc Br hw=>?_;refine qK4 (co _) Ba Bb Bc Br hw fun w2 Ba Bb Bc Br hw=>?_;have Fa:=Ba.f;have Fb:=Bb.f;have Fc:=Bc.f;have Fr:=Br.f;go_wp2_with fail;refine zA1 fun W3 hW=>?_;replace Ba:=sto Ba hW;replace Bb:=sto Bb hW;replace Bc:=sto Bc hW;replace Br:=sto Br hW;replace hw:=stw hw hW;clear Fa Fb Fc Fr;clear hW;refine wp_loop_rounds 4 ?_;try rw [rounds_succ]
 have Fa:=Ba.f;have Fb:=Bb.f;have Fc:=Bc.f;have Fr:=Br.f;go_wp2_with fail;clear Fa Fb Fc Fr;refine qK4 (kca _) Ba Bb Bc Br hw fun w4 Ba Bb Bc Br hw=>?_;have Fa:=Ba.f;have Fb:=Bb.f;have Fc:=Bc.f;have Fr:=Br.f;go_wp2_with fail
 go_region
 go_wp2_with fail;refine zA1 fun W5 hW=>?_;replace Ba:=sto Ba hW;replace Bb:=sto Bb hW;replace Bc:=sto Bc hW;replace Br:=sto Br hW;replace hw:=stw hw hW;clear Fa Fb Fc Fr;clear hW;try rw [rounds_succ]
 have Fa:=Ba.f;have Fb:=Bb.f;have Fc:=Bc.f;have Fr:=Br.f;go_wp2_with fail;clear Fa Fb Fc Fr;refine qK4 (kbc _) Ba Bb Bc Br hw fun w6 Ba Bb Bc Br hw=>?_;have Fa:=Ba.f;have Fb:=Bb.f;have Fc:=Bc.f;have Fr:=Br.f;go_wp2_with fail;clear Fa Fb Fc Fr;refine qK4 (kac _) Ba Bb Bc Br hw fun w7 Ba Bb Bc Br hw=>?_;have Fa:=Ba.f;have Fb:=Bb.f;have Fc:=Bc.f;have Fr:=Br.f;go_wp2_with fail;refine bodyPost_ret (v:=.tuple #[.agg #[c.x,c.y,b.x,b.y,a.x,a.y],.bool true]) (by simp [results,results30,go_sem,Fr]) rfl ⟨rfl,by have hl:=hw.size;go_grown⟩
theorem rmake_n2 (a b c:Pt) (h0:ori a b c = -1) (tca:decide (cmpP c a < 0)=true) (tbc:decide (cmpP b c < 0)=true) (tab:decide (cmpP a b < 0)=false) (tcb:decide (cmpP c b < 0)=false) (w:World):Calls prog 30 #[a,b,c] w (Rt w (.tuple #[.agg #[b.x,b.y,a.x,a.y,c.x,c.y],.bool true])):=by
 have co:=zA3 a b c;rw [h0] at co;clear h0;have kca:=zAe c a;generalize cmpP c a=nca at *
 have kbc:=zAe b c;generalize cmpP b c=nbc at *
 have kab:=zAe a b;generalize cmpP a b=nab at *
 have kcb:=zAe c b;generalize cmpP c b=ncb at *
 go_enter func30,ntmps30
 go_wp2_with fail;refine qE4 fun W1 Ba Bb Bc Br hw=>?_;refine qK4 (co _) Ba Bb Bc Br hw fun w2 Ba Bb Bc Br hw=>?_;have Fa:=Ba.f;have Fb:=Bb.f;have Fc:=Bc.f;have Fr:=Br.f;go_wp2_with fail;refine zA1 fun W3 hW=>?_;replace Ba:=sto Ba hW;replace Bb:=sto Bb hW;replace Bc:=sto Bc hW;replace Br:=sto Br hW;replace hw:=stw hw hW;clear Fa Fb Fc Fr;clear hW;refine wp_loop_rounds 4 ?_;try rw [rounds_succ]
 have Fa:=Ba.f;have Fb:=Bb.f;have Fc:=Bc.f;have Fr:=Br.f;go_wp2_with fail;clear Fa Fb Fc Fr;refine qK4 (kca _) Ba Bb Bc Br hw fun w4 Ba Bb Bc Br hw=>?_;have Fa:=Ba.f;have Fb:=Bb.f;have Fc:=Bc.f;have Fr:=Br.f;go_wp2_with fail
 go_region
 go_wp2_with fail;refine zA1 fun W5 hW=>?_;replace Ba:=sto Ba hW;replace Bb:=sto Bb hW;replace Bc:=sto Bc hW;replace Br:=sto Br hW;replace hw:=stw hw hW;clear Fa Fb Fc Fr;clear hW;try rw [rounds_succ]
 have Fa:=Ba.f;have Fb:=Bb.f;have Fc:=Bc.f;have Fr:=Br.f;go_wp2_with fail;clear Fa Fb Fc Fr;refine qK4 (kbc _) Ba Bb Bc Br hw fun w6 Ba Bb Bc Br hw=>?_;have Fa:=Ba.f;have Fb:=Bb.f;have Fc:=Bc.f;have Fr:=Br.f;go_wp2_with fail
 go_region
 go_wp2_with fail;refine zA1 fun W7 hW=>?_;replace Ba:=sto Ba hW;replace Bb:=sto Bb hW;replace Bc:=sto Bc hW;replace Br:=sto Br hW;replace hw:=stw hw hW;clear Fa Fb Fc Fr;clear hW;try rw [rounds_succ]
 have Fa:=Ba.f;have Fb:=Bb.f;have Fc:=Bc.f;have Fr:=Br.f;go_wp2_with fail;clear Fa Fb Fc Fr;refine qK4 (kab _) Ba Bb Bc Br hw fun w8 Ba Bb Bc Br hw=>?_;have Fa:=Ba.f;have Fb:=Bb.f;have Fc:=Bc.f;have Fr:=Br.f;go_wp2_with fail;clear Fa Fb Fc Fr;refine qK4 (kcb _) Ba Bb Bc Br hw fun w9 Ba Bb Bc Br hw=>?_;have Fa:=Ba.f;have Fb:=Bb.f;have Fc:=Bc.f;have Fr:=Br.f;go_wp2_with fail;refine bodyPost_ret (v:=.tuple #[.agg #[b.x,b.y,a.x,a.y,c.x,c.y],.bool true]) (by simp [results,results30,go_sem,Fr]) rfl ⟨rfl,by have hl:=hw.size;go_grown⟩
theorem rmake_n3 (a b c:Pt) (h0:ori a b c = -1) (tca:decide (cmpP c a < 0)=false) (tba:decide (cmpP b a < 0)=true) (tbc:decide (cmpP b c < 0)=true) (tab:decide (cmpP a b < 0)=false) (tcb:decide (cmpP c b < 0)=false) (w:World):Calls prog 30 #[a,b,c] w (Rt w (.tuple #[.agg #[b.x,b.y,a.x,a.y,c.x,c.y],.bool true])):=by
 have co:=zA3 a b c;rw [h0] at co;clear h0;have kca:=zAe c a;generalize cmpP c a=nca at *
 have kba:=zAe b a;generalize cmpP b a=nba at *
 have kbc:=zAe b c;generalize cmpP b c=nbc at *
 have kab:=zAe a b;generalize cmpP a b=nab at *
 have kcb:=zAe c b;generalize cmpP c b=ncb at *
 go_enter func30,ntmps30
 go_wp2_with fail;refine qE4 fun W1 Ba Bb Bc Br hw=>?_;refine qK4 (co _) Ba Bb Bc Br hw fun w2 Ba Bb Bc Br hw=>?_;have Fa:=Ba.f;have Fb:=Bb.f;have Fc:=Bc.f;have Fr:=Br.f;go_wp2_with fail;refine zA1 fun W3 hW=>?_;replace Ba:=sto Ba hW;replace Bb:=sto Bb hW;replace Bc:=sto Bc hW;replace Br:=sto Br hW;replace hw:=stw hw hW;clear Fa Fb Fc Fr;clear hW;refine wp_loop_rounds 4 ?_;try rw [rounds_succ]
 have Fa:=Ba.f;have Fb:=Bb.f;have Fc:=Bc.f;have Fr:=Br.f;go_wp2_with fail;clear Fa Fb Fc Fr;refine qK4 (kca _) Ba Bb Bc Br hw fun w4 Ba Bb Bc Br hw=>?_;have Fa:=Ba.f;have Fb:=Bb.f;have Fc:=Bc.f;have Fr:=Br.f;go_wp2_with fail;clear Fa Fb Fc Fr;refine qK4 (kba _) Ba Bb Bc Br hw fun w5 Ba Bb Bc Br hw=>?_;have Fa:=Ba.f;have Fb:=Bb.f;have Fc:=Bc.f;have Fr:=Br.f;go_wp2_with fail
 go_region
 go_wp2_with fail;refine zA1 fun W6 hW=>?_;replace Ba:=sto Ba hW;replace Bb:=sto Bb hW;replace Bc:=sto Bc hW;replace Br:=sto Br hW;replace hw:=stw hw hW;clear Fa Fb Fc Fr;clear hW;try rw [rounds_succ]
 have Fa:=Ba.f;have Fb:=Bb.f;have Fc:=Bc.f;have Fr:=Br.f;go_wp2_with fail;clear Fa Fb Fc Fr;refine qK4 (kbc _) Ba Bb Bc Br hw fun w7 Ba Bb Bc Br hw=>?_;have Fa:=Ba.f;have Fb:=Bb.f;have Fc:=Bc.f;have Fr:=Br.f;go_wp2_with fail
 go_region
 go_wp2_with fail;refine zA1 fun W8 hW=>?_;replace Ba:=sto Ba hW;replace Bb:=sto Bb hW;replace Bc:=sto Bc hW;replace Br:=sto Br hW;replace hw:=stw hw hW;clear Fa Fb Fc Fr;clear hW;try rw [rounds_succ]
 have Fa:=Ba.f;have Fb:=Bb.f;have Fc:=Bc.f;have Fr:=Br.f;go_wp2_with fail;clear Fa Fb Fc Fr;refine qK4 (kab _) Ba Bb Bc Br hw fun w9 Ba Bb Bc Br hw=>?_;have Fa:=Ba.f;have Fb:=Bb.f;have Fc:=Bc.f;have Fr:=Br.f;go_wp2_with fail;clear Fa Fb Fc Fr;refine qK4 (kcb _) Ba Bb Bc Br hw fun w10 Ba Bb Bc Br hw=>?_;have Fa:=Ba.f;have Fb:=Bb.f;have Fc:=Bc.f;have Fr:=Br.f;go_wp2_with fail;refine bodyPost_ret (v:=.tuple #[.agg #[b.x,b.y,a.x,a.y,c.x,c.y],.bool true]) (by simp [results,results30,go_sem,Fr]) rfl ⟨rfl,by have hl:=hw.size;go_grown⟩
end
end Go.Proofs.YtogffkimgmlilaaGreat
