/- Put together: Odd8, FlpG, FlpH, FlpI. -/
import Derived.Test.YtogffkimgmlilaaGreatPfb45
import Derived.Deep.Cut
set_option maxRecDepth 100000
set_option maxHeartbeats 8000000
set_option linter.all false
namespace Go.Proofs.YtogffkimgmlilaaGreat
open _root_.Go.Proofs.Tryz
section
open Go.RowKit Go.Sort
attribute [local go_sem] rOper rAt rUpon cell_set sg_i64 sg_u64 alloc_cell alloc_frozen
attribute [local go_sem 10000] pt_eql pt_neq tri_eql
attribute [local irreducible] rWalk
theorem cI_ne (x:Int):cI x≠[]:=by simp [cI]
def OddPost (W H:Int) (b:Nat) (D:List Wl) (L:List Tri3) (w:World) (e:Ending) (w':World):Prop:=
 ∃ E' L' a' c',e=.returned (.slice a' (srt cmpT (heads (fun _=>true) E')).length c')∧w.grownBy w' (some b)∧HoldsMap eW eT okW w' b E'∧RSt W H D L E' L'∧RowAt cT 6 w' a' (srt cmpT (heads (fun _=>true) E'))
theorem odd_n {k n:Nat} (h:k < n) (hn:n≤40):Value.int .i64 (wrap64 ((k:Int)+1))=.int .i64 ((k+1:Nat):Int):=by rw [show wrap64 ((k:Int)+1)=(k:Int)+1 by rw [w64];omega];rfl
theorem zMa {k n:Nat} (h:k < n) (hn:n≤40):n - (intOf (.int .i64 (wrap64 ((k:Int)+1)))).toNat < n - (intOf (.int .i64 (k:Int))).toNat:=by rw [show wrap64 ((k:Int)+1)=(k:Int)+1 by rw [w64];omega];simp [intOf];omega
theorem rodd_any (cb mb b db:Nat) (v:Value) (W H:Int) (hW0:0 < W) (hH0:0 < H) (hW:W < 16777216) (hH:H < 16777216) (E:Es) (L:List Tri3) (D:List Wl) (gE:Good E L) (ti:Tiles W H L) (hL:L.length≤200) (a0:Option Addr) (n c0:Nat) (X:List Int) (hX:Hid (X.length=n)) (hn:n≤40) (w:World) (S:CdtAt w cb mb b db v W H E D) (h0:RowAt cI 1 w a0 X):Calls prog 11 #[pt0 cb,.slice a0 n c0] w (OddPost W H b D L w):=by
 have HS0:=hdd (show RSt W H D L E L from ⟨gE,ti,Kept.refl _ _⟩);have HP:=hdd (show 0 < L.length from by
  obtain ⟨T,hT,_⟩:=ti.covers hW0 hH0 (p:=⟨0,0⟩) (by unfold inBox;simp only;omega);exact jDn hT)
 have HL:=hdd hL;have HWH:=hdd (show W < 16777216∧H < 16777216 from ⟨hW,hH⟩);have HN:=hdd hn;clear gE ti hL hW0 hH0 hW hH hn
 go_enter func11,ntmps11
 go_wp2
 go_loopw [5,6] (fun vi _ wr=>∃ (k:Nat) (E1:Es) (L1:List Tri3),vi=.int .i64 k∧k≤n∧HoldsMap eW eT okW wr b E1∧Hid (RSt W H D L E1 L1)∧w.grownBy wr (some b)) (fun vi _ _=>n - (intOf vi).toNat)
 case atStart=>exact ⟨0,E,L,rfl,jAt _,S.map,HS0,zCa _ _⟩
 case round=>
  clear HS0;obtain ⟨k,E1,L1,rfl,hk,Hm,HR,hg⟩:=hrel;have BC:=S.box.turn S.map hg;have BM:=S.mesh.turn S.map hg;have DA:=S.doc.turn S.map hg;have hX0:=h0.turn cI_ne S.map hg;have hE:E1.length≤1000000:=by rw [HR.out.good.len,HR.out.kept.len];have:=HL.out;omega
  have ct:=fun W B H=>rtris_any mb b E1 hE W B H;have hp0:(srt cmpT (heads (fun _=>true) E1)).Perm L1:=(srt_perm _).trans HR.out.good.heads;by_cases hlt:k < n
  case neg=>
   have hkn:¬ (k:Int) < (n:Int):=by omega
   clear hp0 hlt;have Fs:=BC.f;go_wp2_with fail;clear Fs;refine (ct _ BM Hm).mono ?_;rintro e w5 ⟨a5,c5,rfl,hr5,hb⟩;have hg5:=zA9 hg hb;have H5:=Hm.ee hb;clear ct hb;go_wp2
   go_ret
   exact ⟨E1,L1,a5,c5,rfl,hg5,H5,HR.out,hr5⟩
  case pos=>
   have hlk:k < X.length:=hX.out▸hlt;obtain ⟨ad,ea,hab,hA⟩:=hX0.num hlk;have HLT:=hdd hlt;generalize X[k]=x at *
   generalize srt cmpT (heads (fun _=>true) E1)=I at *
   obtain ⟨m,hm⟩:∃ m,I.length=m:=⟨_,rfl⟩;rw [hm] at ct;have HM:=hdd hm;have HP0:=hdd hp0;have hm0:0 < m:=by rw [←hm,hp0.length_eq,HR.out.kept.len];exact HP.out
   have hm1:m≤200:=by rw [←hm,hp0.length_eq,HR.out.kept.len];exact HL.out
   have HM0:=hdd hm0;have HM1:=hdd hm1;have q0:(k:Int) < (n:Int):=by omega
   have HH0:=hdd (show RowAt cI 1 wr a0 X from hX0);clear hm hp0 hE hX0 hlt hk;have Fs:=BC.f;go_wp2_with fail;clear Fs;refine (ct _ BM Hm).mono ?_;rintro e w5 ⟨a5,c5,rfl,hr5,hb⟩;have hw:=hb;replace BC:=BC.ee hb;have hA5:=hA;clear ct hb hA;obtain ⟨kk,ek,lk⟩:∃ i:Nat,x % m=i∧i < m:=⟨(x % m).toNat,by have:=jDx x (b:=(m:Int)) (by omega);omega,by have:=jDo x (b:=(m:Int)) (by omega);have:=jDx x (b:=(m:Int)) (by omega);omega⟩;have cr:=fun W=>zNy (i:=x) (n:=m) (by omega) (by omega) W;rw [ek] at cr;have hk1:kk < I.length:=by rw [HM.out];exact lk
   have HT1:=hdd (HP0.out.mem_iff.1 (jAx hk1));obtain ⟨ad7,A7,ea7,eA7,hA7⟩:=hr5.six hk1;generalize I[kk]=T at *
   subst ea7;have p1:(kk:Int) < (m:Int):=Int.ofNat_lt.2 lk;have p2:(0:Int)≤(kk:Int):=Int.natCast_nonneg kk;have cx:w5.cell? (ad.add k)=some (.int .i64 x):=(hw.cell (by rw [zAo];exact hab)).trans hA5;have hab5:(ad.add k).block < w5.heap.size:=by rw [zAo];exact jBj hab hw.size
   have HA7:=hdd hA7;have hokT:=hdd (zB7 (HR.out.good.val T HT1.out));have HW5:=hdd hw;subst ea;clear hk1 ek hA7 hr5 hA5 lk hm0 hm1;replace hw:=Below.refl w5.heap.size w5;go_wp2_with fail;refine qK1 (cr _) BC hw fun w21 BC hw=>?_;obtain ⟨t6,t0,t1,t2,t3,t4,t5⟩:=(HA7.out.ee hw).f;have FC:=BC.f;go_wp2_with fail;clear t6 t0 t1 t2 t3 t4 t5 p1 p2 cr;clear FC;refine zA1 fun W22 hW=>?_;obtain ⟨bkT,hbT⟩:∃ b,w21.heap.size=b:=⟨_,rfl⟩;rw [hbT];obtain ⟨lCT,fT,BT,BC,hw⟩:=qM1 hW hbT BC hw;clear hW hbT;have cx2:∀ d os,(grow (redrawn W22 d) os).cell? (ad.add k)=some (.int .i64 x):=fun d os=>((below_regrown W22 d os).cell (jBj hab5 hw.size)).trans ((hw.cell hab5).trans cx);have kc0:=fun W=>zBc T (IntKind.i64.wrap (x.tdiv 7)) W;have kc1:=fun W=>zBc T (IntKind.i64.wrap (IntKind.i64.wrap (x.tdiv 7)+1)) W;have HKA:=hdd (zKm hokT.out (IntKind.i64.wrap (x.tdiv 7)));have HKB:=hdd (zKm hokT.out (IntKind.i64.wrap (IntKind.i64.wrap (x.tdiv 7)+1)));generalize hp1:crn T (IntKind.i64.wrap (x.tdiv 7))=p at *
   generalize hq1:crn T (IntKind.i64.wrap (IntKind.i64.wrap (x.tdiv 7)+1))=q at *
   clear hp1 hq1;have gC:=BC.cells;have gT:=BT.cells;refine zAq 17 [⟨15,8,54,[(),()]⟩,⟨16,9,54,[(),()]⟩] ?_ (by kernel_rfl) (by decide) (by decide) (by kernel_rfl) (by decide) (C:=fun w'=>∃ p:Regrown,w'=grow (redrawn W22 p.d) p.os) rgB ?_
   ·simp only [jBt];refine ⟨⟨_,rfl,rfl,rfl,rfl,fun ρ W=>by simp [execOp,go_sem]⟩,⟨_,rfl,rfl,rfl,rfl,fun ρ W=>by simp [execOp,go_sem]⟩,fun _ h=>(by cases h)⟩
   simp only [jBf,jCg,jAv,jD0,dropIdx,jC4,jC8,Nat.reduceBEq,Nat.reduceAdd,jCz,jD7,jD8,jBb,jDs,jDf];refine wkx ?_;intro w23 β hL;simp only [putD,jBy,jC0];have qA:=hL.box ⟨15,8,54,[(),()]⟩ (by simp) (by simp);simp only at qA;have qB:=hL.box ⟨16,9,54,[(),()]⟩ (by simp) (by simp);simp only at qB;have nAB:=hL.apart 8 (by simp) 9 (by simp) (by decide);have nBA:=hL.apart 9 (by simp) 8 (by simp) (by decide);have hb:=hL.below;have lC:=BC.lt;have lT:=BT.lt;clear gC gT;replace BC:=BC.ee hb;replace BT:=BT.ee hb;have hw0:=hw.size;replace hw:=upB hw hb;clear hb hL;generalize β 8=bkA at *
   generalize β 9=bkB at *
   clear β;obtain ⟨fA,BA⟩:=qA;obtain ⟨fB,BB⟩:=qB;simp only [Act.put];have FA:=BA.f;have FB:=BB.f;go_wp2_with fail;refine zA1 fun W24 hW=>?_;replace BC:=sto BC hW;replace BT:=sto BT hW;replace BA:=sto BA hW;replace BB:=sto BB hW;replace hw:=stw hw hW;clear FA FB;clear hW;clear kc0 kc1 cx2;have DA2:=(DA.ext HW5.out rfl).ee hw;obtain ⟨a9,c9,rfl,Dr,_⟩:=DA2.rd;have ck:=fun W R=>zCu db a9 c9 D.length D p q W R;have HGG:=hdd hg;have HHM:=hdd Hm;have HBM:=hdd BM;clear hg Hm DA BM cx hab5 HA7;have d1:∀ d os,Calls prog 40 #[pt0 db,p,q] (grow (redrawn W24 d) os) fun e w'=>e=.returned (.int .i64 (kindD D p q))∧Below (grow (redrawn W24 d) os).heap.size (grow (redrawn W24 d) os) w':=fun d os=>ck _ (Dr.ext (below_regrown W24 d os) rfl);cases hkd:(kindD D p q == 0)
   case false=>
    have HKD:=hdd hkd;generalize kindD D p q=kd at *
    have gC:=BC.cells;have gT:=BT.cells;have gA:=BA.cells;have gB:=BB.cells;refine wrt 7 (by kernel_rfl) (by kernel_rfl) ?_;simp only [tK1,tK0,dP1,dP0];refine wkx ?_;intro w25 hb;clear gC gT gA gB;obtain ⟨BC,BT,BA,BB,hw,-⟩:=qX4 BC BT BA BB hw hb;clear d1 ck;have FC:=BC.f;have FT:=BT.f;have FA:=BA.f;have FB:=BB.f;go_wp2;clear FC FT FA FB
    go_roundw
    case rel=>exact ⟨k+1,E1,L1,odd_n HLT.out HN.out,HLT.out,(HHM.out.ext HW5.out rfl).ee hw,HR,zA9 HGG.out (HW5.out.trans (hw.mono HW5.out.size))⟩
    case measure=>exact zMa HLT.out HN.out
   case true=>
    have hk0:kindD D p q=0:=by simpa using hkd
    have HFK:=hdd (zJ0 (K:=wll D) HWH.out.1 HWH.out.2 HR.out.good HR.out.tiles (p:=p) (q:=q) ⟨fun k=>k hk0,fun k=>k (by rw [zCw];exact hk0)⟩);clear hk0;generalize kindD D p q=kd at *
    obtain rfl:kd=0:=by simpa using hkd
    clear hkd;have gC:=BC.cells;have gT:=BT.cells;have gA:=BA.cells;have gB:=BB.cells;refine wrt 7 (by kernel_rfl) (by kernel_rfl) ?_;simp only [tK1,tK0,dP1,dP0];refine wkx ?_;intro w25 hb;clear gC gT gA gB;obtain ⟨BC,BT,BA,BB,hw,-⟩:=qX4 BC BT BA BB hw hb;clear d1 ck;have F_CTAB:=J4 BC.f BT.f BA.f BB.f;go_wp2_with fail;clear F_CTAB;have gA:=BA.cells;have gB:=BB.cells;have gC:=BC.cells;refine rgn 6 (fun w40 hb=>?_);clear gA gB gC;replace hw:=upB hw hb;clear hb BA BB BC BT;go_wp2_with fail;refine (zKd mb b E1 L1 HR.out.good p q ⟨HKA.out,HKB.out⟩ _ ((HBM.out.ext HW5.out rfl).ee hw) ((HHM.out.ext HW5.out rfl).ee hw)).mono ?_;rintro e w41 ⟨rfl,hg4,H4⟩;have hg5:=zAa (zA9 HGG.out (HW5.out.trans (hw.mono HW5.out.size))) hg4;obtain ⟨_,L4,G4,T4,K4⟩:=HFK.out;have HR4:=hdd (show RSt W H D L (flipD E1 p q).2 L4 from ⟨G4,T4,HR.out.kept.trans K4⟩);generalize (flipD E1 p q).1=r4 at *
    generalize (flipD E1 p q).2=E4 at *
    clear HFK hg4 G4 T4 K4 hw;go_wp2
    go_roundw
    case rel=>exact ⟨k+1,E4,L4,odd_n HLT.out HN.out,HLT.out,H4,HR4,hg5⟩
    case measure=>exact zMa HLT.out HN.out
end
section
open Go.RowKit Go.Sort Go.Lib Go.Shelf
attribute [local go_sem] rOper rAt rUpon cell_set sg_i64 sg_u64 alloc_cell alloc_frozen
attribute [local go_sem 10000] pt_eql pt_neq tri_eql
attribute [local irreducible] rWalk
attribute [local go_sem ↓ 10000] run_upto_edg
def mPot (h:Pt→Int) (L:List Tri3) (K:List (Pt×Pt)):Nat:=4 * (volS h L).toNat+K.length
theorem pot_pop {h:Pt→Int} {L:List Tri3} {K:List (Pt×Pt)} {e:Pt×Pt}:mPot h L K < mPot h L (K ++ [e]):=by unfold mPot;simp
theorem pot_flip {h:Pt→Int} {L L':List Tri3} {K:List (Pt×Pt)} {e p q c d:_} (h0:0≤volS h L') (hv:volS h L' < volS h L):mPot h L' (K ++ four p q c d) < mPot h L (K ++ [e]):=by unfold mPot four;simp;omega
theorem mend_w {n:Nat} (h:n≤2000000):wrap64 (n:Int)=n:=by rw [w64];omega
theorem fmend_any (mb b:Nat) (E0 E:Es) (L0 L:List Tri3) (sb:Nat) (a0:Option Addr) (c n:Nat) (Lw:List Wl) (W H:Int) (hW:W < 16777216) (hH:H < 16777216) (h:Pt→Int) (hh:Hts h) (v:Value) (K:List (Pt×Pt)) (n0:Nat) (w0:World) (Bm:Box w0 mb [.map (some b)] 81) (Hm0:HoldsMap eW eT okW w0 b E0) (S:SetRd w0 sb a0 c n Lw) (w:World) (hg:w0.grownBy w (some b)) (Hm:HoldsMap eW eT okW w b E) (hM:MSt W H h Lw L0 n0 E L K) (hn:n0+27 * (L0.length * L0.length)≤1000000) (hown:ERow w w0.heap.size v K):Calls prog 50 #[pt0 mb,pt0 sb,v] w fun e w'=>e=.returned (.tuple #[])∧∃ E1 L1,w0.grownBy w' (some b)∧HoldsMap eW eT okW w' b E1∧MSt W H h Lw L0 n0 E1 L1 []:=by
 have HN:=hdd hn;have HM:=hdd hM;have HW:=hdd hW;have HH:=hdd hH;have HHS:=hdd hh;clear hn hM hW hH hh
 go_enter func50,ntmps50
 go_wp2
 go_loopg [2,6,10] (mPot h L K+1) (fun k v2 _ _ wr=>∃ (E1:Es) (L1:List Tri3) (K1:List (Pt×Pt)),ERow wr w0.heap.size v2 K1∧HoldsMap eW eT okW wr b E1∧Hid (MSt W H h Lw L0 n0 E1 L1 K1)∧Hid (mPot h L1 K1 < k)∧w0.grownBy wr (some b))
 case atStart=>exact ⟨E,L,K,hown,Hm,HM,hdd (Nat.lt_succ_self _),hg⟩
 case round=>
  clear hown Hm HM hg;obtain ⟨E1,L1,K1,hown,Hm,HM,HP,hg⟩:=hrel;rcases List.eq_nil_or_concat K1 with rfl | ⟨K0,e,rfl⟩
  ·obtain ⟨a,cap,rfl,_⟩:=hown.row;go_wp2;exact bodyPost_end (results_none rfl _ _ _) rfl ⟨rfl,E1,L1,hg,Hm,HM.out⟩
  ·rw [List.concat_eq_append] at *;have HP2:=hdd (pot_pop (h:=h) (L:=L1) (K:=K0) (e:=e));have hlen:(K0 ++ [e]).length≤1000000:=jAp HM.out.len HN.out;obtain ⟨nk,hn⟩:∃ z,K0.length=z:=⟨_,rfl⟩;have hn1:nk≤2000000:=by rw [←hn];simp at hlen;omega
   obtain ⟨ad,cap,rfl,hcap,hpop,hrow⟩:=hown.pop2 hn;obtain ⟨ad2,A,ea,eA,hA⟩:=hrow.edg (j:=nk) (e:=e) (by rw [←hn];simp);obtain rfl:ad=ad2:=jAl ea;clear ea hown hrow hlen;have HNN:=hdd hn;clear hn;have hq:=mend_w hn1;have hq2:(nk:Int) < (nk:Int)+1:=by omega
   have hq3:(0:Int) < (nk:Int)+1:=by omega
   have hcap2:nk≤cap:=by omega
   obtain ⟨t4,t0,t1,t2,t3⟩:=hA.f;have hokE:=HM.out.ok e (by simp);have Bm1:=Bm.turn Hm0 hg;have S1:=S.turn Hm0 hg;have cb:=fun W B H D=>zN1 mb b E1 sb a0 c n Lw e.1 e.2 hokE W B H D;have HBV:=hdd (show badP E1 Lw e.1 e.2=badP E1 Lw e.1 e.2 from rfl);have hw:=Below.refl wr.heap.size wr;go_wp2_with fail;clear t4 t0 t1 t2 t3 hA eA hq hq2 hq3;refine zA4 fun W21 hW=>?_;obtain ⟨bkE,hbE⟩:∃ b,wr.heap.size=b:=⟨_,rfl⟩;rw [hbE];obtain ⟨fE,BE,hw⟩:=qM0 hW hbE hw;clear hW hbE;refine qK1 (cb _ (Bm1.ee hw) (Hm.ee hw) (S1.ee hw)) BE hw fun w22 BE hw=>?_;clear cb;cases hb:badP E1 Lw e.1 e.2
   case false=>
    have HB:=hdd hb;clear hb;have HM2:=hdd (HM.out.pop HW.out HH.out S1.good HB.out);generalize badC E1 Lw e.1 e.2=bc at *
    obtain ⟨xE,yE,zE,vE⟩:=BE.f;go_wp2;clear xE yE zE vE
    go_roundg (mPot h L1 (K0 ++ [e]))
    case rel=>exact ⟨E1,L1,K0,((hpop.ee hw).alloc _).alloc _,((Hm.ee hw).alloc _).alloc _,HM2,HP2,zA9 (zA9 hg hw) (by go_grown)⟩
    case measure=>exact HP.out
   case true=>
    have HB:=hdd hb;clear hb;have HFL:=fun E' L' r (g':Good E' L') (hf:FlipC E1 L1 e.1 e.2 r L')=>MSt.flip (p:=e.1) (q:=e.2) HHS.out HW.out HH.out S1.good HM.out HB.out g' hf;generalize badC E1 Lw e.1 e.2=bc at *
    have sE:(bkE=w22.heap.size+1)=False:=by have:=BE.lt;simp;omega
    obtain ⟨xE,yE,zE,vE⟩:=BE.f;go_wp2_with fail;clear xE yE zE vE;clear sE;refine zA4 fun W23 hW=>?_;obtain ⟨bkC,hbC⟩:∃ b,w22.heap.size=b:=⟨_,rfl⟩;rw [hbC];have lEC:=BE.lt;rw [hbC] at lEC;have fC:=hw.size;rw [hbC] at fC;have BC:Box W23 (bkC) [.int .i64 bc.1.x,.int .i64 bc.1.y] 54:=by rw [hW,←hbC];exact (Box.new rfl).old _
    have BD:Box W23 (bkC+1) [.int .i64 bc.2.x,.int .i64 bc.2.y] 54:=by rw [hW,←hbC];exact Box.new (by simp)
    replace BE:Box W23 (bkE) [.int .i64 e.1.x,.int .i64 e.1.y,.int .i64 e.2.x,.int .i64 e.2.y] 97:=by rw [hW];exact ((BE).old _).old _
    replace hw:Below wr wr W23:=by have hl:=hw.size;rw [hW];go_grown
    clear hW hbC;have Hm1:=Hm.ee hw;have hp1:=hpop.ee hw;have hg1:=zA9 hg hw;refine (mflip_any mb b E1 L1 HM.out.good e.1 e.2 hokE _ (Bm1.ee hw) Hm1).mono ?_;rintro e9 w9 ⟨r,E2,L2,rfl,hg9,Hm9,G2,FC⟩;obtain ⟨rfl,hvol,HM2⟩:=HFL E2 L2 r G2 FC;replace BE:=BE.turn Hm1 hg9;replace BC:=BC.turn Hm1 hg9;replace BD:=BD.turn Hm1 hg9;have hp9:=hp1.kept hg9 (.inr (zB5 hp1 Hm1).symm);replace hg1:=zAa hg1 hg9;have HM3:=hdd HM2;have HP3:=hdd (pot_flip (K:=K0) (e:=e) (p:=e.1) (q:=e.2) (c:=bc.1) (d:=bc.2) (HM2.tiles.vols HW.out HH.out HHS.out) hvol);have HMe:=hdd (show K0.length≤2000000 from by rw [HNN.out];exact hn1);clear HFL G2 FC HM2 hvol hg9 Hm1 hp1 hw Hm;have hlt0:=fun q hq=>(hp9.lt q hq).1;have hs9:=hg1.size;obtain ⟨xE,yE,zE,vE⟩:=BE.f;obtain ⟨xC,yC,zC,vC⟩:=BC.f;obtain ⟨xD,yD,zD,vD⟩:=BD.f;go_wp2_with (at_builtin;refine zLk rfl _ _ rfl w0.heap.size _ K0 rfl (hp9.alloc _) w9.heap.size 4 (four e.1 e.2 bc.1 bc.2) rfl rfl (Box.new rfl) (by decide) HMe.out (by simp;omega) ?_;intro w10 v10 hown10 hg10)
    clear xE yE zE vE xC yC zC vC xD yD zD vD;have HA:HoldsMap eW eT okW (w9.alloc (.cells #[.int .i64 e.1.x,.int .i64 e.1.y,.int .i64 bc.1.x,.int .i64 bc.1.y,.int .i64 bc.1.x,.int .i64 bc.1.y,.int .i64 e.2.x,.int .i64 e.2.y,.int .i64 e.2.x,.int .i64 e.2.y,.int .i64 bc.2.x,.int .i64 bc.2.y,.int .i64 bc.2.x,.int .i64 bc.2.y,.int .i64 e.1.x,.int .i64 e.1.y] 97)) b E2:=Hm9.alloc _;have Hm10:=HA.kept hg10 (zB5 (hp9.alloc _) HA);have hg2:=zHx (zA9 hg1 (show Below w9 w9 (w9.alloc (.cells #[.int .i64 e.1.x,.int .i64 e.1.y,.int .i64 bc.1.x,.int .i64 bc.1.y,.int .i64 bc.1.x,.int .i64 bc.1.y,.int .i64 e.2.x,.int .i64 e.2.y,.int .i64 e.2.x,.int .i64 e.2.y,.int .i64 bc.2.x,.int .i64 bc.2.y,.int .i64 bc.2.x,.int .i64 bc.2.y,.int .i64 e.1.x,.int .i64 e.1.y] 97)) by go_grown)) hg10 hlt0;clear hg10 HA;go_wp2
    go_roundg (mPot h L1 (K0 ++ [e]))
    case rel=>exact ⟨E2,L2,_,hown10,Hm10,HM3,HP3,hg2⟩
    case measure=>exact HP.out
end
section
open Go.RowKit
theorem zJ7 {a b:Pt} (h:a≠b) (k:¬ 0 < cmpP a b):cmpP a b < 0:=by
 have:cmpP a b≠0:=fun e=>h (cmpP_eq0.1 e);omega
theorem zOv {a b:Pt} {k:Int} (hk:k=1∨k=2) (h:cmpP a b < 0) (va:vld a=true) (vb:vld b=true):mkW a b k=⟨a,b,k⟩:=by
 have hn:a≠b:=fun e=>by rw [e,cmpP_eq0.2 rfl] at h;omega
 have h2:¬ cmpP b a < 0:=by have:=zAv a b;omega
 have hm:mkOk a b k=true:=by
  unfold mkOk mkK;rcases hk with rfl | rfl <;> simp [hn,va,vb]
 unfold mkW lo2 hi2;rw [jAc hm,jA0 h2,jA0 h2]
theorem zOg {T:Tri3} {i:Nat} (hi:i < 3):(crn T i,crn T (i+1))∈ways T:=by
 have:i=0∨i=1∨i=2:=by omega
 unfold ways;rcases this with rfl | rfl | rfl
 ·exact jAo
 ·exact jAi _ jAo
 ·exact jAi _ (jAi _ jAo)
theorem way_crn {T:Tri3} {a b:Pt} (h:(a,b)∈ways T):∃ i,i < 3∧crn T (i:Nat)=a∧crn T ((i:Int)+1)=b:=by
 unfold ways at h;simp only [jA1,jB6,jA6,jAw] at h;rcases h with ⟨rfl,rfl⟩ | ⟨rfl,rfl⟩ | ⟨rfl,rfl⟩
 ·exact ⟨0,by omega,rfl,rfl⟩
 ·exact ⟨1,by omega,rfl,rfl⟩
 ·exact ⟨2,by omega,rfl,rfl⟩
section
variable {W H:Int} {E:Es} {L:List Tri3} {Lw:List Wl} (hW:W < 16777216) (hH:H < 16777216) (g:Good E L) (t:Tiles W H L) (hg:∀ x∈Lw,GoodW x)
include hW hH g t hg
theorem zOq {T:Tri3} (hT:T∈L) {x:Wl} (hx:x∈upL E Lw T 3):∃ i,i < 3∧x=⟨crn T (i:Nat),crn T ((i:Int)+1),1⟩∧cmpP x.A x.B < 0∧badP E Lw x.A x.B=true∧(x.A,x.B)∈ways T:=by
 have vb:∀ q,inBox W H q→vld q=true:=fun q hq=>by rw [zAm];unfold inBox at hq;omega
 unfold upL at hx;obtain ⟨i,hi,rfl⟩:=jAk.1 hx;obtain ⟨hr,hf⟩:=jAq.1 hi;have hi3:=jBh.1 hr;unfold upF at hf;simp only [jA3,jDw,jC3] at hf;have hw:=zOg (T:=T) hi3;obtain ⟨⟨b1,b2⟩,_,hn⟩:=t.edge_box (.inl (mem_flat hT hw));have hlt:=zJ7 hn hf.1;have e:upW T i=⟨crn T (i:Nat),crn T ((i:Int)+1),1⟩:=zOv (.inl rfl) hlt (vb _ b1) (vb _ b2);rw [e];exact ⟨i,hi3,rfl,hlt,hf.2,hw⟩
theorem zGn {T:Tri3}:T∈bigT E Lw↔T∈L∧0 < (upL E Lw T 3).length:=by
 unfold bigT;rw [(srt_perm _).mem_iff,(good_heads g _).mem_iff,jAq,jA4]
theorem FB_mem {x:Wl}:x∈FB E Lw↔x.K=1∧cmpP x.A x.B < 0∧badP E Lw x.A x.B=true:=by
 have vb:∀ q,inBox W H q→vld q=true:=fun q hq=>by rw [zAm];unfold inBox at hq;omega
 unfold FB;rw [(srt_perm _).mem_iff,jAh];constructor
 ·rintro ⟨T,hT,hx⟩;obtain ⟨i,_,e,h1,h2,_⟩:=zOq hW hH g t hg ((zGn hW hH g t hg).1 hT).1 hx;exact ⟨by rw [e],h1,h2⟩
 ·rintro ⟨hk,hc,hb⟩;obtain ⟨S,mS,R,mR,c,d,cS,cR,_⟩:=(badP_iff g t hg).1 hb;obtain ⟨i,hi,e1,e2⟩:=way_crn cS.way;have hu:upF E Lw S i=true:=by
   unfold upF;rw [e1,e2,hb];simp;omega
  have hx:x∈upL E Lw S 3:=by
   unfold upL;refine jAk.2 ⟨i,jAq.2 ⟨jBh.2 hi,hu⟩,?_⟩;show mkW (crn S (i:Nat)) (crn S ((i:Int)+1)) 1=x;rw [e1,e2,zOv (.inl rfl) hc (vb _ (t.cyc_box mS cS)) (vb _ (t.cyc_box mS cS.turn)),←hk]
  exact ⟨S,(zGn hW hH g t hg).2 ⟨mS,jEf.2 (jEi hx)⟩,hx⟩
theorem FB_ris:Ris (FB E Lw):=by
 have nd:((bigT E Lw).flatMap fun T=>upL E Lw T 3).Nodup:=by
  unfold List.Nodup;rw [List.pairwise_flatMap];constructor
  ·intro T hT;have hTL:=((zGn hW hH g t hg).1 hT).1;unfold upL;rw [jE9];have hr:(List.range 3).Pairwise (fun a b=>a≠b):=List.nodup_range;refine jE0 (fun {i j} hi hj hij e=>?_) (hr.filter _);have inU:∀ {i:Nat},i∈(List.range 3).filter (upF E Lw T)→upW T i∈upL E Lw T 3:=fun {i} hi=>jAk.2 ⟨i,hi,rfl⟩;have hi3:=jBh.1 (jAq.1 hi).1;have hj3:=jBh.1 (jAq.1 hj).1;have eq:∀ {i:Nat},i∈(List.range 3).filter (upF E Lw T)→i < 3→(upW T i).A=crn T (i:Nat):=fun {i} hi hi3=>by
    obtain ⟨k1,k2⟩:=jAq.1 hi;unfold upF at k2;simp only [jA3,jDw,jC3] at k2;have vb:∀ q,inBox W H q→vld q=true:=fun q hq=>by rw [zAm];unfold inBox at hq;omega
    obtain ⟨⟨b1,b2⟩,_,hn⟩:=t.edge_box (.inl (mem_flat hTL (zOg (T:=T) hi3)));have e:upW T i=⟨crn T (i:Nat),crn T ((i:Int)+1),1⟩:=zOv (.inl rfl) (zJ7 hn k2.1) (vb _ b1) (vb _ b2);rw [e]
   have h1:=eq hi hi3;have h2:=eq hj hj3;rw [e,h2] at h1;obtain ⟨n1,n2,n3⟩:=zAb (t.pos T hTL);have hi':i=0∨i=1∨i=2:=by omega
   have hj':j=0∨j=1∨j=2:=by omega
   rcases hi' with rfl | rfl | rfl <;> rcases hj' with rfl | rfl | rfl <;> first | exact hij rfl | exact n1 h1 | exact n1 h1.symm | exact n2 h1 | exact n2 h1.symm | exact n3 h1 | exact n3 h1.symm
  ·have hb : (bigT E Lw).Nodup := by
     unfold bigT;refine (srt_perm _).nodup_iff.2 ((good_heads g _).nodup_iff.2 ?_);exact (zJ1 t.once).filter _
   have hb':(bigT E Lw).Pairwise (fun a b=>a≠b):=hb;refine jE0 (fun {S T} hS hT hne x hx y hy e=>hne ?_) hb';have mS:=((zGn hW hH g t hg).1 hS).1;have mT:=((zGn hW hH g t hg).1 hT).1;obtain ⟨_,_,_,_,_,w1⟩:=zOq hW hH g t hg mS hx;obtain ⟨_,_,_,_,_,w2⟩:=zOq hW hH g t hg mT hy;rw [e] at w1;exact zBu t.once mS mT w1 w2
 have ho:InOrder cmpW (FB E Lw):=wholeW.srt_order _;have nf:(FB E Lw).Nodup:=(srt_perm _).nodup_iff.2 nd;unfold Ris Rising;refine (List.pairwise_and_iff.2 ⟨ho,nf⟩).imp fun {x y} k=>?_;have:cmpW x y≠0:=fun e=>k.2 (cmpW_eq0.1 e);have:=k.1;omega
theorem FB_cov {x y:Pt} (hb:badP E Lw x y=true):(x,y)∈(FB E Lw).map (fun w=>(w.A,w.B))∨(y,x)∈(FB E Lw).map (fun w=>(w.A,w.B)):=by
 obtain ⟨S,mS,R,mR,c,d,cS,cR,_⟩:=(badP_iff g t hg).1 hb;have hn:=(zAb (t.cyc_pos mS cS)).1;by_cases hc:cmpP x y < 0
 ·exact .inl (jAk.2 ⟨⟨x,y,1⟩,(FB_mem hW hH g t hg).2 ⟨rfl,hc,hb⟩,rfl⟩)
 ·have h0:cmpP x y≠0:=fun e=>hn (cmpP_eq0.1 e);have h1:=zAv x y;exact .inr (jAk.2 ⟨⟨y,x,1⟩,(FB_mem hW hH g t hg).2 ⟨rfl,by show cmpP y x < 0;omega,zLi hW hH g t hg hb⟩,rfl⟩)
theorem FB_okW:∀ e∈(FB E Lw).map (fun w=>(w.A,w.B)),okW e:=by
 have vb:∀ q,inBox W H q→vld q=true:=fun q hq=>by rw [zAm];unfold inBox at hq;omega
 intro e he;obtain ⟨x,hx,rfl⟩:=jAk.1 he;obtain ⟨S,mS,R,mR,c,d,cS,cR,_⟩:=(badP_iff g t hg).1 ((FB_mem hW hH g t hg).1 hx).2.2;exact ⟨zBj (vb _ (t.cyc_box mS cS)),zBj (vb _ (t.cyc_box mS cS.turn))⟩
theorem FB_nil:FB E Lw=[]↔Fixed W H (wll Lw) L:=by
 constructor
 ·intro h;refine ⟨t,fun T hT R hR a b c d cT cR hk hc=>?_⟩;have hb:=(badP_iff g t hg).2 ⟨T,hT,R,hR,c,d,cT,cR,jBq fun k=>hk k,hc⟩;rcases FB_cov hW hH g t hg hb with k | k <;> rw [h] at k <;> cases k
 ·intro h;cases hF:FB E Lw with
  | nil=>rfl
  | cons x F=>
   exfalso
   have hx:x∈FB E Lw:=by rw [hF];exact jAo
   obtain ⟨S,mS,R,mR,c,d,cS,cR,hk,hc⟩:=(badP_iff g t hg).1 ((FB_mem hW hH g t hg).1 hx).2.2;exact h.2 S mS R mR _ _ _ _ cS cR (fun k=>k hk) hc
end
theorem FB_le (E:Es) (Lw:List Wl):(FB E Lw).length≤3 * E.length:=by
 unfold FB;rw [(srt_perm _).length_eq];refine jAp (zL4 E Lw _) ?_;unfold bigT;rw [(srt_perm _).length_eq];have:=heads_len (fun T=>decide (0 < (upL E Lw T 3).length)) E;omega
end
section
open Go.RowKit Go.Sort Go.Lib Go.Shelf
attribute [local go_sem] rOper rAt rUpon cell_set sg_i64 sg_u64 alloc_cell alloc_frozen
attribute [local go_sem 10000] pt_eql pt_neq tri_eql
attribute [local irreducible] rWalk
theorem ERow.base {w:World} {B B':Nat} {v:Value} {K:List (Pt×Pt)} (h:ERow w B v K) (hb:B'≤B):ERow w B' v K:=by
 refine ⟨h.1,?_⟩;rcases h.2 with h | ⟨g,cap,cur,h0,h1,h2⟩
 ·exact .inl h
 ·exact .inr ⟨g,cap,cur,h0,jAp hb h1,h2⟩
def wEdg (x:Wl):Pt×Pt:=(x.A,x.B)
def FRep (W H:Int) (b:Nat) (Lw:List Wl) (L:List Tri3) (w:World) (e:Ending) (w':World):Prop:=
 e=.returned (.int .i64 0)∧∃ E1 L1,w.grownBy w' (some b)∧HoldsMap eW eT okW w' b E1∧RSt W H Lw L E1 L1∧Fixed W H (wll Lw) L1
theorem fRepair_any (mb b:Nat) (E:Es) (L:List Tri3) (sb:Nat) (a0:Option Addr) (c n:Nat) (Lw:List Wl) (W H:Int) (hW:W < 16777216) (hH:H < 16777216) (hL:L.length≤94) (gE:Good E L) (ti:Tiles W H L) (w:World) (Bm:Box w mb [.map (some b)] 81) (Hm:HoldsMap eW eT okW w b E) (S:SetRd w sb a0 c n Lw):Calls prog 15 #[pt0 mb,pt0 sb] w (FRep W H b Lw L w):=by
 obtain ⟨h,hh⟩:=zNr;have hE:E.length≤300:=by rw [gE.len];omega
 have hl0:=FB_le E Lw;have hLL:L.length * L.length≤94 * 94:=jF5 hL hL;have HMS:=hdd (show MSt W H h Lw L ((FB E Lw).map wEdg).length E L ((FB E Lw).map wEdg) from ⟨gE,ti,Kept.refl _ _,FB_okW hW hH gE ti S.good,fun x y hb=>FB_cov hW hH gE ti S.good hb,[],List.nodup_nil,fun e (he:e∈[])=>(by cases he),by simp⟩);have HNN:=hdd (show ((FB E Lw).map wEdg).length+27 * (L.length * L.length)≤1000000 by rw [jCl];omega);have HG:=hdd S.good;have HH:=hdd (show (Hts h∧W < 16777216∧H < 16777216) from ⟨hh,hW,hH⟩);have hok:∀ e∈E,okT e.2:=fun e he=>by
  obtain ⟨ww,T⟩:=e;exact zB7 (gE.val T (wys_mem.1 (gE.perm.mem_iff.1 he)).1)
 have cb:=fBad_any mb b E sb a0 c n Lw (by omega) hok w Bm Hm S;have hFl:(FB E Lw).length≤1000:=by omega
 clear hok hE hl0 hLL hL hh hW hH gE ti;generalize FB E Lw=F at *
 go_enter func15,ntmps15
 go_wp2_with fail;refine cb.mono ?_;rintro e w2 ⟨v,rfl,hr,hw⟩;obtain ⟨a,cap,rfl,hrow,_⟩:=hr.row;obtain ⟨m,hm⟩:∃ m,F.length=m:=⟨_,rfl⟩;rw [hm] at hFl ⊢;have HF:=hdd hm;clear cb hr hm;go_wp2_with fail
 go_loopw [5,18] (fun v5 vi wr=>∃ k:Nat,k≤m∧vi=.int .i64 k∧ERow wr w2.heap.size v5 ((F.take k).map wEdg)∧Below w2 w2 wr) (fun _ vi _=>m - (intOf vi).toNat)
 case atStart=>exact ⟨0,jAt _,rfl,by simpa using ERow.nil0 _ _,Below.refl _ _⟩
 case round=>
  obtain ⟨k,hk,rfl,hown,hwr⟩:=hrel;by_cases hlt:k < m
  ·have hkF:k < F.length:=by rw [HF.out];exact hlt
   obtain ⟨ad,A,ea,eA,hA⟩:=(hrow.ee hwr).five (j:=k) hkF;have HT:=hdd (show (F.take (k+1)).map wEdg=(F.take k).map wEdg ++ [wEdg F[k]] by rw [jAb hkF,jBn];rfl);have hle:((F.take k).map wEdg).length≤2000000:=by rw [jCl,jB3];omega
   generalize F[k]=X at *
   obtain ⟨t5,t0,t1,t2,t3,t4⟩:=hA.f;have hlt0:=fun q hq=>(hown.lt q hq).1;have hs2:=hwr.size;subst ea;go_wp2_with (at_builtin;refine zLk rfl _ _ rfl w2.heap.size _ _ rfl ((hown.alloc _).alloc _) (wr.heap.size+1) 1 [wEdg X] rfl rfl (Box.new (by simp)) (by decide) hle (by simp;omega) ?_;intro w4 v4 hown4 hg4)
   have hw4:=((hwr.alloc hwr.size (.cells #[X.A.x,X.A.y,X.B.x,X.B.y,X.K] 60)).alloc (by simp;omega) (.cells #[X.A.x,X.A.y,X.B.x,X.B.y] 97)).grown hg4 (by simp;omega) (fun q hq=>by have:=hlt0 q hq;omega);clear hg4 hlt0 t5 t0 t1 t2 t3 t4 hA hown;go_wp2
   go_roundw
   case rel=>exact ⟨k+1,hlt,by go_num,by rw [HT.out];exact hown4,hw4⟩
   case measure=>simp [intOf];omega
  ·obtain rfl:k=m:=by omega
   rw [jAe (by rw [HF.out];omega)] at hown;have hw3:=(upB hw hwr);have cm:=fmend_any mb b E E L L sb a0 c n Lw W H HH.out.2.1 HH.out.2.2 h HH.out.1 _ _ _ w Bm Hm S wr (zA6 hw3 _) (Hm.ee hw3) HMS.out HNN.out (hown.base hw.size);go_wp2_with fail;refine cm.mono ?_;rintro e w5 ⟨rfl,E1,L1,hg5,H5,M5⟩;have HM5:=hdd M5;clear cm M5;go_wp2
   go_ret
   exact ⟨rfl,E1,L1,hg5,H5,⟨HM5.out.good,HM5.out.tiles,HM5.out.kept⟩,HM5.out.fixed HG.out⟩
end
end Go.Proofs.YtogffkimgmlilaaGreat
