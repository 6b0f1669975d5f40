import Derived.Test.YtmpfadapbbjbkaaGreatPgc7
import Derived.Deep.Cut
set_option maxRecDepth 100000
set_option maxHeartbeats 8000000
set_option linter.all false
namespace Go.Proofs.YtmpfadapbbjbkaaGreat
open _root_.Go.Proofs.Tryz
section
open Go.RowKit Go.Sort
attribute [local go_sem] rOper rAt rUpon cell_set sg_i64 sg_u64 alloc_cell alloc_frozen
attribute [local go_sem 10000] pt_eql pt_neq tri_eql
attribute [local irreducible] rWalk
section
open Go.Lib Go.Shelf
def cE (e:Pt×Pt):List Value:=[.int .i64 e.1.x,.int .i64 e.1.y,.int .i64 e.2.x,.int .i64 e.2.y]
theorem Zr (e:Pt×Pt):(cE e).length=4:=rfl
theorem cE_one (e:Pt×Pt):∀ u∈cE e,u.oneCell'=true:=by
 intro u hu;unfold cE at hu;simp only [Yg,Ym,XG] at hu;rcases hu with rfl | rfl | rfl | rfl <;> rfl
theorem info_edge:(prog.info? 132).map (λi=>(i.zero,i.size,i.bytes))=some (some (.agg #[(),(),(),()]),4,32):=by kernel_rfl
def ERow (w:World) (B:Nat) (v:Value) (K:List (Pt×Pt)):Prop:=w.ownsRow B 132 4 v K.length (K.flatMap cE)
theorem ERow.nil0 (w:World) (B:Nat):ERow w B (.slice none 0 0) []:=World.ownsRow_nil _ _ _ _
theorem ERow.row {w:World} {B:Nat} {v:Value} {K:List (Pt×Pt)} (h:ERow w B v K):∃ a cap,v=.slice a K.length cap/\RowAt cE 4 w a K:=yi Zr h
theorem ERow.kept {w w':World} {B:Nat} {v:Value} {K:List (Pt×Pt)} {row:Option Nat} (h:ERow w B v K) (hg:w.grownBy w' row) (hne:v.ownBlock=none\/v.ownBlock≠row):ERow w' B v K:=World.ownsRow.kept h hg hne
theorem ERow.lt {w:World} {B:Nat} {v:Value} {K:List (Pt×Pt)} (h:ERow w B v K):∀ k,v.ownBlock=some k->B<=k/\k < w.heap.size:=World.ownsRow.lt h
theorem ERow.alloc {w:World} {B:Nat} {v:Value} {K:List (Pt×Pt)} (h:ERow w B v K) (o:Obj):ERow (w.alloc o) B v K:=World.ownsRow.alloc h o
theorem ERow.ext {w w':World} {B n:Nat} {v:Value} {K:List (Pt×Pt)} (h:ERow w B v K) (hb:Below n w w') (hn:n=w.heap.size):ERow w' B v K:=by
 refine ⟨h.1,?_⟩;rcases h.2 with h | ⟨g,cap,cur,h0,h1,h2,h3⟩
 ·exact .inl h
 ·refine .inr ⟨g,cap,cur,h0,h1,?_,h3⟩;have hl:g < w.heap.size:=(XQ.1 h2).1;rw [hb.block g (by omega)];exact h2
theorem ERow.ee {w w':World} {B:Nat} {v:Value} {K:List (Pt×Pt)} (h:ERow w B v K) (hb:Below w w w'):ERow w' B v K:=h.ext hb rfl
theorem ERow.pop {w:World} {B n:Nat} {v:Value} {K:List (Pt×Pt)} {e:Pt×Pt} (h:ERow w B v (K ++ [e])) (hn:K.length=n):∃ g cap,v=.slice (some ⟨g,0,none⟩) (n+1) cap/\n+1<=cap/\ERow w B (.slice (some ⟨g,0,none⟩) n cap) K:=by
 rcases h.2 with ⟨_,h0⟩ | ⟨g,cap,cur,h0,h1,h2,h3,h4,h5,h6⟩
 ·simp at h0
 ·have hl:(K ++ [e]).length=n+1:=by simp [hn]
  rw [hl] at h0 h3 h6;refine ⟨g,cap,h0,h3,zP Zr K,.inr ⟨g,cap,cur,by rw [hn],h1,h2,by omega,h4,h5,?_⟩⟩;have k:(cur.toList.take ((n+1) * 4)).take (n * 4)=((K ++ [e]).flatMap cE).take (n * 4):=by rw [h6]
  have lk:=zP Zr K;rw [hn] at lk;rw [List.take_take,X0,List.take_append_of_le_length (by omega),show min (n * 4) ((n+1) * 4)=n * 4 by omega,X5 (l:=K.flatMap cE) (by omega)] at k;rw [hn];exact k
theorem ERow.pop2 {w:World} {B n:Nat} {v:Value} {K:List (Pt×Pt)} {e:Pt×Pt} (h:ERow w B v (K ++ [e])) (hn:K.length=n):∃ (ad:Addr) (cap:Nat),v=.slice (some ad) (n+1) cap/\n+1<=cap/\ERow w B (.slice (some ad) n cap) K/\RowAt cE 4 w (some ad) (K ++ [e]):=by
 obtain ⟨g,cap,rfl,h1,h2⟩:=h.pop hn;obtain ⟨a,c,e1,e2⟩:=h.row;simp only [Value.slice.injEq] at e1;obtain ⟨rfl,_,_⟩:=e1;exact ⟨_,cap,rfl,h1,h2,e2⟩
def Four (w:World) (A:Addr) (e:Pt×Pt):Prop:=A.block < w.heap.size/\w.cell? A=some (.int .i64 e.1.x)/\w.cell? ⟨A.block,A.off+1,none⟩=some (.int .i64 e.1.y)/\w.cell? ⟨A.block,A.off+2,none⟩=some (.int .i64 e.2.x)/\w.cell? ⟨A.block,A.off+3,none⟩=some (.int .i64 e.2.y)
theorem RowAt.edg {w:World} {a:Option Addr} {K:List (Pt×Pt)} (h:RowAt cE 4 w a K) {j:Nat} {e:Pt×Pt} (hj:K[j]? = some e):∃ ad A,a=some ad/\ad.add (j * 4)=A/\Four w A e:=by
 obtain ⟨ad,h1,h2,h3⟩:=h j e hj;have hb:(ad.add (j * 4)).block=ad.block:=zy _ _;have e0:=h3 0 _ rfl;have e1:=h3 1 _ rfl;have e2:=h3 2 _ rfl;have e3:=h3 3 _ rfl;simp only [Addr.add_zero',Addr.add_succ'] at e0 e1 e2 e3;exact ⟨ad,_,h1,rfl,by rw [hb];exact h2,e0,e1,e2,e3⟩
theorem Four.f {w:World} {A:Addr} {e:Pt×Pt} (h:Four w A e):(A.block=w.heap.size)=False/\w.cell? A=some (.int .i64 e.1.x)/\w.cell? ⟨A.block,A.off+1,none⟩=some (.int .i64 e.1.y)/\w.cell? ⟨A.block,A.off+2,none⟩=some (.int .i64 e.2.x)/\w.cell? ⟨A.block,A.off+3,none⟩=some (.int .i64 e.2.y):=⟨by simp;have:=h.1;omega,h.2⟩
theorem run_upto_edg (a:Option Addr) (n cap hi:Nat) (h1:hi<=cap) (w:World):(Instr.slice 129 (.slice a n cap) none (some (.int .i64 hi)) none).run prog w=.ok (.slice a hi cap) w:=by
 cases a <;> simp [Instr.slice,Instr.sliceBounds,Instr.sliceBound,asIntOf,run_underlying underlying129,go_sem,h1,Addr.add]
theorem tU {w:World} {ops:Array Oper} {rest:List Oper} {o:Oper} {a:Act} {Q:Exit->Act->World->Prop} (hgd:o.guard=none) (s x:Operand) (ho:o.op=.call { callee:=.builtin .append,args:=#[s,x],argTypes:=#[129,129] }) (B:Nat) (v:Value) (K:List (Pt×Pt)) (hs:a.eval s=v) (hown:ERow w B v K) (bx m:Nat) (U:List (Pt×Pt)) (hx:a.eval x=.slice (some ⟨bx,0,none⟩) m m) (hm:U.length=m) (hU:Box w bx (U.flatMap cE) 132) (hu0:m<=1000) (hn:K.length<=2000000) (hbase:B<=w.heap.size) (h:∀ w' v',ERow w' B v' (K ++ U)->w.grownBy w' v.ownBlock->wpList prog ops Q rest (a.put o.dst v') w'):wpList prog ops Q (o :: rest) a w:=by
 obtain ⟨i0,hi,hz0,hz1,hz2⟩:=info_parts info_edge;refine wpList_append_own w hgd s x 129 ho B 132 i0 _ 4 32 underlying129 hi hz0 hz1 hz2 rfl (by decide) v K.length _ hs hown ⟨bx,0,none⟩ m m (U.flatMap cE) hx (by rw [zP Zr,hm]) ?_ ?_ ?_ ?_ hbase ?_
 ·intro j u hj;rw [Addr.add_lit,Xa];have:=hU.f.1 j;rw [hj] at this;exact this
 ·intro u hu;obtain ⟨X,_,hX⟩:=Yw.1 hu;exact cE_one X u hX
 ·unfold maxLen;omega
 ·omega
 ·intro v' w' hown' hg _;refine h w' v' ?_ hg;unfold ERow;rw [Yi,X0,hm];exact hown'
theorem SetRd.turn {w w':World} {sb c n b:Nat} {a0:Option Addr} {L:List Wl} {E:Es} (S:SetRd w sb a0 c n L) (H:Hs w b E) (hg:w.grownBy w' (some b)):SetRd w' sb a0 c n L:=
 ⟨S.box.turn H hg,S.row.turn cW_ne H hg,S.len,S.le,S.nc,S.flat,S.nil0,S.ris,S.good⟩
end
attribute [local go_sem ↓ 10000] run_upto_edg
section
open Go.Lib Go.Shelf
def mPot (h:Pt->Int) (L:List Tri3) (K:List (Pt×Pt)):Nat:=4 * (volS h L).toNat+K.length
theorem pot_pop {h:Pt->Int} {L:List Tri3} {K:List (Pt×Pt)} {e:Pt×Pt}:mPot h L K < mPot h L (K ++ [e]):=by unfold mPot;simp
theorem pot_flip {h:Pt->Int} {L L':List Tri3} {K:List (Pt×Pt)} {e p q c d:_} (h0:0<=volS h L') (hv:volS h L' < volS h L):mPot h L' (K ++ four p q c d) < mPot h L (K ++ [e]):=by unfold mPot four;simp;omega
theorem mend_w {n:Nat} (h:n<=2000000):wrap64 (n:Int)=n:=by rw [w64];omega
theorem fmend_any (mb b:Nat) (E0 E:Es) (L0 L:List Tri3) (sb:Nat) (a0:Option Addr) (c n:Nat) (Lw:List Wl) (W H:Int) (hW:W < 16777216) (hH:H < 16777216) (h:Pt->Int) (hh:Hts h) (v:Value) (K:List (Pt×Pt)) (n0:Nat) (w0:World) (Bm:Box w0 mb [.map (some b)] 102) (Hm0:Hs w0 b E0) (S:SetRd w0 sb a0 c n Lw) (w:World) (hg:w0.grownBy w (some b)) (Hm:Hs w b E) (hM:MSt W H h Lw L0 n0 E L K) (hn:n0+27 * (L0.length * L0.length)<=1000000) (hown:ERow w w0.heap.size v K):Calls prog 87 #[pt0 mb,pt0 sb,v] w λe w'=>e=.returned (.tuple #[])/\∃ E1 L1,w0.grownBy w' (some b)/\Hs w' b E1/\MSt W H h Lw L0 n0 E1 L1 []:=by
 have HN:=hdd hn;have HM:=hdd hM;have HW:=hdd hW;have HH:=hdd hH;have HHS:=hdd hh;clear hn hM hW hH hh
 go_enter func87,ntmps87
 go_wp2
 go_loopg [2,6,10] (mPot h L K+1) (λk v2 _ _ wr=>∃ (E1:Es) (L1:List Tri3) (K1:List (Pt×Pt)),ERow wr w0.heap.size v2 K1/\Hs wr b E1/\Hi (MSt W H h Lw L0 n0 E1 L1 K1)/\Hi (mPot h L1 K1 < k)/\w0.grownBy wr (some b))
 case atStart=>exact ⟨E,L,K,hown,Hm,HM,hdd (Nat.lt_succ_self _),hg⟩
 case round=>
  clear hown Hm HM hg;obtain ⟨E1,L1,K1,hown,Hm,HM,HP,hg⟩:=hrel;rcases List.eq_nil_or_concat K1 with rfl | ⟨K0,e,rfl⟩
  ·obtain ⟨a,cap,rfl,_⟩:=hown.row;go_wp2;exact bodyPost_end (results_none rfl _ _ _) rfl ⟨rfl,E1,L1,hg,Hm,HM.o⟩
  ·rw [List.concat_eq_append] at *;have HP2:=hdd (pot_pop (h:=h) (L:=L1) (K:=K0) (e:=e));have hlen:(K0 ++ [e]).length<=1000000:=XD HM.o.len HN.o;obtain ⟨nk,hn⟩:∃ z,K0.length=z:=⟨_,rfl⟩;have hn1:nk<=2000000:=by rw [<-hn];simp at hlen;omega
   obtain ⟨ad,cap,rfl,hcap,hpop,hrow⟩:=hown.pop2 hn;obtain ⟨ad2,A,ea,eA,hA⟩:=hrow.edg (j:=nk) (e:=e) (by rw [<-hn];simp);obtain rfl:ad=ad2:=XF ea;clear ea hown hrow hlen;have HNN:=hdd hn;clear hn;have hq:=mend_w hn1;have hq2:(nk:Int) < (nk:Int)+1:=by omega
   have hq3:(0:Int) < (nk:Int)+1:=by omega
   have hcap2:nk<=cap:=by omega
   obtain ⟨t4,t0,t1,t2,t3⟩:=hA.f;have hokE:=HM.o.ok e (by simp);have Bm1:=Bm.turn Hm0 hg;have S1:=S.turn Hm0 hg;have cb:=λW B H D=>ZP mb b E1 sb a0 c n Lw e.1 e.2 hokE W B H D;have HBV:=hdd (show badP E1 Lw e.1 e.2=badP E1 Lw e.1 e.2 from rfl);have hw:=Below.refl wr.heap.size wr;go_wp2_with fail;clear t4 t0 t1 t2 t3 hA eA hq hq2 hq3;refine zG λW21 hW=>?_;obtain ⟨bkE,hbE⟩:∃ b,wr.heap.size=b:=⟨_,rfl⟩;rw [hbE];obtain ⟨fE,BE,hw⟩:=qM0 hW hbE hw;clear hW hbE;refine qK1 (cb _ (Bm1.ee hw) (Hm.ee hw) (S1.ee hw)) BE hw λw22 BE hw=>?_;clear cb;cases hb:badP E1 Lw e.1 e.2
   case false=>
    have HB:=hdd hb;clear hb;have HM2:=hdd (HM.o.pop HW.o HH.o S1.good HB.o);generalize badC E1 Lw e.1 e.2=bc at *
    obtain ⟨xE,yE,zE,vE⟩:=BE.f;go_wp2;clear xE yE zE vE
    go_roundg (mPot h L1 (K0 ++ [e]))
    case rel=>exact ⟨E1,L1,K0,((hpop.ee hw).alloc _).alloc _,((Hm.ee hw).alloc _).alloc _,HM2,HP2,zQ (zQ hg hw) (by go_grown)⟩
    case measure=>exact HP.o
   case true=>
    have HB:=hdd hb;clear hb;have HFL:=λE' L' r (g':Good E' L') (hf:FlipC E1 L1 e.1 e.2 r L')=>MSt.flip (p:=e.1) (q:=e.2) HHS.o HW.o HH.o S1.good HM.o HB.o g' hf;generalize badC E1 Lw e.1 e.2=bc at *
    have sE:(bkE=w22.heap.size+1)=False:=by have:=BE.lt;simp;omega
    obtain ⟨xE,yE,zE,vE⟩:=BE.f;go_wp2_with fail;clear xE yE zE vE;clear sE;refine zG λW23 hW=>?_;obtain ⟨bkC,hbC⟩:∃ b,w22.heap.size=b:=⟨_,rfl⟩;rw [hbC];have lEC:=BE.lt;rw [hbC] at lEC;have fC:=hw.size;rw [hbC] at fC;have BC:Box W23 (bkC) [.int .i64 bc.1.x,.int .i64 bc.1.y] 26:=by rw [hW,<-hbC];exact (Box.new rfl).old _
    have BD:Box W23 (bkC+1) [.int .i64 bc.2.x,.int .i64 bc.2.y] 26:=by rw [hW,<-hbC];exact Box.new (by simp)
    replace BE:Box W23 (bkE) [.int .i64 e.1.x,.int .i64 e.1.y,.int .i64 e.2.x,.int .i64 e.2.y] 132:=by rw [hW];exact ((BE).old _).old _
    replace hw:Below wr wr W23:=by have hl:=hw.size;rw [hW];go_grown
    clear hW hbC;have Hm1:=Hm.ee hw;have hp1:=hpop.ee hw;have hg1:=zQ hg hw;refine (mflip_any mb b E1 L1 HM.o.good e.1 e.2 hokE _ (Bm1.ee hw) Hm1).mono ?_;rintro e9 w9 ⟨r,E2,L2,rfl,hg9,Hm9,G2,FC⟩;obtain ⟨rfl,hvol,HM2⟩:=HFL E2 L2 r G2 FC;replace BE:=BE.turn Hm1 hg9;replace BC:=BC.turn Hm1 hg9;replace BD:=BD.turn Hm1 hg9;have hp9:=hp1.kept hg9 (.inr (yP hp1 Hm1).symm);replace hg1:=zO hg1 hg9;have HM3:=hdd HM2;have HP3:=hdd (pot_flip (K:=K0) (e:=e) (p:=e.1) (q:=e.2) (c:=bc.1) (d:=bc.2) (HM2.tiles.vols HW.o HH.o HHS.o) hvol);have HMe:=hdd (show K0.length<=2000000 from by rw [HNN.o];exact hn1);clear HFL G2 FC HM2 hvol hg9 Hm1 hp1 hw Hm;have hlt0:=λq hq=>(hp9.lt q hq).1;have hs9:=hg1.size;obtain ⟨xE,yE,zE,vE⟩:=BE.f;obtain ⟨xC,yC,zC,vC⟩:=BC.f;obtain ⟨xD,yD,zD,vD⟩:=BD.f;go_wp2_with (at_builtin;refine tU rfl _ _ rfl w0.heap.size _ K0 rfl (hp9.alloc _) w9.heap.size 4 (four e.1 e.2 bc.1 bc.2) rfl rfl (Box.new rfl) (by decide) HMe.o (by simp;omega) ?_;intro w10 v10 hown10 hg10)
    clear xE yE zE vE xC yC zC vC xD yD zD vD;have HA:Hs (w9.alloc (.cells #[.int .i64 e.1.x,.int .i64 e.1.y,.int .i64 bc.1.x,.int .i64 bc.1.y,.int .i64 bc.1.x,.int .i64 bc.1.y,.int .i64 e.2.x,.int .i64 e.2.y,.int .i64 e.2.x,.int .i64 e.2.y,.int .i64 bc.2.x,.int .i64 bc.2.y,.int .i64 bc.2.x,.int .i64 bc.2.y,.int .i64 e.1.x,.int .i64 e.1.y] 132)) b E2:=Hm9.alloc _;have Hm10:=HA.kept hg10 (yP (hp9.alloc _) HA);have hg2:=grown_own (zQ hg1 (show Below w9 w9 (w9.alloc (.cells #[.int .i64 e.1.x,.int .i64 e.1.y,.int .i64 bc.1.x,.int .i64 bc.1.y,.int .i64 bc.1.x,.int .i64 bc.1.y,.int .i64 e.2.x,.int .i64 e.2.y,.int .i64 e.2.x,.int .i64 e.2.y,.int .i64 bc.2.x,.int .i64 bc.2.y,.int .i64 bc.2.x,.int .i64 bc.2.y,.int .i64 e.1.x,.int .i64 e.1.y] 132)) by go_grown)) hg10 hlt0;clear hg10 HA;go_wp2
    go_roundg (mPot h L1 (K0 ++ [e]))
    case rel=>exact ⟨E2,L2,_,hown10,Hm10,HM3,HP3,hg2⟩
    case measure=>exact HP.o
end
section
open Go.Lib Go.Shelf
theorem ERow.base {w:World} {B B':Nat} {v:Value} {K:List (Pt×Pt)} (h:ERow w B v K) (hb:B'<=B):ERow w B' v K:=by
 refine ⟨h.1,?_⟩;rcases h.2 with h | ⟨g,cap,cur,h0,h1,h2⟩
 ·exact .inl h
 ·exact .inr ⟨g,cap,cur,h0,XD hb h1,h2⟩
def wEdg (x:Wl):Pt×Pt:=(x.A,x.B)
def FRep (W H:Int) (b:Nat) (Lw:List Wl) (L:List Tri3) (w:World) (e:Ending) (w':World):Prop:=
 e=.returned (.int .i64 0)/\∃ E1 L1,w.grownBy w' (some b)/\Hs w' b E1/\RSt W H Lw L E1 L1/\Fixed W H (wll Lw) L1
theorem fRepair_any (mb b:Nat) (E:Es) (L:List Tri3) (sb:Nat) (a0:Option Addr) (c n:Nat) (Lw:List Wl) (W H:Int) (hW:W < 16777216) (hH:H < 16777216) (hL:L.length<=94) (gE:Good E L) (ti:Tiles W H L) (w:World) (Bm:Box w mb [.map (some b)] 102) (Hm:Hs w b E) (S:SetRd w sb a0 c n Lw):Calls prog 44 #[pt0 mb,pt0 sb] w (FRep W H b Lw L w):=by
 obtain ⟨h,hh⟩:=hts_ex;have hE:E.length<=300:=by rw [gE.len];omega
 have hl0:=FB_le E Lw;have hLL:L.length * L.length<=94 * 94:=Q7 hL hL;have HMS:=hdd (show MSt W H h Lw L ((FB E Lw).map wEdg).length E L ((FB E Lw).map wEdg) from ⟨gE,ti,Kept.refl _ _,FB_okW hW hH gE ti S.good,λx y hb=>FB_cov hW hH gE ti S.good hb,[],List.nodup_nil,λe (he:e∈[])=>(by cases he),by simp⟩);have HNN:=hdd (show ((FB E Lw).map wEdg).length+27 * (L.length * L.length)<=1000000 by rw [JC];omega);have HG:=hdd S.good;have HH:=hdd (show (Hts h/\W < 16777216/\H < 16777216) from ⟨hh,hW,hH⟩);have hok:∀ e∈E,okT e.2:=λe he=>by
  obtain ⟨ww,T⟩:=e;exact yJ (gE.val T (uM.1 (gE.perm.mem_iff.1 he)).1)
 have cb:=fBad_any mb b E sb a0 c n Lw (by omega) hok w Bm Hm S;have hFl:(FB E Lw).length<=1000:=by omega
 clear hok hE hl0 hLL hL hh hW hH gE ti;generalize FB E Lw=F at *
 go_enter func44,ntmps44
 go_wp2_with fail;refine cb.mono ?_;rintro e w2 ⟨v,rfl,hr,hw⟩;obtain ⟨a,cap,rfl,hrow,_⟩:=hr.row;obtain ⟨m,hm⟩:∃ m,F.length=m:=⟨_,rfl⟩;rw [hm] at hFl ⊢;have HF:=hdd hm;clear cb hr hm;go_wp2_with fail
 go_loopw [5,18] (λv5 vi wr=>∃ k:Nat,k<=m/\vi=.int .i64 k/\ERow wr w2.heap.size v5 ((F.take k).map wEdg)/\Below w2 w2 wr) (λ_ vi _=>m - (intOf vi).toNat)
 case atStart=>exact ⟨0,XZ _,rfl,by simpa using ERow.nil0 _ _,Below.refl _ _⟩
 case round=>
  obtain ⟨k,hk,rfl,hown,hwr⟩:=hrel;by_cases hlt:k < m
  ·have hkF:k < F.length:=by rw [HF.o];exact hlt
   obtain ⟨ad,A,ea,eA,hA⟩:=(hrow.ee hwr).five (j:=k) hkF;have HT:=hdd (show (F.take (k+1)).map wEdg=(F.take k).map wEdg ++ [wEdg F[k]] by rw [Yv hkF,Xp];rfl);have hle:((F.take k).map wEdg).length<=2000000:=by rw [JC,X4];omega
   generalize F[k]=X at *
   obtain ⟨t5,t0,t1,t2,t3,t4⟩:=hA.f;have hlt0:=λq hq=>(hown.lt q hq).1;have hs2:=hwr.size;subst ea;go_wp2_with (at_builtin;refine tU rfl _ _ rfl w2.heap.size _ _ rfl ((hown.alloc _).alloc _) (wr.heap.size+1) 1 [wEdg X] rfl rfl (Box.new (by simp)) (by decide) hle (by simp;omega) ?_;intro w4 v4 hown4 hg4)
   have hw4:=((hwr.alloc hwr.size (.cells #[X.A.x,X.A.y,X.B.x,X.B.y,X.K] 57)).alloc (by simp;omega) (.cells #[X.A.x,X.A.y,X.B.x,X.B.y] 132)).grown hg4 (by simp;omega) (λq hq=>by have:=hlt0 q hq;omega);clear hg4 hlt0 t5 t0 t1 t2 t3 t4 hA hown;go_wp2
   go_roundw
   case rel=>exact ⟨k+1,hlt,by go_num,by rw [HT.o];exact hown4,hw4⟩
   case measure=>simp [intOf];omega
  ·obtain rfl:k=m:=by omega
   rw [X5 (by rw [HF.o];omega)] at hown;have hw3:=(upB hw hwr);have cm:=fmend_any mb b E E L L sb a0 c n Lw W H HH.o.2.1 HH.o.2.2 h HH.o.1 _ _ _ w Bm Hm S wr (zK hw3 _) (Hm.ee hw3) HMS.o HNN.o (hown.base hw.size);go_wp2_with fail;refine cm.mono ?_;rintro e w5 ⟨rfl,E1,L1,hg5,H5,M5⟩;have HM5:=hdd M5;clear cm M5;go_wp2
   go_ret
   exact ⟨rfl,E1,L1,hg5,H5,⟨HM5.o.good,HM5.o.tiles,HM5.o.kept⟩,HM5.o.fixed HG.o⟩
end
structure CdtAt (w:World) (cb mb b db:Nat) (v:Value) (W H:Int) (E:Es) (D:List Wl):Prop where
 box:Box w cb [W,H,pt0 mb,pt0 db] 46
 mesh:Box w mb [.map (some b)] 93
 map:Hs w b E
 doc:DocAt w db v D
 cdb:cb≠db
 mdb:mb≠db
theorem CdtAt.ext {w w':World} {cb mb b db n:Nat} {v:Value} {W H:Int} {E:Es} {D:List Wl} (S:CdtAt w cb mb b db v W H E D) (hb:Below n w w') (hn:n=w.heap.size):CdtAt w' cb mb b db v W H E D:=
 ⟨S.box.ext hb hn,S.mesh.ext hb hn,S.map.ext hb hn,S.doc.ext hb hn,S.cdb,S.mdb⟩
theorem CdtAt.ee {w w':World} {cb mb b db:Nat} {v:Value} {W H:Int} {E:Es} {D:List Wl} (S:CdtAt w cb mb b db v W H E D) (hb:Below w w w'):CdtAt w' cb mb b db v W H E D:=S.ext hb rfl
theorem add_kinds {D D':List Wl} {p:Pt} (h:AddD D p D') (hk:∀ x∈D,0<=x.K/\x.K<=2):(∀ x∈D',0<=x.K/\x.K<=2)/\D'.length<=D.length+2:=by
 rcases h with ⟨_,e⟩ | ⟨X,r,D1,k1,k2,hX,hR,h1,h2,e⟩
 ·rw [e];exact ⟨hk,by omega⟩
 ·have hXk:=hk X (XV hX);have hD1:D1.length<=D.length/\∀ x∈D1,x∈D:=by
   rcases hR with ⟨_,e,_⟩ | ⟨_,k,hk,_,e⟩
   ·rw [e];exact ⟨Yq _,λx hx=>hx⟩
   ·rw [e];refine ⟨by simp;omega,λx hx=>?_⟩;rcases Ys.1 hx with hx | hx
    ·exact Kd hx
    ·exact JB hx
  have ins:∀ (L:List Wl) (Y:Wl) (k:Nat),(∀ x∈L,0<=x.K/\x.K<=2)->(0<=Y.K/\Y.K<=2)->∀ x∈insW L Y k,0<=x.K/\x.K<=2:=by
   intro L Y k hL hY x hx;unfold insW at hx;rcases Ys.1 hx with hx | hx
   ·exact hL x (Kd hx)
   ·rcases Yg.1 hx with rfl | hx
    ·exact hY
    ·exact hL x (JB hx)
  have len:∀ (L:List Wl) (Y:Wl) (k:Nat),(insW L Y k).length=L.length+1:=by
   intro L Y k;unfold insW;have:=(xy (L:=L) (X:=Y) k).length_eq
   simpa using this
  rw [e];exact ⟨ins _ _ _ (ins _ _ _ (λx hx=>hk x (hD1.2 x hx)) hXk) hXk,by rw [len,len];omega⟩
def AddRes (W H:Int) (L:List Tri3) (p:Pt) (r:Int):Prop:=(r=1/\¬ inBox W H p)\/(r=5/\inBox W H p/\someC L p)\/(r=0/\inBox W H p/\¬ someC L p)
theorem YQ {D D':List Wl} {p:Pt} (h:AddD D p D'):∀ x∈D',x∈D\/∃ X∈D,x.K=X.K/\onD p X=true/\((x.A=X.A/\x.B=p)\/(x.A=p/\x.B=X.B)):=by
 rcases h with ⟨_,rfl⟩ | ⟨X,r,D1,k1,k2,hf,hR,_,_,rfl⟩
 ·exact λx hx=>.inl hx
 ·have hXm:=XV hf;have ho:=JF hf;have hD1:∀ y∈D1,y∈D:=by
   rcases hR with ⟨_,e,_⟩ | ⟨_,k,hk,_,e⟩
   ·rw [e];exact λy hy=>hy
   ·rw [e];exact λy hy=>je.mem hy
  intro x hx;rcases Yg.1 ((xX _ _ _).mem_iff.1 hx) with rfl | hx
  ·exact .inr ⟨X,hXm,rfl,ho,.inr ⟨rfl,rfl⟩⟩
  ·rcases Yg.1 ((xX _ _ _).mem_iff.1 hx) with rfl | hx
   ·exact .inr ⟨X,hXm,rfl,ho,.inl ⟨rfl,rfl⟩⟩
   ·exact .inl (hD1 x hx)
theorem add_rim {W H:Int} {D D':List Wl} {p:Pt} (h:AddD D p D') (hr:∀ x∈D,x.K=2->onRim W H x.A x.B):∀ x∈D',x.K=2->onRim W H x.A x.B:=by
 intro x hx hk;rcases YQ h x hx with h | ⟨X,hX,e,ho,hh⟩
 ·exact hr x h hk
 ·have k:=hr X hX (by rw [<-e];exact hk);unfold onD onR btw at ho;simp only [Yf,Yh] at ho;obtain ⟨_,_,_,_,_,_,b1,b2⟩:=ho;unfold onRim at *;rcases hh with ⟨e1,e2⟩ | ⟨e1,e2⟩ <;> rw [e1,e2] <;> omega
theorem add_kind {D D':List Wl} {p:Pt} (h:AddD D p D'):∀ x∈D',∃ y∈D,x.K=y.K:=λx hx=>by
 rcases YQ h x hx with h | ⟨X,hX,e,_⟩
 ·exact ⟨x,h,rfl⟩
 ·exact ⟨X,hX,e⟩
structure CInvW (W H:Int) (E:Es) (L:List Tri3) (D:List Wl):Prop where
 good:Good E L
 fix:Fixed W H (wll D) L
 kinds:∀ x∈D,0<=x.K/\x.K<=2
 wal:WInv L D
 rim:∀ x∈D,x.K=2->onRim W H x.A x.B
theorem row_flatT {w:World} {b off:Nat} {L:List Tri3} (h:RowAt cT 6 w (some ⟨b,off,none⟩) L):∀ {t:Nat} {u:Value},(L.flatMap cT)[t]? = some u->w.cell? ⟨b,off+t,none⟩=some u:=λ{t u} hu=>by
 have ht:t < L.length * 6:=by have:=(Yr.1 hu).1;rwa [zP kg] at this
 have hj:t / 6 < L.length:=by omega
 have e:=y5 kg L (t / 6) (t % 6) L[t / 6] (Yo hj) (by omega);rw [show t / 6 * 6+t % 6=t by omega,hu] at e;obtain ⟨ad,h1,h2,h3⟩:=h (t / 6) _ (Yo hj);have h4:=h3 (t % 6) u e.symm;obtain rfl:=XF h1;rw [Addr.add_lit,Addr.add_lit] at h4;rw [show off+t / 6 * 6+t % 6=off+t by omega] at h4;exact h4
theorem append_trow {w:World} {ops:Array Oper} {rest:List Oper} {o:Oper} {a:Act} {Q:Exit->Act->World->Prop} (hgd:o.guard=none) (s x:Operand) (ho:o.op=.call { callee:=.builtin .append,args:=#[s,x],argTypes:=#[40,40] }) (B:Nat) (v:Value) (L:List Tri3) (hs:a.eval s=v) (hown:w.ownsRow B 28 6 v L.length (L.flatMap cT)) (bx cap:Nat) (U:List Tri3) (hx:a.eval x=.slice (some ⟨bx,0,none⟩) U.length cap) (hU:RowAt cT 6 w (some ⟨bx,0,none⟩) U) (hu0:U.length<=1000) (hn:L.length<=1000000) (hbase:B<=w.heap.size) (h:∀ w' v',w'.ownsRow B 28 6 v' (L ++ U).length ((L ++ U).flatMap cT)->w.grownBy w' v.ownBlock->wpList prog ops Q rest (a.put o.dst v') w'):wpList prog ops Q (o :: rest) a w:=by
 obtain ⟨i0,hi,hz0,hz1,hz2⟩:=info_parts ZC;refine wpList_append_own w hgd s x 40 ho B 28 i0 _ 6 48 underlying40 hi hz0 hz1 hz2 rfl (by decide) v L.length _ hs hown ⟨bx,0,none⟩ U.length cap (U.flatMap cT) hx (zP kg U) ?_ ?_ ?_ ?_ hbase ?_
 ·intro j u hj;rw [Addr.add_lit,Xa];have h9:=row_flatT hU hj
  rwa [Xa] at h9
 ·intro u hu;obtain ⟨X,_,hX⟩:=Yw.1 hu;exact Yc X u hX
 ·unfold maxLen;omega
 ·omega
 ·intro v' w' hown' hg _;refine h w' v' ?_ hg;rw [Yi,X0];exact hown'
theorem gpoint_none (mb b sb:Nat) (E:Es) (p:Pt) (hE:E.length<=1000000) (hat:atE E p=[]) (w:World) (Bm:Box w mb [.map (some b)] 102) (Hm:Hs w b E):Calls prog 12 #[pt0 mb,pt0 sb,p] w (Rt w (.int .i64 1)):=by
 have cA:=λW B H=>td mb b E p hE W B H
 change ∀ (W:World) B H,Calls _ _ _ _ λe w'=>∃ a cap,e=.returned (.slice a (atE E p).length cap)/\RowAt cT 6 w' a (atE E p)/\Below W W w' at cA
 rw [hat] at cA;clear hat
 go_enter func12,ntmps12
 go_wp2_with fail;refine zG λW1 hW=>?_;have hw:Below w w W1:=by rw [hW];go_grown
 clear hW;refine (cA _ (Bm.ee hw) (Hm.ee hw)).mono ?_;rintro e w2 ⟨a2,c2,rfl,hr,hb⟩;rw [Kn];replace hw:=upB hw hb;clear hb cA hr;go_wp2
 go_ret
 exact ⟨rfl,hw⟩
theorem gpoint_have (mb b sb:Nat) (E:Es) (p:Pt) (hE:E.length<=1000000) (hat:atE E p≠[]) (hall:∀ T∈atE E p,isCb p T=true) (w:World) (Bm:Box w mb [.map (some b)] 102) (Hm:Hs w b E):Calls prog 12 #[pt0 mb,pt0 sb,p] w (Rt w (.int .i64 5)):=by
 have cA:=λW B H=>td mb b E p hE W B H
 change ∀ (W:World) B H,Calls _ _ _ _ λe w'=>∃ a cap,e=.returned (.slice a (atE E p).length cap)/\RowAt cT 6 w' a (atE E p)/\Below W W w' at cA
 generalize atE E p=L at *
 obtain ⟨n,hn⟩:∃ n,L.length=n:=⟨_,rfl⟩;have hn0:0 < n:=by rw [<-hn];exact JR.2 hat
 have hnz:¬ (n:Int)=0:=by omega
 have hnp:(0:Int) < (n:Int):=by omega
 have h0L:0 < L.length:=by omega
 have hcb:=hall _ (Yx h0L);rw [hn] at cA;have HN:=hdd hn;clear hat hall hn
 go_enter func12,ntmps12
 go_wp2_with fail;refine qE1 λW1 Ba hw=>?_;refine (cA _ (Bm.ee hw) (Hm.ee hw)).mono ?_;rintro e w2 ⟨a2,c2,rfl,hr,hb⟩;obtain ⟨Ba,hw,-⟩:=qX1 Ba hw hb;clear hb cA;obtain ⟨ad,A,ea,eA,hA⟩:=hr.six (j:=0) h0L;have cC:=jV L[0] p;rw [hcb] at cC;generalize L[0]=T at *
 rw [show ad.add (0 * 6)=ad from by simp [Addr.add]] at eA;subst eA ea;have Fa:=Ba.f;have FA:=hA.f;have la:=Ba.lt;go_wp2_with fail;refine wp_loop_rounds 2 ?_;try rw [rounds_succ]
 go_wp2_with fail;refine zG λW3 hW=>?_;have hb:Below w2 w2 W3:=by rw [hW];go_grown
 replace hw:=upB hw hb;clear hW hb Fa FA;refine (cC _).mono ?_;rintro e w4 ⟨rfl,hb⟩;replace hw:=upB hw hb;clear hb cC;go_wp2
 go_ret
 exact ⟨rfl,hw⟩
theorem vQ {p:Pt} {L:List Tri3} (hl:L.length<=2) {k:Nat}:((L.take k).flatMap (cutS p)).length<=1000000:=by
 have main:∀ M:List Tri3,(M.flatMap (cutS p)).length<=3 * M.length:=λM=>by
  induction M with
  | nil=>simp
  | cons T M ih=>
   have h1:(cutS p T).length<=3:=by
    unfold cutS cutR;rw [(zd _).length_eq];split
    ·exact uI p T
    ·simp
   rw [Yj,Yi,XO];omega
 have h2:=main (L.take k);rw [X4] at h2;omega
theorem gp_n {k n:Nat} (h:k < n) (hn:n<=1000000):Value.int .i64 (wrap64 ((k:Int)+1))=.int .i64 ((k+1:Nat):Int):=by rw [show wrap64 ((k:Int)+1)=(k:Int)+1 by rw [w64];omega];rfl
theorem gp_meas {k n:Nat} (h:k < n) (hn:n<=1000000):n - (intOf (.int .i64 (wrap64 ((k:Int)+1)))).toNat < n - (intOf (.int .i64 (k:Int))).toNat:=by rw [show wrap64 ((k:Int)+1)=(k:Int)+1 by rw [w64];omega];simp [intOf];omega
def GPost (W H:Int) (b sb:Nat) (v:Value) (D:List Wl) (L1:List Tri3) (p:Pt) (w:World) (e:Ending) (w':World):Prop:=
 e=.returned (.int .i64 0)/\∃ E' L' v',Hs w' b E'/\SetAt w' sb v' (halfL D p)/\RSt W H (halfL D p) L1 E' L'/\Fixed W H (wll (halfL D p)) L'/\Frm w w' (λk=>k=b\/Foot sb v k)/\Fresh v v' w.heap.size
theorem gpoint_ok (mb b sb:Nat) (E:Es) (p:Pt) (W H:Int) (hW:W < 16777216) (hH:H < 16777216) (v:Value) (D:List Wl) (hE:E.length<=1000000) (hat:atE E p≠[]) (hlen:(atE E p).length<=2) (hA:∀ T∈atE E p,okT T/\hasP T p=true/\isCb p T=false/\0 < (cutP p T).length/\cutS p T=srt cmpT (cutP p T)/\∀ U∈cutS p T,okT U) (h1:(takeRun E (atE E p)).1=(atE E p).length) (h2:(putRun (takeRun E (atE E p)).2 ((atE E p).flatMap (cutS p))).1=((atE E p).flatMap (cutS p)).length) (L1:List Tri3) (g1:Good (putRun (takeRun E (atE E p)).2 ((atE E p).flatMap (cutS p))).2 L1) (t1:Tiles W H L1) (hL1:L1.length<=94) (hD:D.length<=900000) (hhalf:∀ X,D.find? (onD p)=some X->addE (remL D (lo2 X.A X.B) (hi2 X.A X.B)) ⟨X.A,p,X.K⟩=0/\addE (addL (remL D (lo2 X.A X.B) (hi2 X.A X.B)) ⟨X.A,p,X.K⟩) ⟨p,X.B,X.K⟩=0) (w:World) (Bm:Box w mb [.map (some b)] 102) (Hm:Hs w b E) (S:SetAt w sb v D) (hms:¬ Foot sb v mb):Calls prog 12 #[pt0 mb,pt0 sb,p] w (GPost W H b sb v D L1 p w):=by
 have cA:=λW B H=>td mb b E p hE W B H
 change ∀ (W:World) B H,Calls _ _ _ _ λe w'=>∃ a cap,e=.returned (.slice a (atE E p).length cap)/\RowAt cT 6 w' a (atE E p)/\Below W W w' at cA
 generalize atE E p=L at *
 obtain ⟨n,hn⟩:∃ n,L.length=n:=⟨_,rfl⟩;have hn0:0 < n:=by rw [<-hn];exact JR.2 hat
 have hnz:((n:Int) == 0)=false:=by rw [beq_eq_false_iff_ne];omega
 have HL:=hdd (show n<=2 by omega);rw [hn] at cA;have HN:=hdd hn;have HA:=hdd hA;have HT:=hdd (show (takeRun E L).1=L.length/\(putRun (takeRun E L).2 (L.flatMap (cutS p))).1=(L.flatMap (cutS p)).length from ⟨h1,h2⟩);have HG:=hdd g1;have HQ:=hdd (show W < 16777216/\H < 16777216/\L1.length<=94/\D.length<=900000 from ⟨hW,hH,hL1,hD⟩);have HTI:=hdd t1;have HHF:=hdd hhalf;have HMS:=hdd hms;have HS:=hdd S;clear hat hA h1 h2 g1 t1 hhalf hms S hW hH hL1 hD hn hlen
 go_enter func12,ntmps12
 go_wp2_with fail;refine qE1 λW1 Ba hw=>?_;refine (cA _ (Bm.ee hw) (Hm.ee hw)).mono ?_;rintro e w2 ⟨a2,c2,rfl,hr,hb⟩;obtain ⟨Ba,hw,-⟩:=qX1 Ba hw hb;clear hb cA;have Fa:=Ba.f;go_wp2_with fail
 go_loopw [8,26] (λvl vi wr=>∃ k:Nat,vi=.int .i64 k/\k<=n/\wr.ownsRow w2.heap.size 28 6 vl ((L.take k).flatMap (cutS p)).length (((L.take k).flatMap (cutS p)).flatMap cT)/\Below w2 w2 wr) (λ_ vi _=>n - (intOf vi).toNat)
 case atStart=>exact ⟨0,rfl,XZ _,World.ownsRow_nil _ _ _ _,Below.refl _ _⟩
 case round=>
  clear Fa;obtain ⟨k,rfl,hk,hown,hwr⟩:=hrel;replace Ba:=Ba.ee hwr;by_cases hlt:k < n
  case pos=>
   have HLT:=hdd hlt;have hq0:(k:Int) < (n:Int):=by omega
   have hkL:k < L.length:=by rw [HN.o];exact hlt
   obtain ⟨ad,A,ea,eA,hSix⟩:=(hr.ee hwr).six (j:=k) hkL;have HST:=hdd (show (L.take (k+1)).flatMap (cutS p)=(L.take k).flatMap (cutS p) ++ cutS p L[k] by rw [Yv hkL,X0];simp);obtain ⟨_,hh,hcb,hne,hcut,_⟩:=HA.o _ (Yx hkL);have HLE:=hdd (show ((L.take k).flatMap (cutS p)).length<=1000000 from vQ (by have:=HL.o;have:=HN.o;omega));have HCL:=hdd (uI p L[k]);have cC:=jV L[k] p;rw [hcb] at cC;have cK:=λW=>ZJ L[k] p hh hcb hne W;rw [hcut] at HST;generalize L[k]=T at *
   have HSL:=hdd (show (srt cmpT (cutP p T)).length<=3 by rw [(zd _).length_eq];exact HCL.o);generalize srt cmpT (cutP p T)=U at *
   generalize (L.take k).flatMap (cutS p)=P0 at *
   clear hh hcb hne hcut HCL;subst ea;have Fa:=Ba.f;have FS:=hSix.f;go_wp2_with fail;refine zG λW3 hW=>?_;obtain ⟨bt,hbt⟩:∃ b,wr.heap.size=b:=⟨_,rfl⟩;rw [hbt];have lt:=Ba.lt;rw [hbt] at lt;have lr:=hwr.size;rw [hbt] at lr;have Bt:Box W3 bt [T.A.x,T.A.y,T.B.x,T.B.y,T.C.x,T.C.y] 28:=by rw [hW];exact Box.new hbt.symm
   have Ba3:Box W3 w [p.x,p.y] 26:=by rw [hW];exact Ba.old _
   have hb:Below wr wr W3:=by rw [hW];go_grown
   replace hown:=kK hown hb;replace hwr:=upB hwr hb;clear hW hb Fa FS hSix;refine (cC _).mono ?_;rintro e w4 ⟨rfl,hb⟩;replace Bt:=Bt.ee hb;replace Ba3:=Ba3.ee hb;replace hown:=kK hown hb;replace hwr:=upB hwr hb;clear hb cC;have Ft:=Bt.f;have Fa:=Ba3.f;go_wp2_with fail;refine (cK _).mono ?_;rintro e w5 ⟨g,cg,rfl,hrU,hg,hb⟩;clear Ft Fa;replace Bt:=Bt.ee hb;replace Ba3:=Ba3.ee hb;replace hown:=kK hown hb;replace hwr:=upB hwr hb;clear hb cK;have HBS:=hdd hwr.size;go_wp2_with (at_builtin;refine append_trow rfl _ _ rfl w2.heap.size _ P0 rfl hown g cg U rfl hrU (by have:=HSL.o;omega) HLE.o HBS.o ?_;intro w6 v6 hown6 hg6)
   have hw6:=hwr.grown hg6 hwr.size (λq hq=>(hown.lt q hq).1)
   go_roundw
   case rel=>exact ⟨k+1,gp_n HLT.o (by have:=HL.o;omega),HLT.o,by rw [HST.o];exact hown6,hw6⟩
   case measure=>exact gp_meas HLT.o (by have:=HL.o;omega)
  case neg=>
   have hkn:k=n:=by omega
   subst hkn;have hin:¬ (k:Int) < (k:Int):=by omega
   rw [X5 (by rw [HN.o];exact Yq _)] at hown;obtain ⟨a4,c4,rfl,hrP⟩:=yi kg hown;have hrL:=hr.ee hwr;have hwB:=(upB hw hwr);obtain ⟨m,hm⟩:∃ m,(L.flatMap (cutS p)).length=m:=⟨_,rfl⟩;have hm3:m<=1000000:=by
    have h9:=vQ (p:=p) (L:=L) (by have:=HL.o;have:=HN.o;omega) (k:=L.length);rw [List.take_length] at h9;omega
   have hok2:∀ U∈L.flatMap (cutS p),okT U:=λU hU=>by
    obtain ⟨T,hT,hU2⟩:=Yw.1 hU;exact (HA.o T hT).2.2.2.2.2 U hU2
   have cR:=λW B H r1 r2=>jw mb b E a2 a4 c2 c4 k m L (L.flatMap (cutS p)) HN (by have:=HL.o;omega) (λT hT=>(HA.o T hT).1) (hdd hm) hm3 hok2 (HT.o.1.trans HN.o) (HT.o.2.trans hm) W B H r1 r2;rw [hm];clear hm3 hok2 hm hown;generalize (putRun (takeRun E L).2 (L.flatMap (cutS p))).2=E6 at *
   have Fa:=Ba.f;go_wp2_with fail;refine (cR _ (Bm.ee hwB) (Hm.ee hwB) hrL hrP).mono ?_;rintro e w6 ⟨rfl,hg6,H6⟩;have H0:=Hm.ee hwB;have S0:=HS.o.ee hwB;have ns:sb≠b:=S0.box.ne_map H0;have no:some b≠v.ownBlock:=yP S0.row H0;have B6:=(Bm.ee hwB).turn H0 hg6;have Ba6:=Ba.turn H0 hg6;have S6:=S0.keep (Frm.of_grown hg6 (p:=λq=>q=b) (λg e=>(XF e).symm)) ns (λg hg e=>no (by rw [hg,e]));have FF:Frm w w6 (λq=>q=b\/Foot sb v q):=(Frm.of_below hwB).trans (Frm.of_grown hg6 (λg e=>.inl (XF e).symm));have nb:¬ Foot sb v b:=λh=>by
    rcases h with h | h
    ·exact ns h.symm
    ·exact no h.symm
   clear Fa cR hrL hrP H0 S0 hg6 hwr Ba hr;have Fa:=Ba6.f;go_wp2_with fail;cases hX:D.find? (onD p)
   case' none=>
    refine (ghalve_none sb v D p hX w6 S6).mono ?_;rintro e w7 ⟨rfl,hb⟩;have S7:SetAt w7 sb v (halfL D p):=by unfold halfL;rw [hX];exact S6.ee hb
    have H7:=H6.ee hb;have B7:=B6.ee hb;replace FF:=FF.trans (Frm.of_below hb);obtain ⟨v7,hv7⟩:∃ x,x=v:=⟨v,rfl⟩;rw [<-hv7] at S7;have f7:Fresh v v7 w.heap.size:=λg hg=>.inl (by rw [<-hv7];exact hg);clear hb hv7
   case' some X=>
    refine (ghalve_some sb v D p X hX HQ.o.2.2.2 (HHF.o X hX).1 (HHF.o X hX).2 w6 S6).mono ?_;rintro e w7 ⟨v7,rfl,S7,F7,f6⟩;have H7:Hs w7 b E6:=by
     have hl:=H6.lt;obtain ⟨es,clk,h1,r⟩:=H6;exact ⟨es,clk,by rw [F7.block b hl nb];exact h1,r⟩
    have B7:=F7.box B6 HMS.o;have s6:=FF.size;replace FF:=FF.trans2 F7 (λq h _=>.inr h);have f7:Fresh v v7 w.heap.size:=λg hg=>by
     rcases f6 g hg with h | h
     ·exact .inl h
     ·exact .inr (by omega)
    clear F7 f6 s6
   all_goals
    clear Fa S6 H6 B6 Ba6 nb no;obtain ⟨aS,cS,hvS,R7⟩:=S7.rd;have cr:=fRepair_any mb b E6 L1 sb aS cS _ (halfL D p) W H HQ.o.1 HQ.o.2.1 HQ.o.2.2.1 HG.o HTI.o w7 B7 H7 R7;clear R7 hvS;go_wp2_with fail;refine cr.mono ?_;rintro e w8 ⟨rfl,E8,L8,hg8,H8,R8,X8⟩;have no7:some b≠v7.ownBlock:=yP S7.row H7;have S8:=S7.keep (Frm.of_grown hg8 (p:=λq=>q=b) (λg e=>(XF e).symm)) ns (λg hg e=>no7 (by rw [hg,e]));have F8:=FF.trans2 (Frm.of_grown hg8 (p:=λq=>q=b) (λg e=>(XF e).symm)) (λq h _=>.inl h);have HR8:=hdd R8;have HX8:=hdd X8;clear cr hg8 R8 X8 S7 H7 B7;go_wp2
    go_ret
    exact ⟨rfl,E8,L8,v7,H8,S8,HR8.o,HX8.o,F8,f7⟩
theorem ZR {T:Tri3} {p:Pt} (hv:valT T=true) (vp:vld p=true) (hh:hasT T p):0 < (cutP p T).length:=by
 obtain ⟨va,vb,vc,hD⟩:=xA hv;obtain ⟨h1,h2,h3⟩:=hh;have hs:=xi T.A T.B T.C p;unfold cutP;simp only [Yi];by_cases k1:0 < det T.A T.B p
 ·rw [zf va vb vp k1];simp only [XX];omega
 ·by_cases k2:0 < det T.B T.C p
  ·rw [zf vb vc vp k2];simp only [XX];omega
  ·have k3:0 < det T.C T.A p:=by omega
   rw [zf vc va vp k3];simp only [XX];omega
theorem tG {T:Tri3} {p:Pt} (hh:hasP T p=true) (hc:isCb p T=false):cutS p T=srt cmpT (cutP p T):=by
 have:cutOk T p=true:=by
  have hc':¬ isCnr T p:=λk=>by rw [q9.2 k] at hc;cases hc
  unfold cutOk isCnr at *;simp only [QD] at hc';rw [hh,y9.2 hc'.1,y9.2 hc'.2.1,y9.2 hc'.2.2];rfl
 unfold cutS cutR;rw [Yn this]
def GAddPost (W H:Int) (b sb:Nat) (v:Value) (E:Es) (L:List Tri3) (D:List Wl) (p:Pt) (w:World) (e:Ending) (w':World):Prop:=
 ∃ r E' L' D' v',e=.returned (.int .i64 r)/\Hs w' b E'/\SetAt w' sb v' D'/\CInvW W H E' L' D'/\AddRes W H L p r/\(∀ q,someC L' q↔someC L q\/(q=p/\inBox W H p))/\L'.length<=L.length+2/\D'.length<=D.length+2/\(r=0->AddD D p D'/\(L'.length=L.length+2/\¬ atRim W H p\/L'.length=L.length+1/\atRim W H p)/\D'.length=D.length+(if (D.find? (onD p)).isSome then 1 else 0))/\(r≠0->E'=E/\L'=L/\D'=D)/\Frm w w' (λk=>k=b\/Foot sb v k)/\Fresh v v' w.heap.size
theorem gpoint_any (mb b sb:Nat) (v:Value) (W H:Int) (hW0:0 < W) (hH0:0 < H) (hW:W < 16777216) (hH:H < 16777216) (E:Es) (L:List Tri3) (D:List Wl) (hI:CInvW W H E L D) (hL:L.length<=92) (hD:D.length<=20000) (p:Pt) (w:World) (Bm:Box w mb [.map (some b)] 102) (Hm:Hs w b E) (S:SetAt w sb v D) (hms:¬ Foot sb v mb):Calls prog 12 #[pt0 mb,pt0 sb,p] w (GAddPost W H b sb v E L D p w):=by
 have hE:E.length<=1000000:=by rw [hI.good.len];omega
 have g:=hI.good;have t:=hI.fix.tiles;by_cases hb0:inBox W H p
 ·obtain ⟨q1,q2⟩:=tQ hW hH g hb0;have q3:=at_some hW hH g t hW0 hH0 hb0;have vp:vld p=true:=by rw [zZ];unfold inBox at hb0;omega
  have hin:∀ T∈atE E p,T∈L/\hasP T p=true:=λT hT=>XR.1 (q1.mem_iff.1 hT);by_cases hc0:someC L p
  ·obtain ⟨T0,hT0,c0⟩:=hc0;refine (gpoint_have mb b sb E p hE q3 (λT hT=>q9.2 (t.cnr_all hT0 (hin T hT).1 c0 ((q2 T (hin T hT).1).1 (hin T hT).2))) w Bm Hm).mono ?_;rintro e w' ⟨rfl,hb⟩;exact ⟨5,E,L,D,v,rfl,Hm.ee hb,S.ee hb,hI,.inr (.inl ⟨rfl,hb0,T0,hT0,c0⟩),λq=>⟨.inl,λk=>by rcases k with k | ⟨rfl,_⟩;exact k;exact ⟨T0,hT0,c0⟩⟩,by omega,by omega,λk=>by omega,λ_=>⟨rfl,rfl,rfl⟩,Frm.of_below hb,λg hg=>.inl hg⟩
  ·obtain ⟨k1,k2,k3,k4,k5,L1,g1,g2,t1,s1,n1⟩:=grow_good hW hH g t hW0 hH0 hb0 hc0;have hL1:L1.length<=L.length+2:=by rcases n1 with ⟨k,_⟩ | ⟨k,_⟩ <;> omega
   have hA:∀ T∈atE E p,okT T/\hasP T p=true/\isCb p T=false/\0 < (cutP p T).length/\cutS p T=srt cmpT (cutP p T)/\∀ U∈cutS p T,okT U:=λT hT=>by
    obtain ⟨m1,m2⟩:=hin T hT;have m3:isCb p T=false:=by
     cases h:isCb p T with
     | false=>rfl
     | true=>exact absurd ⟨T,m1,q9.1 h⟩ hc0
    exact ⟨yJ (k1 T hT),m2,m3,ZR (k1 T hT) vp ((q2 T m1).1 m2),tG m2 m3,λU hU=>yJ (k2 T hT U hU)⟩
   have hh:=λX hX=>halve_eq hW0 hH0 hW hH g t hI.wal hb0 hc0 g1 t1 (X:=X) hX;refine (gpoint_ok mb b sb E p W H hW hH v D hE q3 k3 hA k4 k5 L1 g2 t1 (by omega) (by omega) (λX hX=>⟨(hh X hX).1,(hh X hX).2.1⟩) w Bm Hm S hms).mono ?_;rintro e w' ⟨rfl,E',L',v',H',S',R',F',f1,f2⟩;have hDD:WInv L1 (halfL D p)/\AddD D p (halfL D p)/\(halfL D p).length=D.length+(if (D.find? (onD p)).isSome then 1 else 0):=by
    cases hX:D.find? (onD p) with
    | none=>
     have e0:halfL D p=D:=by unfold halfL;rw [hX]
     have hA:AddD D p D:=.inl ⟨hX,rfl⟩;rw [e0];exact ⟨tb hW0 hH0 hW hH g t hI.wal hb0 hc0 hA g1 t1,hA,rfl⟩
    | some X=>
     have e0:halfL D p=addL (addL (remL D (lo2 X.A X.B) (hi2 X.A X.B)) ⟨X.A,p,X.K⟩) ⟨p,X.B,X.K⟩:=by unfold halfL;rw [hX]
     have:=(hh X hX).2.2 _ e0 S'.ris;exact ⟨this.1,this.2.1,this.2.2⟩
   have hk:=add_kinds hDD.2.1 hI.kinds;exact ⟨0,E',L',halfL D p,v',rfl,H',S',⟨R'.good,F',hk.1,hDD.1.kept R'.kept,add_rim hDD.2.1 hI.rim⟩,.inr (.inr ⟨rfl,hb0,hc0⟩),λq=>by rw [R'.kept.cnr q,s1 q];simp [hb0],by rw [R'.kept.len];exact hL1,hk.2,λ_=>⟨hDD.2.1,by rw [R'.kept.len];exact n1,hDD.2.2⟩,λk=>absurd rfl k,f1,f2⟩
 ·refine (gpoint_none mb b sb E p hE (at_none g t hb0) w Bm Hm).mono ?_;rintro e w' ⟨rfl,hb⟩;exact ⟨1,E,L,D,v,rfl,Hm.ee hb,S.ee hb,hI,.inl ⟨rfl,hb0⟩,λq=>⟨.inl,λk=>by rcases k with k | ⟨rfl,h⟩;exact k;exact absurd h hb0⟩,by omega,by omega,λk=>by omega,λ_=>⟨rfl,rfl,rfl⟩,Frm.of_below hb,λg hg=>.inl hg⟩
theorem ZK {p a b:Pt} (va:vld a=true) (vb:vld b=true) (vp:vld p=true) (h:0<=det a b p):sumA (part p a b)=det a b p/\(∀ U∈part p a b,valT U=true/\Cyc U a b p/\0 < det a b p)/\(part p a b).length=if det a b p=0 then 0 else 1:=by
 by_cases h0:det a b p=0
 ·rw [xB va vb vp h0,h0];exact ⟨rfl,λU hU=>by simp at hU,rfl⟩
 ·have h1:0 < det a b p:=by omega
  obtain ⟨k1,k2⟩:=zj va vb vp h1;rw [zf va vb vp h1,Ye h0];refine ⟨?_,λU hU=>?_,rfl⟩
  ·show det _ _ _+0=_;rw [<-k1.det];omega
  ·obtain rfl:=Ka.1 hU;exact ⟨k2,k1,h1⟩
theorem Yb {p a b:Pt}:(part p a b).Nodup:=by unfold part;split <;> simp
theorem uG {p a b c:Pt} (hD:0 < det a b c) {U V:Tri3} (hU:Cyc U a b p) (hV:Cyc V b c p) (h:0 < det b c p):U≠V:=by
 rintro rfl;obtain ⟨n1,n2,n3⟩:=zL hD;obtain ⟨_,n4,_⟩:=zL h;rcases (hU.cnr_iff c).1 ((hV.cnr_iff c).2 (.inr (.inl rfl))) with e | e | e
 ·exact n3 e
 ·exact n2 e.symm
 ·exact n4 e
theorem tj {T:Tri3} (h:valT T=true):twi T=det T.A T.B T.C:=by unfold twi;rw [Yn h]
def CutFin (M:Tri3) (p:Pt) (L:List Tri3):Prop:=
 (∀ U∈L,valT U=true/\isCb p U=true)/\L.Pairwise (λx y=>cmpT x y < 0)/\sumA L=twi M/\L.length=if insP M p=true then 3 else 2
theorem gc_fin {M:Tri3} {p:Pt} (hh:hasP M p=true) (hn:isCb p M=false):CutFin M p (cutS p M):=by
 have h':=hh;unfold hasP at h';simp only [Yf] at h';have hM:=h'.1;have vp:=h'.2.1;clear h';obtain ⟨va,vb,vc,hD⟩:=xA hM;obtain ⟨h1,h2,h3⟩:=(jS hM vp).1 hh;have hs:=xi M.A M.B M.C p;have hI:=insP_iff hM vp;obtain ⟨q1,q2,q3⟩:=at_corner p hD;have hn':¬ (p=M.A)/\¬ (p=M.B)/\¬ (p=M.C):=by
  unfold isCb at hn
  simpa using hn
 rw [q1,q2,q3] at hn';obtain ⟨a1,a2,a3⟩:=ZK va vb vp h1;obtain ⟨b1,b2,b3⟩:=ZK vb vc vp h2;obtain ⟨c1,c2,c3⟩:=ZK vc va vp h3;have hD2:0 < det M.B M.C M.A:=by rw [zX];exact hD
 have hD3:0 < det M.C M.A M.B:=by rw [zX];exact hD2
 have hp:=zd (c:=cmpT) (cutP p M);rw [tG hh hn];have nd:(cutP p M).Nodup:=by
  unfold cutP;refine XE.2 ⟨Yb,XE.2 ⟨Yb,Yb,λU hU V hV=>?_⟩,λU hU V hV=>?_⟩
  ·exact uG hD2 (b2 U hU).2.1 (c2 V hV).2.1 (c2 V hV).2.2
  ·rcases Ys.1 hV with hV | hV
   ·exact uG hD (a2 U hU).2.1 (b2 V hV).2.1 (b2 V hV).2.2
   ·exact λe=>uG hD3 (c2 V hV).2.1 (a2 U hU).2.1 (a2 U hU).2.2 e.symm
 have mem:∀ U∈cutP p M,valT U=true/\isCb p U=true:=by
  unfold cutP;intro U hU;have k:∀ {a b:Pt},valT U=true/\Cyc U a b p/\0 < det a b p->valT U=true/\isCb p U=true:=λ{a b} k=>⟨k.1,q9.2 ((k.2.1.cnr_iff p).2 (.inr (.inr rfl)))⟩;rcases Ys.1 hU with hU | hU
  ·exact k (a2 U hU)
  ·rcases Ys.1 hU with hU | hU
   ·exact k (b2 U hU)
   ·exact k (c2 U hU)
 refine ⟨λU hU=>mem U (hp.mem_iff.1 hU),?_,?_,?_⟩
 ·have o:=wholeT.srt_order (cutP p M);have n2:=hp.nodup_iff.2 nd;refine List.Pairwise.imp (S:=λx y=>cmpT x y < 0) (λ{x y} (h:cmpT x y<=0/\x≠y)=>?_) (List.pairwise_and_iff.2 ⟨o,n2⟩);have:cmpT x y≠0:=λe=>h.2 (wholeT.eq0.1 e);omega
 ·rw [uS hp,tj hM];unfold cutP;rw [yu,yu,a1,b1,c1];omega
 ·rw [hp.length_eq];unfold cutP;rw [Yi,Yi,a3,b3,c3];by_cases hi:insP M p=true
  ·obtain ⟨i1,i2,i3⟩:=hI.1 hi;rw [Yn hi,Ye (by omega),Ye (by omega),Ye (by omega)]
  ·rw [Ye hi];rw [hI] at hi
   (repeat' split) <;> omega
theorem vN {M:Tri3} {p:Pt} (h:hasP M p=false\/isCb p M=true):cutS p M=[]:=by
 have:cutOk M p=false:=by
  unfold cutOk;rcases h with h | h
  ·rw [h];rfl
  ·have k:∀ q:Pt,peqI q.x q.y q.x q.y=true:=λq=>by rw [ze];simp
   have hc:=q9.1 h;unfold isCnr at hc;rcases hc with rfl | rfl | rfl <;> rw [k] <;> simp
 unfold cutS cutR;rw [Ye (by rw [this];decide)];exact (zd []).eq_nil
theorem gc_cnr {a b c p:Pt} (h0:¬ ori a b c=0):isCb p (mk a b c)=(decide (p=a) || (decide (p=b) || decide (p=c))):=by
 rw [Xv];have:=mk_corners h0 p;unfold isCb;simp only [KS,Yh];exact this.symm
theorem gcut_out (T:Tri3) (p:Pt) (h0:hasP T p=false) (w:World):Calls prog 15 #[T,p] w (Rt w (.slice none 0 0)):=by
 have cH:=ut T p;rw [Zq,h0] at cH;clear h0
 go_enter func15,ntmps15
 go_wp2_with fail;refine zG λW1 hW=>?_;have hw:Below w w W1:=by rw [hW];go_grown
 clear hW;refine (cH _).mono ?_;rintro e w2 ⟨rfl,hb⟩;replace hw:=upB hw hb;clear hb cH;go_wp2
 go_ret
 exact ⟨rfl,hw⟩
theorem gcut_at (T:Tri3) (p:Pt) (h0:hasP T p=true) (h1:isCb p T=true) (w:World):Calls prog 15 #[T,p] w (Rt w (.slice none 0 0)):=by
 have cH:=ut T p;rw [Zq,h0] at cH;have cC:=jV T p;rw [h1] at cC;clear h0 h1
 go_enter func15,ntmps15
 go_wp2_with fail;refine qE2 λW1 Bt Ba hw=>?_;refine (cH _).mono ?_;rintro e w2 ⟨rfl,hb⟩;obtain ⟨Bt,Ba,hw,-⟩:=qX2 Bt Ba hw hb;clear hb cH;have G0:=J2 Bt.f Ba.f;go_wp2_with fail;refine (cC _).mono ?_;rintro e w3 ⟨rfl,hb⟩;clear G0;replace hw:=upB hw hb;clear hb cC;go_wp2
 go_ret
 exact ⟨rfl,hw⟩
theorem xg (T:Tri3) (p:Pt) (w:World):Calls prog 15 #[T,p] w λe w'=>∃ a cap,e=.returned (.slice a (cutS p T).length cap)/\RowAt cT 6 w' a (cutS p T)/\Below w w w':=by
 have none (h:cutOk T p=false):cutS p T=[]:=by unfold cutS cutR;rw [Ye (by rw [h];decide)];exact (zd []).eq_nil
 cases h0:hasP T p with
 | false=>
  rw [none (by unfold cutOk;rw [h0];rfl)];refine (gcut_out T p h0 w).mono ?_;rintro e w' ⟨rfl,hb⟩;exact ⟨_,_,rfl,λj x hx=>by simp at hx,hb⟩
 | true=>
  cases h1:isCb p T with
  | true=>
   have hc:=q9.1 h1;rw [none (by
    unfold cutOk isCnr at *;have k:∀ q:Pt,peqI q.x q.y q.x q.y=true:=λq=>by rw [ze];simp
    rcases hc with rfl | rfl | rfl <;> rw [k] <;> simp)]
   refine (gcut_at T p h0 h1 w).mono ?_;rintro e w' ⟨rfl,hb⟩;exact ⟨_,_,rfl,λj x hx=>by simp at hx,hb⟩
  | false=>
   have hv:valT T=true/\vld p=true:=by
    unfold hasP at h0;simp only [Yf] at h0;exact ⟨h0.1,h0.2.1⟩
   rw [tG h0 h1];refine (ZJ T p h0 h1 (ZR hv.1 hv.2 ((jS hv.1 hv.2).1 h0)) w).mono ?_;rintro e w' ⟨g,cap,rfl,hr,_,hb⟩;exact ⟨_,_,rfl,hr,hb⟩
structure GSt (s:Int) (w:World) (m b sb:Nat) (v:Value) (E:Es) (L:List Tri3) (D:List Wl):Prop where
 box:Box w m [.map (some b)] 102
 map:Hs w b E
 set:SetAt w sb v D
 inv:CInvW s s E L D
 ms:¬ Foot sb v m
theorem GSt.ext {s:Int} {w w':World} {m b sb n:Nat} {v:Value} {E:Es} {L:List Tri3} {D:List Wl} (S:GSt s w m b sb v E L D) (hb:Below n w w') (hn:n=w.heap.size):GSt s w' m b sb v E L D:=
 ⟨S.box.ext hb hn,S.map.ext hb hn,S.set.ext hb hn,S.inv,S.ms⟩
theorem GSt.ee {s:Int} {w w':World} {m b sb:Nat} {v:Value} {E:Es} {L:List Tri3} {D:List Wl} (S:GSt s w m b sb v E L D) (hb:Below w w w'):GSt s w' m b sb v E L D:=S.ext hb rfl
def Apt (b sb:Nat) (v:Value) (k:Nat):Prop:=k≠b/\¬ Foot sb v k
theorem GSt.apt {s:Int} {w:World} {m b sb:Nat} {v:Value} {E:Es} {L:List Tri3} {D:List Wl} (S:GSt s w m b sb v E L D) {k:Nat} (hk:w.heap.size<=k):Apt b sb v k:=⟨by have:=S.map.lt;omega,YK S.set hk⟩
theorem Apt.step {w:World} {b sb:Nat} {v v':Value} {k:Nat} (h:Apt b sb v k) (f:Fresh v v' w.heap.size) (hk:k < w.heap.size):Apt b sb v' k:=⟨h.1,λe=>h.2 (jZ f (Yq _) k e hk)⟩
theorem Apt.box {w w':World} {b sb:Nat} {v:Value} {k:Nat} {cs:List Value} {T:TypeId} (h:Apt b sb v k) (B:Box w k cs T) (F:Frm w w' (λk=>k=b\/Foot sb v k)):Box w' k cs T:=F.box B λe=>by
 rcases e with e | e
 ·exact h.1 e
 ·exact h.2 e
def GTold (s:Int) (L:List Tri3) (D:List Wl) (p:Pt) (r:Int) (L':List Tri3) (D':List Wl):Prop:=
 AddRes s s L p r/\(∀ q,someC L' q↔someC L q\/(q=p/\inBox s s p))/\L'.length<=L.length+2/\D'.length<=D.length+2/\(r=0->AddD D p D'/\(L'.length=L.length+2/\¬ atRim s s p\/L'.length=L.length+1/\atRim s s p)/\D'.length=D.length+(if (D.find? (onD p)).isSome then 1 else 0))/\(r≠0->L'=L/\D'=D)
theorem gstep (s:Int) (hs:0 < s) (hs2:s<=60) {w:World} {m b sb:Nat} {v:Value} {E:Es} {L:List Tri3} {D:List Wl} (S:GSt s w m b sb v E L D) (hL:L.length<=92) (hD:D.length<=20000) (p:Pt):Calls prog 12 #[pt0 m,pt0 sb,p] w λe w'=>∃ r E' L' D' v',e=.returned (.int .i64 r)/\GSt s w' m b sb v' E' L' D'/\GTold s L D p r L' D'/\Frm w w' (λk=>k=b\/Foot sb v k)/\Fresh v v' w.heap.size:=by
 refine (gpoint_any m b sb v s s hs hs (by omega) (by omega) E L D S.inv hL hD p w S.box S.map S.set S.ms).mono ?_;rintro e w' ⟨r,E',L',D',v',rfl,h1,h2,h3,h4,h5,h6,h7,h8,h9,h10,h11⟩;have ha:Apt b sb v m:=⟨S.box.ne_map S.map,S.ms⟩;exact ⟨r,E',L',D',v',rfl,⟨ha.box S.box h10,h1,h2,h3,(ha.step h11 S.box.lt).2⟩,⟨h4,h5,h6,h7,h8,λk=>(h9 k).2⟩,h10,h11⟩
theorem rsquare_any (W H:Int) (w:World):Calls prog 69 #[W,H] w (Rt w (.agg #[(),(),W,(),W,H,(),H])):=by
 go_enter func69,ntmps69
 go_wp2_with fail;generalize hW:w.alloc (.cells #[(),(),W,(),W,H,(),H] 115)=W1
 have Bq:Box W1 w [(),(),W,(),W,H,(),H] 115:=by rw [<-hW];exact Box.new rfl
 have hw:Below w w W1:=by rw [<-hW];go_grown
 clear hW;have Fq:=Bq.f;refine bodyPost_ret (v:=.agg #[(),(),W,(),W,H,(),H]) (by simp [results,results69,go_sem,Fq]) rfl ⟨rfl,hw⟩
def sqP (W H:Int) (k:Nat):Pt:=if k % 4=0 then ⟨0,0⟩ else if k % 4=1 then ⟨W,0⟩ else if k % 4=2 then ⟨W,H⟩ else ⟨0,H⟩
def sqW (W H:Int) (k:Nat):Wl:=mkW (sqP W H k) (sqP W H (k+1)) 2
theorem xF (a b:Pt):0<=(mkW a b 2).K/\(mkW a b 2).K<=2:=by
 unfold mkW;split <;> simp
def spt (s n:Int):Pt:=⟨n % ((s+1) * (s+1)) % (s+1),n % ((s+1) * (s+1)) / (s+1)⟩
def PutPt (s:Int) (P:List Int) (q:Pt):Prop:=(q=⟨0,0⟩\/q=⟨s,0⟩\/q=⟨s,s⟩\/q=⟨0,s⟩)\/∃ x∈P,q=spt s x
theorem vf {W H:Int} (hW0:0 < W) (hH0:0 < H) (hW:W < 16777216) (hH:H < 16777216) (k:Nat):∃ a b,sqW W H k=⟨a,b,2⟩/\GoodW (sqW W H k)/\((a=sqP W H k/\b=sqP W H (k+1))\/(a=sqP W H (k+1)/\b=sqP W H k)):=by
 have vb:∀ q,inBox W H q->vld q=true:=λq hq=>by rw [zZ];unfold inBox at hq;omega
 have bx:∀ j,inBox W H (sqP W H j):=λj=>by unfold sqP inBox;(repeat' split) <;> simp only <;> omega
 have ne:sqP W H k≠sqP W H (k+1):=λe=>by
  have:=Pt.eq_iff.1 e;unfold sqP at this;have h4:k % 4=0\/k % 4=1\/k % 4=2\/k % 4=3:=by omega
  rcases h4 with h | h | h | h
  ·have h2:(k+1) % 4=1:=by omega
   simp [h,h2] at this;omega
  ·have h2:(k+1) % 4=2:=by omega
   simp [h,h2] at this;omega
  ·have h2:(k+1) % 4=3:=by omega
   simp [h,h2] at this;omega
  ·have h2:(k+1) % 4=0:=by omega
   simp [h,h2] at this;omega
 have hm:mkOk (sqP W H k) (sqP W H (k+1)) 2=true:=by
  unfold mkOk mkK;simp [ne,vb _ (bx k),vb _ (bx (k+1))]
 have e:sqW W H k=⟨lo2 (sqP W H k) (sqP W H (k+1)),hi2 (sqP W H k) (sqP W H (k+1)),2⟩:=by unfold sqW mkW;rw [Yn hm]
 refine ⟨_,_,e,by rw [e];exact good_mk2 hm,?_⟩;unfold lo2 hi2;split
 ·exact .inr ⟨rfl,rfl⟩
 ·exact .inl ⟨rfl,rfl⟩
theorem uT {W H:Int} (hW0:0 < W) (hH0:0 < H) {i j:Nat} (hi:i < 4) (hj:j < 4) (hij:i≠j):¬ ((sqP W H i=sqP W H j/\sqP W H (i+1)=sqP W H (j+1))\/(sqP W H i=sqP W H (j+1)/\sqP W H (i+1)=sqP W H j)):=by
 have hi':i=0\/i=1\/i=2\/i=3:=by omega
 have hj':j=0\/j=1\/j=2\/j=3:=by omega
 rcases hi' with rfl | rfl | rfl | rfl <;> rcases hj' with rfl | rfl | rfl | rfl <;> first | exact absurd rfl hij | (simp [sqP,Pt.eq_iff];omega)
theorem sqW_rim {W H:Int} (hW0:0 < W) (hH0:0 < H) (hW:W < 16777216) (hH:H < 16777216) (k:Nat):onRim W H (sqW W H k).A (sqW W H k).B:=by
 obtain ⟨a,b,e,_,h⟩:=vf hW0 hH0 hW hH k;rw [e];have hr:onRim W H (sqP W H k) (sqP W H (k+1)):=by
  unfold sqP onRim;have h4:k % 4=0\/k % 4=1\/k % 4=2\/k % 4=3:=by omega
  rcases h4 with h | h | h | h
  ·have h2:(k+1) % 4=1:=by omega
   simp [h,h2]
  ·have h2:(k+1) % 4=2:=by omega
   simp [h,h2]
  ·have h2:(k+1) % 4=3:=by omega
   simp [h,h2]
  ·have h2:(k+1) % 4=0:=by omega
   simp [h,h2]
 rcases h with ⟨rfl,rfl⟩ | ⟨rfl,rfl⟩
 ·exact hr
 ·exact vG hr
theorem Zj {W H:Int} (hW0:0 < W) (hH0:0 < H) (hW:W < 16777216) (hH:H < 16777216) {k:Nat} (hk:k < 4) (x:Wl) (hx:x∈(List.range k).map (sqW W H)) (e:x=mkW (sqP W H k) (sqP W H (k+1)) 2):False:=by
 obtain ⟨i,hi,rfl⟩:=Yz.1 hx;rw [XT] at hi
 change sqW W H i=sqW W H k at e
 obtain ⟨a,b,e1,_,h1⟩:=vf hW0 hH0 hW hH i;obtain ⟨c,d,e2,_,h2⟩:=vf hW0 hH0 hW hH k;rw [e1,e2] at e;simp only [Wl.mk.injEq,QC] at e;obtain ⟨rfl,rfl⟩:=e;refine uT hW0 hH0 (by omega:i < 4) hk (by omega) ?_;rcases h1 with ⟨p1,p2⟩ | ⟨p1,p2⟩ <;> rcases h2 with ⟨q1,q2⟩ | ⟨q1,q2⟩
 ·exact .inl ⟨p1.symm.trans q1,p2.symm.trans q2⟩
 ·exact .inr ⟨p1.symm.trans q1,p2.symm.trans q2⟩
 ·exact .inr ⟨p2.symm.trans q2,p1.symm.trans q1⟩
 ·exact .inl ⟨p2.symm.trans q2,p1.symm.trans q1⟩
theorem winv_square {W H:Int} (hW0:0 < W) (hH0:0 < H) (hW:W < 16777216) (hH:H < 16777216) {L:List Tri3} (t:Tiles W H L) (hE:edgeL L ⟨0,0⟩ ⟨W,0⟩/\edgeL L ⟨W,0⟩ ⟨W,H⟩/\edgeL L ⟨W,H⟩ ⟨0,H⟩/\edgeL L ⟨0,H⟩ ⟨0,0⟩) {D:List Wl} (hP:D.Perm ((List.range 4).map (sqW W H))) (hR:Ris D):WInv L D:=by
 have he:∀ i,i < 4->edgeL L (sqP W H i) (sqP W H (i+1)):=λi hi=>by
  have hi':i=0\/i=1\/i=2\/i=3:=by omega
  rcases hi' with rfl | rfl | rfl | rfl
  ·exact hE.1
  ·exact hE.2.1
  ·exact hE.2.2.1
  ·exact hE.2.2.2
 have hs:∀ i,i < 4->edgeL L (sqW W H i).A (sqW W H i).B:=λi hi=>by
  obtain ⟨a,b,e,_,h⟩:=vf hW0 hH0 hW hH i;rw [e];rcases h with ⟨rfl,rfl⟩ | ⟨rfl,rfl⟩
  ·exact he i hi
  ·exact (he i hi).turn
 refine ⟨λx hx=>?_,hR,qZ hP.symm ?_,λx hx=>?_⟩
 ·obtain ⟨i,_,rfl⟩:=Yz.1 (hP.mem_iff.1 hx);obtain ⟨_,_,_,g,_⟩:=vf hW0 hH0 hW hH i;exact g
 ·unfold Apart;rw [List.pairwise_map];have hn:(List.range 4).Pairwise (λa b=>a≠b):=List.nodup_range;refine List.Pairwise.imp_of_mem (λ{i j} hi hj hij=>?_) hn;rw [XT] at hi hj;refine t.edges_apart hW hH (hs i hi) (hs j hj) ?_;obtain ⟨a,b,e1,_,h1⟩:=vf hW0 hH0 hW hH i;obtain ⟨c,d,e2,_,h2⟩:=vf hW0 hH0 hW hH j;rw [e1,e2];intro h;refine uT hW0 hH0 hi hj hij ?_;rcases h with ⟨rfl,rfl⟩ | ⟨rfl,rfl⟩ <;> rcases h1 with ⟨p1,p2⟩ | ⟨p1,p2⟩ <;> rcases h2 with ⟨q1,q2⟩ | ⟨q1,q2⟩
  ·exact .inl ⟨p1.symm.trans q1,p2.symm.trans q2⟩
  ·exact .inr ⟨p1.symm.trans q1,p2.symm.trans q2⟩
  ·exact .inr ⟨p2.symm.trans q2,p1.symm.trans q1⟩
  ·exact .inl ⟨p2.symm.trans q2,p1.symm.trans q1⟩
  ·exact .inr ⟨p1.symm.trans q2,p2.symm.trans q1⟩
  ·exact .inl ⟨p1.symm.trans q2,p2.symm.trans q1⟩
  ·exact .inl ⟨p2.symm.trans q1,p1.symm.trans q2⟩
  ·exact .inr ⟨p2.symm.trans q1,p1.symm.trans q2⟩
 ·obtain ⟨i,hi,rfl⟩:=Yz.1 (hP.mem_iff.1 hx);exact hs i (XT.1 hi)
def NewCPostW (W H:Int) (w:World) (e:Ending) (w':World):Prop:=
 ∃ cb mb b db v E L D,e=.returned (.pointer (some ⟨cb,0,none⟩))/\CdtAt w' cb mb b db v W H E D/\CInvW W H E L D/\L.length=2/\(∀ q,someC L q↔q=⟨0,0⟩\/q=⟨W,0⟩\/q=⟨W,H⟩\/q=⟨0,H⟩)/\D.Perm [sqW W H 0,sqW W H 1,sqW W H 2,sqW W H 3]/\Below w w w'/\w.heap.size<=b/\w.heap.size<=db/\w.heap.size<=mb/\w.heap.size<=cb
theorem rnewcdtX_any (W H:Int) (hW0:0 < W) (hH0:0 < H) (hW:W < 16777216) (hH:H < 16777216) (w:World):Calls prog 36 #[W,H] w (NewCPostW W H w):=by
 have k1:decide (W < 1)=false:=by simp;omega
 have k2:decide (16777216<=W)=false:=by simp;omega
 have k3:decide (H < 1)=false:=by simp;omega
 have k4:decide (16777216<=H)=false:=by simp;omega
 have vb:∀ q,inBox W H q->vld q=true:=λq hq=>by rw [zZ];unfold inBox at hq;omega
 have v0:vld (⟨0,0⟩:Pt)=true:=vb _ (by unfold inBox;simp only;omega);have v1:vld (⟨W,0⟩:Pt)=true:=vb _ (by unfold inBox;simp only;omega);have v2:vld (⟨W,H⟩:Pt)=true:=vb _ (by unfold inBox;simp only;omega);have v3:vld (⟨0,H⟩:Pt)=true:=vb _ (by unfold inBox;simp only;omega);have pWH:=Yu hW0 hH0;have d1:0 < det (⟨0,0⟩:Pt) ⟨W,0⟩ ⟨W,H⟩:=by
  have:det (⟨0,0⟩:Pt) ⟨W,0⟩ ⟨W,H⟩=W * H:=by unfold det;grind
  omega
 have d2:0 < det (⟨0,0⟩:Pt) ⟨W,H⟩ ⟨0,H⟩:=by
  have:det (⟨0,0⟩:Pt) ⟨W,H⟩ ⟨0,H⟩=W * H:=by unfold det;grind
  omega
 obtain ⟨cX,vX⟩:=zj v0 v1 v2 d1;obtain ⟨cY,vY⟩:=zj v0 v2 v3 d2;have tS:=tiles_square hW0 hH0 cX cY;have o1:¬ ori (⟨0,0⟩:Pt) ⟨W,0⟩ ⟨W,H⟩=0:=by rw [ori_v v0 v1 v2,y7];omega
 have o2:¬ ori (⟨0,0⟩:Pt) ⟨W,H⟩ ⟨0,H⟩=0:=by rw [ori_v v0 v2 v3,y7];omega
 have c1:=yB ⟨0,0⟩ ⟨W,0⟩ ⟨W,H⟩;have c2:=yB ⟨0,0⟩ ⟨W,H⟩ ⟨0,H⟩;rw [show (!decide (ori (⟨0,0⟩:Pt) ⟨W,0⟩ ⟨W,H⟩=0))=true by simp [o1]] at c1;rw [show (!decide (ori (⟨0,0⟩:Pt) ⟨W,H⟩ ⟨0,H⟩=0))=true by simp [o2]] at c2;dsimp only at c1 c2;have HC:=hdd (show ∀ q,someC [mk ⟨0,0⟩ ⟨W,0⟩ ⟨W,H⟩,mk ⟨0,0⟩ ⟨W,H⟩ ⟨0,H⟩] q↔q=⟨0,0⟩\/q=⟨W,0⟩\/q=⟨W,H⟩\/q=⟨0,H⟩ from λq=>by
  simp only [qH,cX.cnr_iff,cY.cnr_iff,Js (qx q),XG];constructor
  ·rintro ((k | k | k) | (k | k | k)) <;> simp [k]
  ·rintro (k | k | k | k) <;> simp [k])
 generalize mk ⟨0,0⟩ ⟨W,0⟩ ⟨W,H⟩=X at *
 generalize mk ⟨0,0⟩ ⟨W,H⟩ ⟨0,H⟩=Y at *
 have hok:∀ T∈[X,Y],okT T:=λT hT=>by
  simp only [Yg,Ym,XG] at hT;rcases hT with rfl | rfl
  ·exact yJ vX
  ·exact yJ vY
 have gp:=Good.puts (I:=[X,Y]) (E:=[]) (M:=[]) ⟨.refl _,List.nodup_nil,λT hT=>by cases hT⟩ (λT hT=>by
  simp only [Yg,Ym,XG] at hT;rcases hT with rfl | rfl
  ·exact vX
  ·exact vY) tS.once
 have cn:=λa w0 R=>rnew_any a 2 2 [X,Y] (hdd rfl) (by omega) hok w0 R;have HT:=hdd tS;have HXY:=hdd (show edgeL [X,Y] ⟨0,0⟩ ⟨W,0⟩/\edgeL [X,Y] ⟨W,0⟩ ⟨W,H⟩/\edgeL [X,Y] ⟨W,H⟩ ⟨0,H⟩/\edgeL [X,Y] ⟨0,H⟩ ⟨0,0⟩ from ⟨.inl (yT (by simp) cX.way),.inl (yT (by simp) cX.turn.way),.inl (yT (by simp) cY.turn.way),.inl (yT (by simp) cY.turn.turn.way)⟩);have HG:=hdd gp;have cs:=rsquare_any W H;clear v0 v1 v2 v3 vb d1 d2 o1 o2 cX cY vX vY hok tS gp pWH
 go_enter func36,ntmps36
 go_wp2_with fail;refine (cs _).mono ?_;rintro e w1 ⟨rfl,hb⟩;have hw:=hb;clear hb;go_wp2_with fail;refine zG λW2 hW=>?_;obtain ⟨bkq,hbq⟩:∃ b,w1.heap.size=b:=⟨_,rfl⟩;rw [hbq];obtain ⟨fq,Bq,hw⟩:=qM0 hW hbq hw;clear hW hbq;refine qC1 (c1 _) Bq hw λw3 Bq hw Fq=>?_;go_wp2_with fail;clear Fq;refine zG λW4 hW=>?_;obtain ⟨bkx,hbx⟩:∃ b,w3.heap.size=b:=⟨_,rfl⟩;rw [hbx];obtain ⟨lqx,fx,Bx,Bq,hw⟩:=qM1 hW hbx Bq hw;clear hW hbx;refine qC2 (c2 _) Bq Bx hw λw5 Bq Bx hw KU=>?_;go_wp2_with fail;clear KU;refine zG λW9 hW=>?_;have R1:RowAt cT 6 W9 (some ⟨w5+1,0,none⟩) [X,Y]:=kl (S:=[X,Y]) (by rw [hW];exact Box.new (by simp));have Bq9:Box W9 bkq [(),(),W,(),W,H,(),H] 115:=by rw [hW];exact (Bq.old _).old _
 replace hw:Below w w W9:=by have:=hw.size;rw [hW];go_grown
 have lq:=Bq.lt;have lq9:=Bq9.lt;clear hW Bq Bx;refine (cn _ _ R1).mono ?_;rintro e w10 hpost;unfold RNewPost at hpost;obtain ⟨mb,b,rfl,BM,HM,hbl,hml,hb,_⟩ | ⟨_,_,h⟩:=hpost
 rotate_left
 ·exact absurd h (by rw [HG.o.1];simp)
 have Bq10:=Bq9.ee hb;have hw10:=(upB hw hb);have hl1:=hw.size;replace hbl:=XD hl1 hbl;replace hml:=XD hl1 hml;have lm:=BM.lt;have lb:=HM.lt;have lq10:=Bq10.lt;generalize (putRun [] [X,Y]).2=E at *
 have HG:=hdd HG.o.2;clear hb cn R1 Bq9 hw c1 c2 cs;go_wp2;refine z7 λW11 hW=>?_;have So:DocAt W11 w10.heap.size (.slice none 0 0) []:=⟨by rw [hW];exact (Box.new rfl).old _,World.ownsRow_nil _ _ _ _,by simp [Value.ownBlock],by simp⟩;have Bc:Box W11 (w10+1) [W,H,pt0 mb,pt0 w10.heap.size] 46:=by rw [hW];exact Box.new (by simp)
 have Bq:Box W11 bkq [(),(),W,(),W,H,(),H] 115:=by rw [hW];exact (Bq10.old _).old _
 have Bm:Box W11 mb [.map (some b)] 93:=by rw [hW];exact (BM.old _).old _
 have Hm:Hs W11 b E:=by rw [hW];exact (HM.alloc _).alloc _
 have hw:Below w w W11:=by have:=hw10.size;rw [hW];go_grown
 have hws:=hw10.size;clear hW BM HM Bq10 hw10;obtain ⟨db,hdb⟩:∃ db,w10.heap.size=db:=⟨_,rfl⟩;rw [hdb] at So Bc lm lb lq10 hws;rw [hdb];clear hdb;have HP0:=hdd (show ([]:List Wl).Perm ((List.range 0).map (sqW W H))/\Ris ([]:List Wl) from ⟨.refl _,List.Pairwise.nil⟩)
 go_loopw [11] (λv11 wr=>∃ (k:Nat) (j:Int) (v:Value) (D:List Wl),k<=4/\v11=.int .i64 j/\Hi (j=k)/\DocAt wr db v D/\Hi (D.Perm ((List.range k).map (sqW W H))/\Ris D)/\Box wr bkq [(),(),W,(),W,H,(),H] 115/\Box wr (db+1) [W,H,pt0 mb,pt0 db] 46/\Box wr mb [.map (some b)] 93/\Hs wr b E/\Below w w wr) (λv11 _=>4 - (intOf v11).toNat)
 case atStart=>exact ⟨0,0,_,[],by omega,rfl,hdd rfl,So,HP0,Bq,Bc,Bm,Hm,hw⟩
 case round=>
  clear So Bq Bc Bm Hm hw HP0;obtain ⟨k,j,v,D,hk,rfl,hj,So,HP,Bq,Bc,Bm,Hm,hw⟩:=hrel;have hk':k=0\/k=1\/k=2\/k=3\/k=4:=by omega
  rcases hk' with rfl | rfl | rfl | rfl | rfl
  ·have hj:j=0:=by simpa using hj.o
   subst hj;have cw:=uZ ⟨0,0⟩ ⟨W,0⟩ 2;have HZ:=hdd (show (List.range (0+1)).map (sqW W H)=(List.range 0).map (sqW W H) ++ [mkW ⟨0,0⟩ ⟨W,0⟩ 2] by rw [Kl,Xp];rfl);have hZk:=xF ⟨0,0⟩ ⟨W,0⟩;have HNE:=hdd (show ∀ x∈D,x≠mkW ⟨0,0⟩ ⟨W,0⟩ 2 from λx hx e=>Zj hW0 hH0 hW hH (k:=0) (by omega) x (HP.o.1.mem_iff.1 hx) e);dsimp only at cw;generalize mkW ⟨0,0⟩ ⟨W,0⟩ 2=Z at *
   generalize mkOk ⟨0,0⟩ ⟨W,0⟩ 2=zk at *
   have hq1:IntKind.i64.wrap (0+1)=1:=by decide
   have hq2:IntKind.i64.wrap 1=1:=by decide
   have Fq:=Bq.f;have Fc:=Bc.f;go_wp2_with fail;have gq:=Bq.cells;have gc:=Bc.cells;refine rgl5 12 12 75 (λw41 bkz hb h1b h2b Bz=>?_);have lqz:=Bq.lt;have lcz:=Bc.lt;have hw0z:=hw.size;clear gq gc;clear Fq Fc;obtain ⟨Bq,Bc,hw,-⟩:=qX2 Bq Bc hw hb;have fz:=h1b;have hwz:w.heap.size<=wr.heap.size:=hw0z;replace So:=So.ee hb;replace Bm:=Bm.ee hb;replace Hm:=Hm.ee hb;clear hb h1b h2b hw0z;simp only [Act.put];have GK:=J3 Bq.f Bc.f Bz.f;go_wp2_with fail;clear GK;have gc:=Bc.cells;have gz:=Bz.cells;refine rgn 5 (λw60 hb=>?_);clear gc gz;replace So:=So.ee hb;replace Bm:=Bm.ee hb;replace Hm:=Hm.ee hb;obtain ⟨Bq,Bc,hw,-⟩:=qX2 Bq Bc hw hb;clear hb Bz;have hlD:D.length=0:=by have:=HP.o.1.length_eq;simpa using this
   have hkD:∀ x∈D,0<=x.K/\x.K<=2:=λx hx=>by
    obtain ⟨i,_,rfl⟩:=Yz.1 (HP.o.1.mem_iff.1 hx);exact xF _ _
   have cp:=kI db v D Z (by omega) hkD hZk w60 So;clear hlD hkD;go_wp2_with fail;refine cp.mono ?_;rintro e w61 ⟨kp,v',rfl,hk5,So5,hf5,hv5⟩;have hdw:w.heap.size<=db:=hws;have hbd:(some b)≠(some db):=λe=>So.box.ne_map Hm (XF e).symm;have Bq5:=hf5.box Bq (by omega);have Bc5:=hf5.box Bc (by omega);have Bm5:=hf5.box Bm (by omega);have Hm5:=Hm.kept hf5.grown hbd;have hw5:=hw.trans (hf5.below (n:=w.heap.size) (λk hk=>by rw [hk];exact hdw) hw.size);have HP5:=hdd (show (D.take kp ++ Z :: D.drop kp).Perm ((List.range (0+1)).map (sqW W H))/\Ris (D.take kp ++ Z :: D.drop kp) from ⟨by
    rw [HZ.o];exact (xy kp).trans ((HP.o.1.cons _).trans (XL (l₁:=[Z]))),kq HP.o.2 hk5 HNE.o⟩)
   clear cp HP HZ HNE hk5 hf5 hv5 So Bq Bc Bm Hm hw;go_wp2
   go_roundw
   case rel=>exact ⟨1,1,v',_,by omega,by first | rfl | go_num,hdd rfl,So5,HP5,Bq5,Bc5,Bm5,Hm5,hw5⟩
   case measure=>simp [intOf]
  ·have hj:j=1:=by simpa using hj.o
   subst hj;have cw:=uZ ⟨W,0⟩ ⟨W,H⟩ 2;have HZ:=hdd (show (List.range (1+1)).map (sqW W H)=(List.range 1).map (sqW W H) ++ [mkW ⟨W,0⟩ ⟨W,H⟩ 2] by rw [Kl,Xp];rfl);have hZk:=xF ⟨W,0⟩ ⟨W,H⟩;have HNE:=hdd (show ∀ x∈D,x≠mkW ⟨W,0⟩ ⟨W,H⟩ 2 from λx hx e=>Zj hW0 hH0 hW hH (k:=1) (by omega) x (HP.o.1.mem_iff.1 hx) e);dsimp only at cw;generalize mkW ⟨W,0⟩ ⟨W,H⟩ 2=Z at *
   generalize mkOk ⟨W,0⟩ ⟨W,H⟩ 2=zk at *
   have hq1:IntKind.i64.wrap (1+1)=2:=by decide
   have hq2:IntKind.i64.wrap 2=2:=by decide
   have Fq:=Bq.f;have Fc:=Bc.f;go_wp2_with fail;have gq:=Bq.cells;have gc:=Bc.cells;refine rgl5 12 12 75 (λw41 bkz hb h1b h2b Bz=>?_);have lqz:=Bq.lt;have lcz:=Bc.lt;have hw0z:=hw.size;clear gq gc;clear Fq Fc;obtain ⟨Bq,Bc,hw,-⟩:=qX2 Bq Bc hw hb;have fz:=h1b;have hwz:w.heap.size<=wr.heap.size:=hw0z;replace So:=So.ee hb;replace Bm:=Bm.ee hb;replace Hm:=Hm.ee hb;clear hb h1b h2b hw0z;simp only [Act.put];have GK:=J3 Bq.f Bc.f Bz.f;go_wp2_with fail;clear GK;have gc:=Bc.cells;have gz:=Bz.cells;refine rgn 5 (λw60 hb=>?_);clear gc gz;replace So:=So.ee hb;replace Bm:=Bm.ee hb;replace Hm:=Hm.ee hb;obtain ⟨Bq,Bc,hw,-⟩:=qX2 Bq Bc hw hb;clear hb Bz;have hlD:D.length=1:=by have:=HP.o.1.length_eq;simpa using this
   have hkD:∀ x∈D,0<=x.K/\x.K<=2:=λx hx=>by
    obtain ⟨i,_,rfl⟩:=Yz.1 (HP.o.1.mem_iff.1 hx);exact xF _ _
   have cp:=kI db v D Z (by omega) hkD hZk w60 So;clear hlD hkD;go_wp2_with fail;refine cp.mono ?_;rintro e w61 ⟨kp,v',rfl,hk5,So5,hf5,hv5⟩;have hdw:w.heap.size<=db:=hws;have hbd:(some b)≠(some db):=λe=>So.box.ne_map Hm (XF e).symm;have Bq5:=hf5.box Bq (by omega);have Bc5:=hf5.box Bc (by omega);have Bm5:=hf5.box Bm (by omega);have Hm5:=Hm.kept hf5.grown hbd;have hw5:=hw.trans (hf5.below (n:=w.heap.size) (λk hk=>by rw [hk];exact hdw) hw.size);have HP5:=hdd (show (D.take kp ++ Z :: D.drop kp).Perm ((List.range (1+1)).map (sqW W H))/\Ris (D.take kp ++ Z :: D.drop kp) from ⟨by
    rw [HZ.o];exact (xy kp).trans ((HP.o.1.cons _).trans (XL (l₁:=[Z]))),kq HP.o.2 hk5 HNE.o⟩)
   clear cp HP HZ HNE hk5 hf5 hv5 So Bq Bc Bm Hm hw;go_wp2
   go_roundw
   case rel=>exact ⟨2,2,v',_,by omega,by first | rfl | go_num,hdd rfl,So5,HP5,Bq5,Bc5,Bm5,Hm5,hw5⟩
   case measure=>simp [intOf]
  ·have hj:j=2:=by simpa using hj.o
   subst hj;have cw:=uZ ⟨W,H⟩ ⟨0,H⟩ 2;have HZ:=hdd (show (List.range (2+1)).map (sqW W H)=(List.range 2).map (sqW W H) ++ [mkW ⟨W,H⟩ ⟨0,H⟩ 2] by rw [Kl,Xp];rfl);have hZk:=xF ⟨W,H⟩ ⟨0,H⟩;have HNE:=hdd (show ∀ x∈D,x≠mkW ⟨W,H⟩ ⟨0,H⟩ 2 from λx hx e=>Zj hW0 hH0 hW hH (k:=2) (by omega) x (HP.o.1.mem_iff.1 hx) e);dsimp only at cw;generalize mkW ⟨W,H⟩ ⟨0,H⟩ 2=Z at *
   generalize mkOk ⟨W,H⟩ ⟨0,H⟩ 2=zk at *
   have hq1:IntKind.i64.wrap (2+1)=3:=by decide
   have hq2:IntKind.i64.wrap 3=3:=by decide
   have Fq:=Bq.f;have Fc:=Bc.f;go_wp2_with fail;have gq:=Bq.cells;have gc:=Bc.cells;refine rgl5 12 12 75 (λw41 bkz hb h1b h2b Bz=>?_);have lqz:=Bq.lt;have lcz:=Bc.lt;have hw0z:=hw.size;clear gq gc;clear Fq Fc;obtain ⟨Bq,Bc,hw,-⟩:=qX2 Bq Bc hw hb;have fz:=h1b;have hwz:w.heap.size<=wr.heap.size:=hw0z;replace So:=So.ee hb;replace Bm:=Bm.ee hb;replace Hm:=Hm.ee hb;clear hb h1b h2b hw0z;simp only [Act.put];have GK:=J3 Bq.f Bc.f Bz.f;go_wp2_with fail;clear GK;have gc:=Bc.cells;have gz:=Bz.cells;refine rgn 5 (λw60 hb=>?_);clear gc gz;replace So:=So.ee hb;replace Bm:=Bm.ee hb;replace Hm:=Hm.ee hb;obtain ⟨Bq,Bc,hw,-⟩:=qX2 Bq Bc hw hb;clear hb Bz;have hlD:D.length=2:=by have:=HP.o.1.length_eq;simpa using this
   have hkD:∀ x∈D,0<=x.K/\x.K<=2:=λx hx=>by
    obtain ⟨i,_,rfl⟩:=Yz.1 (HP.o.1.mem_iff.1 hx);exact xF _ _
   have cp:=kI db v D Z (by omega) hkD hZk w60 So;clear hlD hkD;go_wp2_with fail;refine cp.mono ?_;rintro e w61 ⟨kp,v',rfl,hk5,So5,hf5,hv5⟩;have hdw:w.heap.size<=db:=hws;have hbd:(some b)≠(some db):=λe=>So.box.ne_map Hm (XF e).symm;have Bq5:=hf5.box Bq (by omega);have Bc5:=hf5.box Bc (by omega);have Bm5:=hf5.box Bm (by omega);have Hm5:=Hm.kept hf5.grown hbd;have hw5:=hw.trans (hf5.below (n:=w.heap.size) (λk hk=>by rw [hk];exact hdw) hw.size);have HP5:=hdd (show (D.take kp ++ Z :: D.drop kp).Perm ((List.range (2+1)).map (sqW W H))/\Ris (D.take kp ++ Z :: D.drop kp) from ⟨by
    rw [HZ.o];exact (xy kp).trans ((HP.o.1.cons _).trans (XL (l₁:=[Z]))),kq HP.o.2 hk5 HNE.o⟩)
   clear cp HP HZ HNE hk5 hf5 hv5 So Bq Bc Bm Hm hw;go_wp2
   go_roundw
   case rel=>exact ⟨3,3,v',_,by omega,by first | rfl | go_num,hdd rfl,So5,HP5,Bq5,Bc5,Bm5,Hm5,hw5⟩
   case measure=>simp [intOf]
  ·have hj:j=3:=by simpa using hj.o
   subst hj;have cw:=uZ ⟨0,H⟩ ⟨0,0⟩ 2;have HZ:=hdd (show (List.range (3+1)).map (sqW W H)=(List.range 3).map (sqW W H) ++ [mkW ⟨0,H⟩ ⟨0,0⟩ 2] by rw [Kl,Xp];rfl);have hZk:=xF ⟨0,H⟩ ⟨0,0⟩;have HNE:=hdd (show ∀ x∈D,x≠mkW ⟨0,H⟩ ⟨0,0⟩ 2 from λx hx e=>Zj hW0 hH0 hW hH (k:=3) (by omega) x (HP.o.1.mem_iff.1 hx) e);dsimp only at cw;generalize mkW ⟨0,H⟩ ⟨0,0⟩ 2=Z at *
   generalize mkOk ⟨0,H⟩ ⟨0,0⟩ 2=zk at *
   have hq1:IntKind.i64.wrap (3+1)=4:=by decide
   have hq2:IntKind.i64.wrap 4=4:=by decide
   have Fq:=Bq.f;have Fc:=Bc.f;go_wp2_with fail;have gq:=Bq.cells;have gc:=Bc.cells;refine rgl5 12 12 75 (λw41 bkz hb h1b h2b Bz=>?_);have lqz:=Bq.lt;have lcz:=Bc.lt;have hw0z:=hw.size;clear gq gc;clear Fq Fc;obtain ⟨Bq,Bc,hw,-⟩:=qX2 Bq Bc hw hb;have fz:=h1b;have hwz:w.heap.size<=wr.heap.size:=hw0z;replace So:=So.ee hb;replace Bm:=Bm.ee hb;replace Hm:=Hm.ee hb;clear hb h1b h2b hw0z;simp only [Act.put];have GK:=J3 Bq.f Bc.f Bz.f;go_wp2_with fail;clear GK;have gc:=Bc.cells;have gz:=Bz.cells;refine rgn 5 (λw60 hb=>?_);clear gc gz;replace So:=So.ee hb;replace Bm:=Bm.ee hb;replace Hm:=Hm.ee hb;obtain ⟨Bq,Bc,hw,-⟩:=qX2 Bq Bc hw hb;clear hb Bz;have hlD:D.length=3:=by have:=HP.o.1.length_eq;simpa using this
   have hkD:∀ x∈D,0<=x.K/\x.K<=2:=λx hx=>by
    obtain ⟨i,_,rfl⟩:=Yz.1 (HP.o.1.mem_iff.1 hx);exact xF _ _
   have cp:=kI db v D Z (by omega) hkD hZk w60 So;clear hlD hkD;go_wp2_with fail;refine cp.mono ?_;rintro e w61 ⟨kp,v',rfl,hk5,So5,hf5,hv5⟩;have hdw:w.heap.size<=db:=hws;have hbd:(some b)≠(some db):=λe=>So.box.ne_map Hm (XF e).symm;have Bq5:=hf5.box Bq (by omega);have Bc5:=hf5.box Bc (by omega);have Bm5:=hf5.box Bm (by omega);have Hm5:=Hm.kept hf5.grown hbd;have hw5:=hw.trans (hf5.below (n:=w.heap.size) (λk hk=>by rw [hk];exact hdw) hw.size);have HP5:=hdd (show (D.take kp ++ Z :: D.drop kp).Perm ((List.range (3+1)).map (sqW W H))/\Ris (D.take kp ++ Z :: D.drop kp) from ⟨by
    rw [HZ.o];exact (xy kp).trans ((HP.o.1.cons _).trans (XL (l₁:=[Z]))),kq HP.o.2 hk5 HNE.o⟩)
   clear cp HP HZ HNE hk5 hf5 hv5 So Bq Bc Bm Hm hw;go_wp2
   go_roundw
   case rel=>exact ⟨4,4,v',_,by omega,by first | rfl | go_num,hdd rfl,So5,HP5,Bq5,Bc5,Bm5,Hm5,hw5⟩
   case measure=>simp [intOf]
  ·have hj:j=4:=by simpa using hj.o
   subst hj;have gc:=Bc.cells;go_wp2_with fail;refine rgn 8 (λw60 hb=>?_);clear gc;have S6:CdtAt w60 (db+1) mb b db v W H E D:=⟨Bc.ee hb,Bm.ee hb,Hm.ee hb,So.ee hb,by omega,by omega⟩;have hw6:=(upB hw hb);obtain ⟨a9,c9,hv9,Dr,_⟩:=S6.doc.rd;have cr:=rrepair_any mb b db a9 c9 D.length E [X,Y] D W H hW hH (by simp) HG.o HT.o w60 S6.mesh S6.map Dr;clear hb So Bq Bc Bm Hm hw hv9 Dr;go_wp2_with fail;refine cr.mono ?_;rintro e w7 ⟨rfl,E2,L2,g5,H5,r5,f5⟩;have S7:CdtAt w7 (db+1) mb b db v W H E2 D:=⟨S6.box.turn S6.map g5,S6.mesh.turn S6.map g5,H5,S6.doc.turn S6.map g5,S6.cdb,S6.mdb⟩;have hw7:=hw6.grown g5 hw6.size (λk hk=>by cases hk;exact hbl);have HI:=hdd (show CInvW W H E2 L2 D from ⟨r5.good,f5,λx hx=>by
    obtain ⟨i,_,rfl⟩:=Yz.1 (HP.o.1.mem_iff.1 hx);exact xF _ _,(winv_square hW0 hH0 hW hH HT.o HXY.o HP.o.1 HP.o.2).kept r5.kept,λx hx _=>by
    obtain ⟨i,hi,rfl⟩:=Yz.1 (HP.o.1.mem_iff.1 hx);exact sqW_rim hW0 hH0 hW hH i⟩)
   have HL:=hdd (show L2.length=2 by rw [r5.kept.len];rfl);have HQ:=hdd (show ∀ q,someC L2 q↔q=⟨0,0⟩\/q=⟨W,0⟩\/q=⟨W,H⟩\/q=⟨0,H⟩ from λq=>(r5.kept.cnr q).trans (HC.o q));have HP4:=hdd (show D.Perm [sqW W H 0,sqW W H 1,sqW W H 2,sqW W H 3] from HP.o.1);clear cr g5 H5 r5 f5 S6 hw6;go_wp2
   go_ret
   exact ⟨db+1,mb,b,db,v,E2,L2,D,rfl,S7,HI.o,HL.o,HQ.o,HP4.o,hw7,hbl,hws,hml,by omega⟩
def Sq0 (s:Int) (L:List Tri3) (D:List Wl):Prop:=L.length=2/\D.Perm [sqW s s 0,sqW s s 1,sqW s s 2,sqW s s 3]
def Built9Post (s:Int) (P:List Int) (m0:Nat) (w:World) (e:Ending) (w':World):Prop:=
 ∃ n0 m2 b2 sb v7 cb mb b db v E2 E L D,e=.returned (.tuple #[pt0 m2,pt0 sb,pt0 cb])/\Box w' m2 [.map (some b2)] 102/\Hs w' b2 E2/\Good E2 L/\SetAt w' sb v7 D /\
  CdtAt w' cb mb b db v s s E D/\CInvW s s E L D/\(∀ q,someC L q↔PutPt s P q)/\L.length<=2+2 * P.length/\D.length<=6000/\(m0=0->P.length=0->Sq0 s L D)/\Below w w w'/\w.heap.size<=b/\w.heap.size<=db /\
  w.heap.size<=n0/\(cb < n0/\mb < n0/\b < n0/\db < n0/\∀ g,v.ownBlock=some g->g < n0)/\n0<=m2/\n0<=b2/\n0<=sb/\(∀ g,v7.ownBlock=some g->n0<=g)/\m2 < sb/\¬ Foot sb v7 m2
theorem k9_sq:∀ x∈[sqW 2 2 0,sqW 2 2 1,sqW 2 2 2,sqW 2 2 3],x.K=2/\onD ⟨1,1⟩ x=false/\(onD ⟨1,0⟩ x=true->x.A=⟨0,0⟩/\x.B=⟨2,0⟩):=by decide
theorem k9_on:onD ⟨1,0⟩ (sqW 2 2 0)=true:=by decide
theorem k9_mid {L:List Tri3} {D:List Wl} (h:Sq0 2 L D):D.find? (onD ⟨1,1⟩)=none:=Xb.2 λx hx=>by rw [(k9_sq x (h.2.mem_iff.1 hx)).2.1];decide
theorem k9_rim {L:List Tri3} {D D':List Wl} (h:Sq0 2 L D) (hA:AddD D ⟨1,0⟩ D'):(D.find? (onD ⟨1,0⟩)).isSome=true/\kindW D' ⟨0,0⟩ ⟨1,0⟩=2:=by
 have h1:(D.find? (onD ⟨1,0⟩)).isSome=true:=List.find?_isSome.2 ⟨_,h.2.mem_iff.2 (Yy ..),k9_on⟩;refine ⟨h1,?_⟩;have hk:∀ x∈D',x.K=2:=λx hx=>by
  obtain ⟨y,hy,e⟩:=add_kind hA x hx;rw [e];exact (k9_sq y (h.2.mem_iff.1 hy)).1
 rcases hA with ⟨n1,_⟩ | ⟨X,r,D1,k1,k2,hX,_,_,_,rfl⟩
 ·rw [n1] at h1;cases h1
 ·obtain ⟨eA,eB⟩:=(k9_sq X (h.2.mem_iff.1 (XV hX))).2.2 (JF hX);have hm:(⟨X.A,⟨1,0⟩,X.K⟩:Wl)∈insW (insW D1 ⟨X.A,⟨1,0⟩,X.K⟩ k1) ⟨⟨1,0⟩,X.B,X.K⟩ k2:=(xX _ _ _).mem_iff.2 (.tail _ ((xX _ _ _).mem_iff.2 (.head _)));unfold kindW;cases hf:(insW (insW D1 ⟨X.A,⟨1,0⟩,X.K⟩ k1) ⟨⟨1,0⟩,X.B,X.K⟩ k2).find? (isW ⟨0,0⟩ ⟨1,0⟩) with
  | none=>
   have:=Xb.1 hf _ hm;exact absurd (show isW ⟨0,0⟩ ⟨1,0⟩ (⟨X.A,⟨1,0⟩,X.K⟩:Wl)=true from yw.2 ⟨eA,rfl⟩) this
  | some x=>exact hk x (XV hf)
theorem k9_put {L:List Tri3} (c:∀ q,someC L q↔PutPt 2 [] q):inBox 2 2 ⟨1,1⟩/\¬ someC L ⟨1,1⟩/\inBox 2 2 ⟨1,0⟩/\¬ someC L ⟨1,0⟩/\¬ inBox 2 2 ⟨3,0⟩/\¬ atRim 2 2 ⟨1,1⟩/\atRim 2 2 ⟨1,0⟩:=by
 rw [c,c];unfold PutPt inBox atRim;refine ⟨by decide,?_,by decide,?_,by decide,by decide,by decide⟩
 ·rintro ((h | h | h | h) | ⟨x,hx,_⟩)
  ·revert h;decide
  ·revert h;decide
  ·revert h;decide
  ·revert h;decide
  ·cases hx
 ·rintro ((h | h | h | h) | ⟨x,hx,_⟩)
  ·revert h;decide
  ·revert h;decide
  ·revert h;decide
  ·revert h;decide
  ·cases hx
theorem Ya:cutS ⟨1,1⟩ ⟨⟨0,0⟩,⟨2,0⟩,⟨2,2⟩⟩=srt cmpT (cutP ⟨1,1⟩ ⟨⟨0,0⟩,⟨2,0⟩,⟨2,2⟩⟩)/\(cutP ⟨1,1⟩ ⟨⟨0,0⟩,⟨2,0⟩,⟨2,2⟩⟩).length=2/\cutR ⟨⟨0,0⟩,⟨2,0⟩,⟨2,2⟩⟩ ⟨0,0⟩=[]:=by
 refine ⟨tG (by decide) (by decide),by decide,by decide⟩
theorem k9_len {L:List Tri3} (h:L.length=5) {E:Es} (g:Good E L):E.length=3 * 5:=by rw [g.len,h]
theorem gpoint_nil (v:Value) (x y:Int) (w:World):Calls prog 12 #[.pointer none,v,.agg #[x,y]] w (Rt w (.int .i64 16)):=by
 go_enter func12,ntmps12
 go_wp2_with fail
 go_ret
 exact ⟨rfl,by go_grown⟩
theorem k9_all {L L1 L2 L3 L4:List Tri3} {D D1 D2 D3 D4:List Wl} {r1 r2 r3 r4:Int} (h0:Sq0 2 L D) (c:∀ q,someC L q↔PutPt 2 [] q) (t1:GTold 2 L D ⟨1,1⟩ r1 L1 D1) (t2:GTold 2 L1 D1 ⟨1,1⟩ r2 L2 D2) (t3:GTold 2 L2 D2 ⟨3,0⟩ r3 L3 D3) (t4:GTold 2 L3 D3 ⟨1,0⟩ r4 L4 D4):r1=0/\r2=5/\r3=1/\r4=0/\L4.length=5/\D4.length=5/\kindW D4 ⟨0,0⟩ ⟨1,0⟩=2:=by
 obtain ⟨q1,q2,q3,q4,q5,q6,q7⟩:=k9_put c;have e1:r1=0:=by
  rcases t1.1 with ⟨_,h⟩ | ⟨_,_,h⟩ | ⟨h,_⟩
  ·exact absurd q1 h
  ·exact absurd h q2
  ·exact h
 obtain ⟨a1,b1,d1⟩:=t1.2.2.2.2.1 e1;have m1:D1=D:=by
  rcases a1 with ⟨_,h⟩ | ⟨X,_,_,_,_,h,_⟩
  ·exact h
  ·rw [k9_mid h0] at h;cases h
 have l1:L1.length=4:=by rcases b1 with ⟨h,_⟩ | ⟨_,h⟩;rw [h,h0.1];exact absurd h q6
 have s1:someC L1 ⟨1,1⟩:=(t1.2.1 _).2 (.inr ⟨rfl,q1⟩);have e2:r2=5:=by
  rcases t2.1 with ⟨_,h⟩ | ⟨h,_⟩ | ⟨_,_,h⟩
  ·exact absurd q1 h
  ·exact h
  ·exact absurd s1 h
 obtain ⟨x2,y2⟩:=t2.2.2.2.2.2 (by omega);have e3:r3=1:=by
  rcases t3.1 with ⟨h,_⟩ | ⟨_,h,_⟩ | ⟨_,h,_⟩
  ·exact h
  ·exact absurd h q5
  ·exact absurd h q5
 obtain ⟨x3,y3⟩:=t3.2.2.2.2.2 (by omega);subst m1 x2 y2 x3 y3;have n4:¬ someC L3 ⟨1,0⟩:=λh=>by
  rcases (t1.2.1 _).1 h with k | ⟨k,_⟩
  ·exact q4 k
  ·revert k;decide
 have e4:r4=0:=by
  rcases t4.1 with ⟨_,h⟩ | ⟨_,_,h⟩ | ⟨h,_⟩
  ·exact absurd q3 h
  ·exact absurd h n4
  ·exact h
 obtain ⟨a4,b4,d4⟩:=t4.2.2.2.2.1 e4;obtain ⟨k1,k2⟩:=k9_rim h0 a4;have ld:D3.length=4:=by rw [h0.2.length_eq];rfl
 refine ⟨e1,e2,e3,e4,?_,?_,k2⟩
 ·rcases b4 with ⟨_,h⟩ | ⟨h,_⟩
  ·exact absurd q7 h
  ·omega
 ·rw [d4,k1,ld];rfl
theorem awake9_of (cb:∀ W,Calls prog 11 #[.int .i64 2,.slice none 0 0,.slice none 0 0] W (Built9Post 2 [] 0 W)) (w:World):Calls prog 10 #[] w (Rt w (.bool true)):=by
 go_enter func10,ntmps10
 go_wp2_with fail;refine (cb _).mono ?_;rintro e w1 ⟨n0,m,b,sb,v,_,_,_,_,_,E0,E1,L,D,rfl,B,H,G,S,_,hI,hC,hL,hD,hS,hw,_,_,hn,_,hm1,hb1,hs1,ho1,_,hF⟩;have HQ0:=hdd (show Sq0 2 L D/\∀ q,someC L q↔PutPt 2 [] q from ⟨hS rfl rfl,hC⟩);have S1:GSt 2 w1 m b sb v E0 L D:=⟨B,H,S,⟨G,hI.fix,hI.kinds,hI.wal,hI.rim⟩,hF⟩;have HN:=hdd (show w.heap.size<=m/\w.heap.size<=b/\∀ k,Foot sb v k->w.heap.size<=k from ⟨by omega,by omega,λk h=>by rcases h with h | h;omega;have:=ho1 k h;omega⟩);have HL:=hdd (show L.length<=2/\D.length<=6000 from ⟨hL,hD⟩);clear cb B H G S hI hC hL hD hS hn hm1 hb1 hs1 ho1 hF;go_wp2_with fail;refine zG λW1 hW=>?_;obtain ⟨bp,hbp⟩:∃ b,w1.heap.size=b:=⟨_,rfl⟩;rw [hbp];have Bp:Box W1 bp [.int .i64 1,.int .i64 1] 26:=by rw [hW];exact (Box.new hbp.symm).old _
 have Bt:Box W1 (bp+1) [(),(),.int .i64 2,(),.int .i64 2,.int .i64 2] 28:=by rw [hW];exact Box.new (by simp [hbp])
 have pA:=S1.apt (k:=bp) (by omega);have tA:=S1.apt (k:=bp+1) (by omega);have hb:Below w1 w1 W1:=by rw [hW];go_grown
 replace S1:=S1.ee hb;replace hw:=upB hw hb;clear hW hb hbp;have cC:=xg ⟨⟨0,0⟩,⟨2,0⟩,⟨2,2⟩⟩ ⟨1,1⟩;rw [show (cutS ⟨1,1⟩ ⟨⟨0,0⟩,⟨2,0⟩,⟨2,2⟩⟩).length=2 by rw [Ya.1,(zd _).length_eq,Ya.2.1]] at cC;refine (cC _).mono ?_;rintro e w2 ⟨ac,cc,rfl,_,hb⟩;replace S1:=S1.ee hb;obtain ⟨Bp,Bt,hw,-⟩:=qX2 Bp Bt hw hb;clear hb cC;have FP1:=Bp.f;go_wp2_with fail;refine (gstep 2 (by omega) (by omega) S1 (by have:=HL.o;omega) (by have:=HL.o;omega) ⟨1,1⟩).mono ?_;rintro e w3 ⟨r1,Q1,L1,D1,v1,rfl,S2,T1,F,f⟩;clear FP1;have hz:=hw.size;replace hw:=hw.trans (F.below (λk h=>by rcases h with rfl | h;exact HN.o.2.1;exact HN.o.2.2 k h) hw.size);have hp0:=Bp.lt;have ht0:=Bt.lt;replace Bp:=pA.box Bp F;replace Bt:=tA.box Bt F;replace pA:=pA.step f hp0;replace tA:=tA.step f ht0;replace HN:=hdd (show w.heap.size<=m/\w.heap.size<=b/\∀ k,Foot sb v1 k->w.heap.size<=k from ⟨HN.o.1,HN.o.2.1,λk h=>by
  rcases h with h | h
  ·exact HN.o.2.2 k (.inl h)
  ·rcases f k h with h | h
   ·exact HN.o.2.2 k (.inr h)
   ·omega⟩)
 clear F f hp0 ht0 hz;have FP2:=Bp.f;go_wp2_with fail;refine (gstep 2 (by omega) (by omega) S2 (by have:=HL.o;have:=T1.2.2.1;omega) (by have:=HL.o;have:=T1.2.2.2.1;omega) ⟨1,1⟩).mono ?_;rintro e w4 ⟨r2,Q2,L2,D2,v2,rfl,S3,T2,F,f⟩;clear FP2;have hz:=hw.size;replace hw:=hw.trans (F.below (λk h=>by rcases h with rfl | h;exact HN.o.2.1;exact HN.o.2.2 k h) hw.size);have hp0:=Bp.lt;have ht0:=Bt.lt;replace Bp:=pA.box Bp F;replace Bt:=tA.box Bt F;replace pA:=pA.step f hp0;replace tA:=tA.step f ht0;replace HN:=hdd (show w.heap.size<=m/\w.heap.size<=b/\∀ k,Foot sb v2 k->w.heap.size<=k from ⟨HN.o.1,HN.o.2.1,λk h=>by
  rcases h with h | h
  ·exact HN.o.2.2 k (.inl h)
  ·rcases f k h with h | h
   ·exact HN.o.2.2 k (.inr h)
   ·omega⟩)
 clear F f hp0 ht0 hz;have FP3:=Bp.f;go_wp2_with fail;refine (gstep 2 (by omega) (by omega) S3 (by have:=HL.o;have:=T1.2.2.1;have:=T2.2.2.1;omega) (by have:=HL.o;have:=T1.2.2.2.1;have:=T2.2.2.2.1;omega) ⟨3,0⟩).mono ?_;rintro e w5 ⟨r3,Q3,L3,D3,v3,rfl,S4,T3,F,f⟩;clear FP3;have hz:=hw.size;replace hw:=hw.trans (F.below (λk h=>by rcases h with rfl | h;exact HN.o.2.1;exact HN.o.2.2 k h) hw.size);have hp0:=Bp.lt;have ht0:=Bt.lt;replace Bp:=pA.box Bp F;replace Bt:=tA.box Bt F;replace pA:=pA.step f hp0;replace tA:=tA.step f ht0;replace HN:=hdd (show w.heap.size<=m/\w.heap.size<=b/\∀ k,Foot sb v3 k->w.heap.size<=k from ⟨HN.o.1,HN.o.2.1,λk h=>by
  rcases h with h | h
  ·exact HN.o.2.2 k (.inl h)
  ·rcases f k h with h | h
   ·exact HN.o.2.2 k (.inr h)
   ·omega⟩)
 clear F f hp0 ht0 hz;have FP4:=Bp.f;go_wp2_with fail;refine (gstep 2 (by omega) (by omega) S4 (by have:=HL.o;have:=T1.2.2.1;have:=T2.2.2.1;have:=T3.2.2.1;omega) (by have:=HL.o;have:=T1.2.2.2.1;have:=T2.2.2.2.1;have:=T3.2.2.2.1;omega) ⟨1,0⟩).mono ?_;rintro e w6 ⟨r4,Q4,L4,D4,v4,rfl,S5,T4,F,f⟩;clear FP4;have hz:=hw.size;replace hw:=hw.trans (F.below (λk h=>by rcases h with rfl | h;exact HN.o.2.1;exact HN.o.2.2 k h) hw.size);have hp0:=Bp.lt;have ht0:=Bt.lt;replace Bp:=pA.box Bp F;replace Bt:=tA.box Bt F;replace pA:=pA.step f hp0;replace tA:=tA.step f ht0;replace HN:=hdd (show w.heap.size<=m/\w.heap.size<=b/\∀ k,Foot sb v4 k->w.heap.size<=k from ⟨HN.o.1,HN.o.2.1,λk h=>by
  rcases h with h | h
  ·exact HN.o.2.2 k (.inl h)
  ·rcases f k h with h | h
   ·exact HN.o.2.2 k (.inr h)
   ·omega⟩)
 clear F f hp0 ht0 hz;obtain ⟨x1,x2,x3,x4,x5,x6,x7⟩:=k9_all HQ0.o.1 HQ0.o.2 T1 T2 T3 T4;subst x1 x2 x3 x4;have cL:=λW B H=>mlen_any m b Q4 5 (hdd (k9_len x5 S5.inv.good)) (by omega) W B H;obtain ⟨aw,cw,hvw,R5⟩:=S5.set.rd;have cW:=λW R=>len_any sb aw cw D4.length D4 W R;rw [x6] at cW;have cK:=λW R=>xW sb aw cw D4.length D4 ⟨0,0⟩ ⟨1,0⟩ W R;rw [show lo2 ⟨0,0⟩ ⟨1,0⟩=⟨0,0⟩ by decide,show hi2 ⟨0,0⟩ ⟨1,0⟩=⟨1,0⟩ by decide,x7] at cK;rw [x6] at cK R5;clear hvw;have FP:=Bp.f;have FT:=Bt.f;go_wp2_with fail;refine (cL _ S5.box S5.map).mono ?_;rintro e w7 ⟨rfl,hb⟩;replace Bp:=Bp.ee hb;replace Bt:=Bt.ee hb;replace R5:=R5.ee hb;replace hw:=upB hw hb;clear hb FP FT;have FP:=Bp.f;have FT:=Bt.f;go_wp2_with fail;refine (cW _ R5).mono ?_;rintro e w8 ⟨rfl,hb⟩;replace Bp:=Bp.ee hb;replace Bt:=Bt.ee hb;replace R5:=R5.ee hb;replace hw:=upB hw hb;clear hb FP FT;have FP:=Bp.f;have FT:=Bt.f;go_wp2_with fail;refine (cK _ R5).mono ?_;rintro e w9 ⟨rfl,hb⟩;replace Bp:=Bp.ee hb;replace Bt:=Bt.ee hb;replace R5:=R5.ee hb;replace hw:=upB hw hb;clear hb FP FT;have FP:=Bp.f;have FT:=Bt.f;go_wp2_with fail;refine (gpoint_nil _ _ _ _).mono ?_;rintro e w10 ⟨rfl,hb⟩;replace Bp:=Bp.ee hb;replace Bt:=Bt.ee hb;replace R5:=R5.ee hb;replace hw:=upB hw hb;clear hb FP FT;have FP:=Bp.f;have FT:=Bt.f;go_wp2_with fail;have cE:=xg ⟨⟨0,0⟩,⟨2,0⟩,⟨2,2⟩⟩ ⟨0,0⟩;rw [show (cutS ⟨0,0⟩ ⟨⟨0,0⟩,⟨2,0⟩,⟨2,2⟩⟩).length=0 by unfold cutS;rw [(zd _).length_eq,Ya.2.2];rfl] at cE;refine (cE _).mono ?_;rintro e w11 ⟨ac2,cc2,rfl,_,hb⟩;replace hw:=upB hw hb;go_wp2
 go_ret
 exact ⟨rfl,hw⟩
theorem built9_nil (s:Int) (hs:0 < s) (hs2:s<=60) (w:World):Calls prog 11 #[s,.slice none 0 0,.slice none 0 0] w (Built9Post s [] 0 w):=by
 have cn:=rnewcdtX_any s s hs hs (by omega) (by omega)
 go_enter func11,ntmps11
 go_wp2_with fail;refine (cn _).mono ?_;rintro e w1 ⟨cb,mb,b,db,v,E,L,D,rfl,S,hI,hL,hC,hD,hw,hb1,hb2,hb3,hb4⟩;have hC':=hdd (show ∀ q,someC L q↔PutPt s [] q from λq=>by rw [hC q];simp [PutPt]);have hI':=hdd hI;have hL':=hdd (show L.length<=2+2 * 0 by omega);have hD':=hdd (show D.length<=4+2 * 0 by rw [hD.length_eq];simp);have hK':=hdd (show Sq0 s L D from ⟨hL,hD⟩);replace hb1:=hdd hb1;replace hb2:=hdd hb2;clear cn hI hL hC hD;go_wp2_with fail
 go_loopw [10] (λvi wr=>∃ (k:Nat) (v:Value) (E:Es) (L:List Tri3) (D:List Wl),vi=.int .i64 k/\k<=0/\CdtAt wr cb mb b db v s s E D/\Hi (CInvW s s E L D)/\Hi (∀ q,someC L q↔PutPt s [] q)/\Hi (L.length<=2+2 * k)/\Hi (D.length<=4+2 * k)/\Hi (Sq0 s L D)/\Below w w wr) (λvi _=>0 - (intOf vi).toNat)
 case atStart=>exact ⟨0,v,E,L,D,rfl,XZ _,S,hI',hC',hL',hD',hK',hw⟩
 case round=>
  clear S hI' hC' hL' hD' hK' hw;obtain ⟨k,v,E,L,D,rfl,hk,S,hI,hC,hL,hD,hK,hw⟩:=hrel;by_cases hlt:k < 0
  case neg=>
   obtain rfl:k=0:=by omega
   have hC2:=hdd (show ∀ q,someC L q↔PutPt s [] q from λq=>hC.o q);clear hC hlt hk;have hDQ:=hdd (show D.length<=64+186 * 0 by have:=hD.o;omega);have hKQ:=hK;clear hK;have hLQ:=hdd (show L.length<=2+2 * 0 from hL.o);clear hD hL;go_wp2
   go_loopw [11] (λvi wr=>∃ (k:Nat) (v:Value) (E:Es) (L:List Tri3) (D:List Wl),vi=.int .i64 k/\k<=0/\CdtAt wr cb mb b db v s s E D/\Hi (CInvW s s E L D)/\Hi (∀ q,someC L q↔PutPt s [] q)/\Hi (L.length<=2+2 * 0)/\Hi (D.length<=64+186 * k)/\Hi (Sq0 s L D)/\Below w w wr) (λvi _=>0 - (intOf vi).toNat)
   case atStart=>exact ⟨0,v,E,L,D,rfl,XZ _,S,hI,hC2,hLQ,hDQ,hKQ,hw⟩
   case round=>
    clear S hI hC2 hLQ hDQ hKQ hw;obtain ⟨k,v,E,L,D,rfl,hk,S,hI,hC2,hL,hD,hKQ,hw⟩:=hrel;by_cases hlt:k < 0
    case neg=>
     have hkn:¬ (k:Int) < (0:Int):=by omega
     clear hlt;have hG:=hI.o.good;have hLk:=hL.o;have hE:E.length<=1000000:=by rw [hG.len];omega
     have ht:=λW B H=>rtris_any mb b E hE W B H;have hp0:(srt cmpT (heads (λ_=>true) E)).Perm L:=(zd _).trans hG.heads;generalize srt cmpT (heads (λ_=>true) E)=I at *
     obtain ⟨m,hm⟩:∃ m,I.length=m:=⟨_,rfl⟩;rw [hm] at ht;have hm1:m<=1000000:=by rw [<-hm,hp0.length_eq];omega
     have hv:∀ T∈I,valT T=true:=λT h=>hG.val T (hp0.mem_iff.1 h);have hgo:=Good.puts (I:=I) (E:=[]) (M:=[]) ⟨by simp,by simp [KeysNodup],by simp⟩ hv (by
      rw [XM];exact ((hp0.flatMap_right ways).nodup_iff).2 hG.once)
     rw [XM,hm] at hgo;obtain ⟨hg1,hg2⟩:=hgo;have hG2:=hdd (show Good (putRun [] I).2 L from ⟨hg2.perm.trans (hp0.flatMap_right wys),hg2.nodup,hG.val⟩);have hn2:=λa cap W H=>mnew_1 a cap m I (hdd hm) hm1 (λT h=>yJ (hv T h)) hg1 W H;clear hg1 hg2 hv hp0 hm1 hE hG hLk hm;have Fs:=S.box.f;go_wp2_with fail;clear Fs;refine (ht _ S.mesh S.map).mono ?_;rintro e w5 ⟨a5,c5,rfl,hr5,hb⟩;replace S:=S.ee hb;have hw5:=(upB hw hb);clear hb ht hw;go_wp2_with fail;refine (hn2 _ _ _ hr5).mono ?_;rintro e w6 ⟨m2,b2,rfl,B2,H2,h1,h2,hb⟩;have S6:=S.ee hb;have hw6:=(upB hw5 hb);have hbl:=S.map.lt;have hdl:=S.doc.box.lt;have hcl:=S.box.lt;have hml:=S.mesh.lt;have hvl:=hdd (show ∀ g,v.ownBlock=some g->g < w5.heap.size from λg hg=>(S.doc.row.lt g hg).2);have hs6:=hb.size;clear hb hn2 hr5;obtain ⟨a9,c9,rfl,Dr,hz⟩:=S6.doc.rd;have hD9:D.length < 1000000:=by have:=hD.o;omega
     have cw:=λW R=>new_set (a:=a9) (c:=c9) hD9 Dr.flat (λe=>(hz e).1) hI.o.wal.ris hI.o.wal.apart hI.o.wal.good W R;have Fs:=S6.box.f;have Fd:=Dr.box.f;go_wp2_with fail;clear Fs Fd;refine (cw _ Dr.row).mono ?_;rintro e w7 ⟨sb,v7,rfl,A7,hs7,ho7,hb⟩;have hm7:=B2.lt;have hbs:=hb.size;have HF:=hdd (show ¬ Foot sb v7 m2 from λh=>by
      rcases h with h | h
      ·omega
      ·have:=ho7 _ h;omega)
     have HO:=hdd (show ∀ g,v7.ownBlock=some g->w5.heap.size<=g from λg hg=>by have:=ho7 g hg;omega);clear hbs ho7;have S7:=S6.ee hb;have hw7:=(upB hw6 hb);have B7:=B2.ee hb;have H7:=H2.ee hb;clear hb cw;go_wp2;refine bodyPost_ret (v:=.tuple #[pt0 m2,pt0 sb,pt0 cb]) (by simp [results,results11,go_sem]) rfl ?_;exact ⟨w5.heap.size,m2,b2,sb,v7,cb,mb,b,db,_,_,E,L,D,rfl,B7,H7,hG2.o,A7,S7,hI.o,hC2.o,hL.o,by have:=hD.o;omega,λ_ _=>hKQ.o,hw7,hb1.o,hb2.o,hw5.size,⟨hcl,hml,hbl,hdl,hvl.o⟩,h2,h1,by omega,HO.o,by omega,HF.o⟩
    case pos=>exact absurd hlt (JX _)
  case pos=>exact absurd hlt (JX _)
theorem qD (w:World):Calls prog 10 #[] w (Rt w (.bool true)):=
 awake9_of (λW=>built9_nil 2 (by omega) (by omega) W) w
theorem YI (k:Nat) (h3:k<=1000):wrap64 ((k:Int)+1)=((k+1:Nat):Int)/\IntKind.i64.wrap ((k:Int)+1)=((k+1:Nat):Int):=by
 rw [IntKind.wrap_i64,w64];omega
theorem gc_last (k:Nat) (h3:k<=1000):wrap64 (((k+1:Nat):Int) - 1)=(k:Int)/\IntKind.i64.wrap (((k+1:Nat):Int) - 1)=(k:Int):=by
 rw [IntKind.wrap_i64,w64];omega
theorem gc_sum {n z:Int} (h:0<=n/\n<=3 * 562949886312450) (h2:0<=z/\z<=562949886312450):wrap64 (n+z)=n+z/\IntKind.i64.wrap (n+z)=n+z:=by
 rw [IntKind.wrap_i64,w64];omega
theorem YH {p:Pt} {L:List Tri3} (hv:∀ U∈L,valT U=true/\isCb p U=true) {k:Nat} (hk:k < L.length):sumA (L.take (k+1))=sumA (L.take k)+twi L[k]:=by
 rw [Yv hk,yu,tj (hv _ (Yx hk)).1];show _+(_+0)=_;omega
theorem gc_bd {L:List Tri3}:∀ k,(∀ U∈L,valT U=true)->k<=L.length->0<=sumA (L.take k)/\sumA (L.take k)<=k * 562949886312450
 | 0,_,_=>by simp [sumA]
 | k+1,hv,hk=>by
  have h:=gc_bd k hv (by omega);have hm:=Yx (l:=L) (n:=k) (by omega);have h2:=YV L[k];rw [Yv (by omega),yu];rw [tj (hv _ hm)] at h2;have:sumA [L[k]]=det L[k].A L[k].B L[k].C:=by show _+0=_;omega
  omega
theorem gcl_0 (a b c p:Pt) (h0:(!decide (ori a b c=0))=false) (h1:hasP (mk a b c) p=false) (w:World):Calls prog 7 #[a,b,c,p] w (Rt w (.bool true)):=by
 have cm:=yB a b c;rw [h0] at cm;have cu:=xg (mk a b c) p;rw [vN (M:=mk a b c) (p:=p) (.inl h1)] at cu;clear h0 h1;generalize mk a b c=M at *
 go_enter func7,ntmps7
 go_wp2_with fail;refine qE4 λW1 Ba Bb Bc Bp hw=>?_;refine qK4 (cm _) Ba Bb Bc Bp hw λw2 Ba Bb Bc Bp hw=>?_;have Fa:=Ba.f;have Fb:=Bb.f;have Fc:=Bc.f;have Fp:=Bp.f;go_wp2_with fail;refine zG λW3 hW=>?_;obtain ⟨bkt,hbt⟩:∃ b,w2.heap.size=b:=⟨_,rfl⟩;rw [hbt];obtain ⟨lat,lbt,lct,lpt,ft,Bt,Ba,Bb,Bc,Bp,hw⟩:=qM4 hW hbt Ba Bb Bc Bp hw;clear hW hbt;refine (cu _).mono ?_;rintro e w4 ⟨aL,cL,rfl,HR,hb⟩;clear Fa Fb Fc Fp;obtain ⟨Ba,Bb,Bc,Bp,Bt,hw,-⟩:=qX5 Ba Bb Bc Bp Bt hw hb;clear hb;have FK:=J5 Ba.f Bb.f Bc.f Bp.f Bt.f;go_wp2_with fail;clear FK;refine qK5 (qD _) Ba Bb Bc Bp Bt hw λw5 Ba Bb Bc Bp Bt hw=>?_;go_wp2
 go_ret
 exact ⟨rfl,hw⟩
theorem gcl_1 (a b c p:Pt) (h0:(!decide (ori a b c=0))=true) (h1:hasP (mk a b c) p=false) (w:World):Calls prog 7 #[a,b,c,p] w (Rt w (.bool true)):=by
 have cm:=yB a b c;rw [h0] at cm;have cu:=xg (mk a b c) p;have ch:=qJ (mk a b c) p;rw [h1] at ch;rw [vN (M:=mk a b c) (p:=p) (.inl h1)] at cu;clear h0 h1;generalize mk a b c=M at *
 go_enter func7,ntmps7
 go_wp2_with fail;refine qE4 λW1 Ba Bb Bc Bp hw=>?_;refine qK4 (cm _) Ba Bb Bc Bp hw λw2 Ba Bb Bc Bp hw=>?_;have Fa:=Ba.f;have Fb:=Bb.f;have Fc:=Bc.f;have Fp:=Bp.f;go_wp2_with fail;refine zG λW3 hW=>?_;obtain ⟨bkt,hbt⟩:∃ b,w2.heap.size=b:=⟨_,rfl⟩;rw [hbt];obtain ⟨lat,lbt,lct,lpt,ft,Bt,Ba,Bb,Bc,Bp,hw⟩:=qM4 hW hbt Ba Bb Bc Bp hw;clear hW hbt;refine (cu _).mono ?_;rintro e w4 ⟨aL,cL,rfl,HR,hb⟩;clear Fa Fb Fc Fp;obtain ⟨Ba,Bb,Bc,Bp,Bt,hw,-⟩:=qX5 Ba Bb Bc Bp Bt hw hb;clear hb;have FK:=J5 Ba.f Bb.f Bc.f Bp.f Bt.f;go_wp2_with fail;clear FK;refine qC5 (ch _) Ba Bb Bc Bp Bt hw λw5 Ba Bb Bc Bp Bt hw FK=>?_;go_wp2_with fail;clear FK;refine qK5 (qD _) Ba Bb Bc Bp Bt hw λw6 Ba Bb Bc Bp Bt hw=>?_;go_wp2
 go_ret
 exact ⟨rfl,hw⟩
theorem gcl_c0 (a b c p:Pt) (h0:(!decide (ori a b c=0))=true) (h1:hasP (mk a b c) p=true) (h2:isCb p (mk a b c)=true) (k1:peqI p.x p.y a.x a.y=true) (w:World):Calls prog 7 #[a,b,c,p] w (Rt w (.bool true)):=by
 have cm:=yB a b c;rw [h0] at cm;have cu:=xg (mk a b c) p;have ch:=qJ (mk a b c) p;rw [h1] at ch;rw [vN (M:=mk a b c) (p:=p) (.inr h2)] at cu;clear h0 h1 h2;generalize mk a b c=M at *
 go_enter func7,ntmps7
 go_wp2_with fail;refine qE4 λW1 Ba Bb Bc Bp hw=>?_;refine qK4 (cm _) Ba Bb Bc Bp hw λw2 Ba Bb Bc Bp hw=>?_;have Fa:=Ba.f;have Fb:=Bb.f;have Fc:=Bc.f;have Fp:=Bp.f;go_wp2_with fail;refine zG λW3 hW=>?_;obtain ⟨bkt,hbt⟩:∃ b,w2.heap.size=b:=⟨_,rfl⟩;rw [hbt];obtain ⟨lat,lbt,lct,lpt,ft,Bt,Ba,Bb,Bc,Bp,hw⟩:=qM4 hW hbt Ba Bb Bc Bp hw;clear hW hbt;refine (cu _).mono ?_;rintro e w4 ⟨aL,cL,rfl,HR,hb⟩;clear Fa Fb Fc Fp;obtain ⟨Ba,Bb,Bc,Bp,Bt,hw,-⟩:=qX5 Ba Bb Bc Bp Bt hw hb;clear hb;have FK:=J5 Ba.f Bb.f Bc.f Bp.f Bt.f;go_wp2_with fail;clear FK;refine qC5 (ch _) Ba Bb Bc Bp Bt hw λw5 Ba Bb Bc Bp Bt hw FK=>?_;go_wp2_with fail;clear FK;refine qK5 (qD _) Ba Bb Bc Bp Bt hw λw6 Ba Bb Bc Bp Bt hw=>?_;go_wp2
 go_ret
 exact ⟨rfl,hw⟩
theorem gcl_c1 (a b c p:Pt) (h0:(!decide (ori a b c=0))=true) (h1:hasP (mk a b c) p=true) (h2:isCb p (mk a b c)=true) (k1:peqI p.x p.y a.x a.y=false) (k2:peqI p.x p.y b.x b.y=true) (w:World):Calls prog 7 #[a,b,c,p] w (Rt w (.bool true)):=by
 have cm:=yB a b c;rw [h0] at cm;have cu:=xg (mk a b c) p;have ch:=qJ (mk a b c) p;rw [h1] at ch;rw [vN (M:=mk a b c) (p:=p) (.inr h2)] at cu;clear h0 h1 h2;generalize mk a b c=M at *
 go_enter func7,ntmps7
 go_wp2_with fail;refine qE4 λW1 Ba Bb Bc Bp hw=>?_;refine qK4 (cm _) Ba Bb Bc Bp hw λw2 Ba Bb Bc Bp hw=>?_;have Fa:=Ba.f;have Fb:=Bb.f;have Fc:=Bc.f;have Fp:=Bp.f;go_wp2_with fail;refine zG λW3 hW=>?_;obtain ⟨bkt,hbt⟩:∃ b,w2.heap.size=b:=⟨_,rfl⟩;rw [hbt];obtain ⟨lat,lbt,lct,lpt,ft,Bt,Ba,Bb,Bc,Bp,hw⟩:=qM4 hW hbt Ba Bb Bc Bp hw;clear hW hbt;refine (cu _).mono ?_;rintro e w4 ⟨aL,cL,rfl,HR,hb⟩;clear Fa Fb Fc Fp;obtain ⟨Ba,Bb,Bc,Bp,Bt,hw,-⟩:=qX5 Ba Bb Bc Bp Bt hw hb;clear hb;have FK:=J5 Ba.f Bb.f Bc.f Bp.f Bt.f;go_wp2_with fail;clear FK;refine qC5 (ch _) Ba Bb Bc Bp Bt hw λw5 Ba Bb Bc Bp Bt hw FK=>?_;go_wp2_with fail;clear FK;refine qK5 (qD _) Ba Bb Bc Bp Bt hw λw6 Ba Bb Bc Bp Bt hw=>?_;go_wp2
 go_ret
 exact ⟨rfl,hw⟩
theorem gcl_c2 (a b c p:Pt) (h0:(!decide (ori a b c=0))=true) (h1:hasP (mk a b c) p=true) (h2:isCb p (mk a b c)=true) (k1:peqI p.x p.y a.x a.y=false) (k2:peqI p.x p.y b.x b.y=false) (k3:peqI p.x p.y c.x c.y=true) (w:World):Calls prog 7 #[a,b,c,p] w (Rt w (.bool true)):=by
 have cm:=yB a b c;rw [h0] at cm;have cu:=xg (mk a b c) p;have ch:=qJ (mk a b c) p;rw [h1] at ch;rw [vN (M:=mk a b c) (p:=p) (.inr h2)] at cu;clear h0 h1 h2;generalize mk a b c=M at *
 go_enter func7,ntmps7
 go_wp2_with fail;refine qE4 λW1 Ba Bb Bc Bp hw=>?_;refine qK4 (cm _) Ba Bb Bc Bp hw λw2 Ba Bb Bc Bp hw=>?_;have Fa:=Ba.f;have Fb:=Bb.f;have Fc:=Bc.f;have Fp:=Bp.f;go_wp2_with fail;refine zG λW3 hW=>?_;obtain ⟨bkt,hbt⟩:∃ b,w2.heap.size=b:=⟨_,rfl⟩;rw [hbt];obtain ⟨lat,lbt,lct,lpt,ft,Bt,Ba,Bb,Bc,Bp,hw⟩:=qM4 hW hbt Ba Bb Bc Bp hw;clear hW hbt;refine (cu _).mono ?_;rintro e w4 ⟨aL,cL,rfl,HR,hb⟩;clear Fa Fb Fc Fp;obtain ⟨Ba,Bb,Bc,Bp,Bt,hw,-⟩:=qX5 Ba Bb Bc Bp Bt hw hb;clear hb;have FK:=J5 Ba.f Bb.f Bc.f Bp.f Bt.f;go_wp2_with fail;clear FK;refine qC5 (ch _) Ba Bb Bc Bp Bt hw λw5 Ba Bb Bc Bp Bt hw FK=>?_;go_wp2_with fail;clear FK;refine qK5 (qD _) Ba Bb Bc Bp Bt hw λw6 Ba Bb Bc Bp Bt hw=>?_;go_wp2
 go_ret
 exact ⟨rfl,hw⟩
theorem ZL {U:Tri3} {p:Pt} (h:isCb p U=true):peqI U.A.x U.A.y p.x p.y=true\/(peqI U.A.x U.A.y p.x p.y=false/\peqI U.B.x U.B.y p.x p.y=true)\/(peqI U.A.x U.A.y p.x p.y=false/\peqI U.B.x U.B.y p.x p.y=false/\peqI U.C.x U.C.y p.x p.y=true):=by
 have h':=q9.1 h;unfold isCnr at h';have k:∀ q:Pt,p=q->peqI q.x q.y p.x p.y=true:=λq e=>by subst e;rw [ze];simp
 cases e1:peqI U.A.x U.A.y p.x p.y with
 | true=>exact .inl rfl
 | false=>
  cases e2:peqI U.B.x U.B.y p.x p.y with
  | true=>exact .inr (.inl ⟨rfl,rfl⟩)
  | false=>
   refine .inr (.inr ⟨rfl,rfl,?_⟩);rcases h' with e | e | e
   ·rw [k _ e] at e1;cases e1
   ·rw [k _ e] at e2;cases e2
   ·exact k _ e
theorem gcl_2 (a b c p:Pt) (h0:(!decide (ori a b c=0))=true) (h1:hasP (mk a b c) p=true) (h2:isCb p (mk a b c)=false) (k1:peqI p.x p.y a.x a.y=false) (k2:peqI p.x p.y b.x b.y=false) (k3:peqI p.x p.y c.x c.y=false) (w:World):Calls prog 7 #[a,b,c,p] w (Rt w (.bool true)):=by
 have cm:=yB a b c;rw [h0] at cm;have cu:=xg (mk a b c) p;have ch:=qJ (mk a b c) p;rw [h1] at ch;have hf:=gc_fin h1 h2;generalize mk a b c=M at *
 generalize cutS p M=L at *
 have HF:=hdd hf;have HN3:=hdd (show L.length<=3 by rw [hf.2.2.2];split <;> omega);obtain ⟨n,hn⟩:∃ n,L.length=n:=⟨_,rfl⟩;rw [hn] at cu HN3;have HL:=hdd hn;clear hf hn h0 h1 h2
 go_enter func7,ntmps7
 go_wp2_with fail;refine qE4 λW1 Ba Bb Bc Bp hw=>?_;refine qK4 (cm _) Ba Bb Bc Bp hw λw2 Ba Bb Bc Bp hw=>?_;have Fa:=Ba.f;have Fb:=Bb.f;have Fc:=Bc.f;have Fp:=Bp.f;go_wp2_with fail;refine zG λW3 hW=>?_;obtain ⟨bkt,hbt⟩:∃ b,w2.heap.size=b:=⟨_,rfl⟩;rw [hbt];obtain ⟨lat,lbt,lct,lpt,ft,Bt,Ba,Bb,Bc,Bp,hw⟩:=qM4 hW hbt Ba Bb Bc Bp hw;clear hW hbt;refine (cu _).mono ?_;rintro e w4 ⟨aL,cL,rfl,HR,hb⟩;clear Fa Fb Fc Fp;obtain ⟨Ba,Bb,Bc,Bp,Bt,hw,-⟩:=qX5 Ba Bb Bc Bp Bt hw hb;clear hb;have Fa:=Ba.f;have Fb:=Bb.f;have Fc:=Bc.f;have Fp:=Bp.f;have Ft:=Bt.f;go_wp2_with fail;refine (ch _).mono ?_;rintro e w5 ⟨rfl,hb⟩;clear Fa Fb Fc Fp Ft;obtain ⟨Ba,Bb,Bc,Bp,Bt,hw,-⟩:=qX5 Ba Bb Bc Bp Bt hw hb;replace HR:=HR.ee hb;clear hb;have Fa:=Ba.f;have Fb:=Bb.f;have Fc:=Bc.f;have Fp:=Bp.f;have Ft:=Bt.f;go_wp2_with fail;refine z7 λW9 hW=>?_;replace hw:Below w w W9:=by rw [hW];exact hw
 replace Ba:Box W9 w [a.x,a.y] 26:=by rw [hW];exact Ba
 replace Bb:Box W9 (w+1) [b.x,b.y] 26:=by rw [hW];exact Bb
 replace Bc:Box W9 (w+1+1) [c.x,c.y] 26:=by rw [hW];exact Bc
 replace Bp:Box W9 (w+1+1+1) [p.x,p.y] 26:=by rw [hW];exact Bp
 replace Bt:Box W9 (bkt) [M.A.x,M.A.y,M.B.x,M.B.y,M.C.x,M.C.y] 28:=by rw [hW];exact Bt
 replace HR:RowAt cT 6 W9 aL L:=by rw [hW];exact HR
 clear hW;clear Fa Fb Fc Fp Ft
 go_loopw [12,13] (λu i wr=>∃ k:Nat,k<=n/\u=.int .i64 (sumA (L.take k))/\i=.int .i64 k/\Below w w wr/\RowAt cT 6 wr aL L/\Box wr w [a.x,a.y] 26/\Box wr (w+1) [b.x,b.y] 26/\Box wr (w+1+1) [c.x,c.y] 26/\Box wr (w+1+1+1) [p.x,p.y] 26/\Box wr (bkt) [M.A.x,M.A.y,M.B.x,M.B.y,M.C.x,M.C.y] 28) (λ_ i _=>n - (intOf i).toNat)
 case atStart=>exact ⟨0,by omega,rfl,rfl,hw,HR,Ba,Bb,Bc,Bp,Bt⟩
 case round=>
  obtain ⟨k,k3,rfl,rfl,hw',HR',Ca,Cb,Cc,Cp,Ct⟩:=hrel;clear hw HR Ba Bb Bc Bp Bt;have hw:=hw';have HR:=HR';clear hw' HR';have Ba:=Ca;clear Ca;have Bb:=Cb;clear Cb;have Bc:=Cc;clear Cc;have Bp:=Cp;clear Cp;have Bt:=Ct;clear Ct;by_cases hk:k < n
  ·by_cases h0:k=0
   ·subst h0;have hg:decide ((0:Int) < ((0:Nat):Int))=false:=by decide
    have hlt:decide (((0:Nat):Int) < (n:Int))=true:=by simp;omega
    obtain ⟨wN,wN2⟩:=YI 0 (by omega);obtain ⟨ad,A1,ea,eA,R1⟩:=HR.six (j:=0) (by rw [HL.o];omega);subst ea;have hU:=ZL (HF.o.1 _ (Yx (l:=L) (n:=0) (by rw [HL.o];omega))).2;have eS:=YH HF.o.1 (k:=0) (by rw [HL.o];omega);have ct:=jG (L[0]'(by rw [HL.o];omega));obtain ⟨wS,wS2⟩:=gc_sum (n:=sumA (L.take 0)) (z:=twi (L[0]'(by rw [HL.o];omega))) (by have:=gc_bd (L:=L) 0 (λU hU=>(HF.o.1 U hU).1) (by rw [HL.o];omega);have:=HN3.o;omega) (YV _);generalize L[0]'(by rw [HL.o];omega)=U at *
    have ES:=hdd eS;clear eS;generalize sumA (L.take 0)=S at *
    generalize twi U=Z at *
    rcases hU with q1 | ⟨q1,q2⟩ | ⟨q1,q2,q3⟩
    ·focus
       have Fa:=Ba.f;have Fb:=Bb.f;have Fc:=Bc.f;have Fp:=Bp.f;have Ft:=Bt.f;obtain ⟨f0,f1,f2,f3,f4,f5,f6⟩:=R1.f;go_wp2_with fail;refine (ct _).mono ?_;rintro e w6 ⟨rfl,hb⟩;clear f0 f1 f2 f3 f4 f5 f6 ct;clear Fa Fb Fc Fp Ft;replace Ba:=Ba.ee hb;replace Bb:=Bb.ee hb;replace Bc:=Bc.ee hb;replace Bp:=Bp.ee hb;replace Bt:=Bt.ee hb;replace HR:=HR.ee hb;replace R1:=R1.ee hb;replace hw:=upB hw hb;clear hb;obtain ⟨s0,s1,s2,s3,s4,s5⟩:=R1.cells;go_wp2_with fail;have Gw:=J5 Ba.cells Bb.cells Bc.cells Bp.cells Bt.cells;refine wrt 41 (by kernel_rfl) (by kernel_rfl) ?_;simp only [tK1,tK0,dP1,dP0];repeat (first | (refine zI (Eq.refl false) ?_;simp only [Act.put,sT2,sT1,sT0]) | (refine rWalk_step (λK hK=>?_);go_simp;refine hK _ ?_;clear hK K))
       refine rWalk_nil ?_;intro w7 hb;clear Gw;obtain ⟨Ba,Bb,Bc,Bp,Bt,hw,-⟩:=qX5 Ba Bb Bc Bp Bt hw hb;replace HR:=HR.ee hb;clear hb s0 s1 s2 s3 s4 s5;go_wp2_with fail
       go_roundw
       case rel=>exact ⟨1,by omega,by rw [ES.o],by go_num,hw,HR,Ba,Bb,Bc,Bp,Bt⟩
       case measure=>simp [intOf];omega
    ·focus
       have Fa:=Ba.f;have Fb:=Bb.f;have Fc:=Bc.f;have Fp:=Bp.f;have Ft:=Bt.f;obtain ⟨f0,f1,f2,f3,f4,f5,f6⟩:=R1.f;go_wp2_with fail;refine (ct _).mono ?_;rintro e w6 ⟨rfl,hb⟩;clear f0 f1 f2 f3 f4 f5 f6 ct;clear Fa Fb Fc Fp Ft;replace Ba:=Ba.ee hb;replace Bb:=Bb.ee hb;replace Bc:=Bc.ee hb;replace Bp:=Bp.ee hb;replace Bt:=Bt.ee hb;replace HR:=HR.ee hb;replace R1:=R1.ee hb;replace hw:=upB hw hb;clear hb;obtain ⟨s0,s1,s2,s3,s4,s5⟩:=R1.cells;go_wp2_with fail;have Gw:=J5 Ba.cells Bb.cells Bc.cells Bp.cells Bt.cells;refine wrt 41 (by kernel_rfl) (by kernel_rfl) ?_;simp only [tK1,tK0,dP1,dP0];repeat (first | (refine zI (Eq.refl false) ?_;simp only [Act.put,sT2,sT1,sT0]) | (refine rWalk_step (λK hK=>?_);go_simp;refine hK _ ?_;clear hK K))
       refine rWalk_nil ?_;intro w7 hb;clear Gw;obtain ⟨Ba,Bb,Bc,Bp,Bt,hw,-⟩:=qX5 Ba Bb Bc Bp Bt hw hb;replace HR:=HR.ee hb;clear hb s0 s1 s2 s3 s4 s5;go_wp2_with fail
       go_roundw
       case rel=>exact ⟨1,by omega,by rw [ES.o],by go_num,hw,HR,Ba,Bb,Bc,Bp,Bt⟩
       case measure=>simp [intOf];omega
    ·focus
       have Fa:=Ba.f;have Fb:=Bb.f;have Fc:=Bc.f;have Fp:=Bp.f;have Ft:=Bt.f;obtain ⟨f0,f1,f2,f3,f4,f5,f6⟩:=R1.f;go_wp2_with fail;refine (ct _).mono ?_;rintro e w6 ⟨rfl,hb⟩;clear f0 f1 f2 f3 f4 f5 f6 ct;clear Fa Fb Fc Fp Ft;replace Ba:=Ba.ee hb;replace Bb:=Bb.ee hb;replace Bc:=Bc.ee hb;replace Bp:=Bp.ee hb;replace Bt:=Bt.ee hb;replace HR:=HR.ee hb;replace R1:=R1.ee hb;replace hw:=upB hw hb;clear hb;obtain ⟨s0,s1,s2,s3,s4,s5⟩:=R1.cells;go_wp2_with fail;have Gw:=J5 Ba.cells Bb.cells Bc.cells Bp.cells Bt.cells;refine wrt 41 (by kernel_rfl) (by kernel_rfl) ?_;simp only [tK1,tK0,dP1,dP0];repeat (first | (refine zI (Eq.refl false) ?_;simp only [Act.put,sT2,sT1,sT0]) | (refine rWalk_step (λK hK=>?_);go_simp;refine hK _ ?_;clear hK K))
       refine rWalk_nil ?_;intro w7 hb;clear Gw;obtain ⟨Ba,Bb,Bc,Bp,Bt,hw,-⟩:=qX5 Ba Bb Bc Bp Bt hw hb;replace HR:=HR.ee hb;clear hb s0 s1 s2 s3 s4 s5;go_wp2_with fail
       go_roundw
       case rel=>exact ⟨1,by omega,by rw [ES.o],by go_num,hw,HR,Ba,Bb,Bc,Bp,Bt⟩
       case measure=>simp [intOf];omega
   ·obtain ⟨i,hi⟩:∃ i,k=i+1:=⟨k - 1,by omega⟩;obtain ⟨wL,wL2⟩:=gc_last i (by have:=HN3.o;omega);rw [<-hi] at wL wL2;have hg:decide ((0:Int) < (k:Int))=true:=by simp;omega
    have hg2:decide (0 < k)=true:=by simp;omega
    have hlt:decide ((k:Int) < (n:Int))=true:=by simp;omega
    have p0:(i:Int) < (n:Int):=by omega
    have p1:(k:Int) < (n:Int):=by omega
    obtain ⟨wN,wN2⟩:=YI k (by have:=HN3.o;omega);obtain ⟨ad0,A0,ea0,eA0,R0⟩:=HR.six (j:=i) (by rw [HL.o];omega);subst ea0;obtain ⟨ad,A1,ea,eA,R1⟩:=HR.six (j:=k) (by rw [HL.o];omega);obtain rfl:=XF ea;clear ea;have cc:=ub (L[i]'(by rw [HL.o];omega)) (L[k]'(by rw [HL.o];omega));have ho:decide (0<=cmpT (L[i]'(by rw [HL.o];omega)) (L[k]'(by rw [HL.o];omega)))=false:=by have:=Xk.1 HF.o.2.1 i k (by rw [HL.o];omega) (by rw [HL.o];omega) (by omega);simp;omega
    generalize cmpT (L[i]'(by rw [HL.o];omega)) (L[k]'(by rw [HL.o];omega))=o at *
    generalize L[i]'(by rw [HL.o];omega)=V at *
    clear hi;have hU:=ZL (HF.o.1 _ (Yx (l:=L) (n:=k) (by rw [HL.o];omega))).2;have eS:=YH HF.o.1 (k:=k) (by rw [HL.o];omega);have ct:=jG (L[k]'(by rw [HL.o];omega));obtain ⟨wS,wS2⟩:=gc_sum (n:=sumA (L.take k)) (z:=twi (L[k]'(by rw [HL.o];omega))) (by have:=gc_bd (L:=L) k (λU hU=>(HF.o.1 U hU).1) (by rw [HL.o];omega);have:=HN3.o;omega) (YV _);generalize L[k]'(by rw [HL.o];omega)=U at *
    have ES:=hdd eS;clear eS;generalize sumA (L.take k)=S at *
    generalize twi U=Z at *
    rcases hU with q1 | ⟨q1,q2⟩ | ⟨q1,q2,q3⟩
    ·focus
       have Fa:=Ba.f;have Fb:=Bb.f;have Fc:=Bc.f;have Fp:=Bp.f;have Ft:=Bt.f;obtain ⟨f0,f1,f2,f3,f4,f5,f6⟩:=R1.f;go_wp2_with fail;refine (ct _).mono ?_;rintro e w6 ⟨rfl,hb⟩;clear f0 f1 f2 f3 f4 f5 f6 ct;clear Fa Fb Fc Fp Ft;replace Ba:=Ba.ee hb;replace Bb:=Bb.ee hb;replace Bc:=Bc.ee hb;replace Bp:=Bp.ee hb;replace Bt:=Bt.ee hb;replace HR:=HR.ee hb;replace R1:=R1.ee hb;replace R0:=R0.ee hb;replace hw:=upB hw hb;clear hb;obtain ⟨s0,s1,s2,s3,s4,s5⟩:=R1.cells;obtain ⟨r0,r1,r2,r3,r4,r5⟩:=R0.cells;go_wp2_with fail;have Gw:=J5 Ba.cells Bb.cells Bc.cells Bp.cells Bt.cells;refine wrt 41 (by kernel_rfl) (by kernel_rfl) ?_;simp only [tK1,tK0,dP1,dP0];refine wkx ?_;intro w7 hb;clear Gw;obtain ⟨Ba,Bb,Bc,Bp,Bt,hw,-⟩:=qX5 Ba Bb Bc Bp Bt hw hb;replace HR:=HR.ee hb;clear hb s0 s1 s2 s3 s4 s5 r0 r1 r2 r3 r4 r5;go_wp2_with fail
       go_roundw
       case rel=>exact ⟨k+1,by omega,by rw [ES.o],by go_num,hw,HR,Ba,Bb,Bc,Bp,Bt⟩
       case measure=>simp [intOf];omega
    ·focus
       have Fa:=Ba.f;have Fb:=Bb.f;have Fc:=Bc.f;have Fp:=Bp.f;have Ft:=Bt.f;obtain ⟨f0,f1,f2,f3,f4,f5,f6⟩:=R1.f;go_wp2_with fail;refine (ct _).mono ?_;rintro e w6 ⟨rfl,hb⟩;clear f0 f1 f2 f3 f4 f5 f6 ct;clear Fa Fb Fc Fp Ft;replace Ba:=Ba.ee hb;replace Bb:=Bb.ee hb;replace Bc:=Bc.ee hb;replace Bp:=Bp.ee hb;replace Bt:=Bt.ee hb;replace HR:=HR.ee hb;replace R1:=R1.ee hb;replace R0:=R0.ee hb;replace hw:=upB hw hb;clear hb;obtain ⟨s0,s1,s2,s3,s4,s5⟩:=R1.cells;obtain ⟨r0,r1,r2,r3,r4,r5⟩:=R0.cells;go_wp2_with fail;have Gw:=J5 Ba.cells Bb.cells Bc.cells Bp.cells Bt.cells;refine wrt 41 (by kernel_rfl) (by kernel_rfl) ?_;simp only [tK1,tK0,dP1,dP0];refine wkx ?_;intro w7 hb;clear Gw;obtain ⟨Ba,Bb,Bc,Bp,Bt,hw,-⟩:=qX5 Ba Bb Bc Bp Bt hw hb;replace HR:=HR.ee hb;clear hb s0 s1 s2 s3 s4 s5 r0 r1 r2 r3 r4 r5;go_wp2_with fail
       go_roundw
       case rel=>exact ⟨k+1,by omega,by rw [ES.o],by go_num,hw,HR,Ba,Bb,Bc,Bp,Bt⟩
       case measure=>simp [intOf];omega
    ·focus
       have Fa:=Ba.f;have Fb:=Bb.f;have Fc:=Bc.f;have Fp:=Bp.f;have Ft:=Bt.f;obtain ⟨f0,f1,f2,f3,f4,f5,f6⟩:=R1.f;go_wp2_with fail;refine (ct _).mono ?_;rintro e w6 ⟨rfl,hb⟩;clear f0 f1 f2 f3 f4 f5 f6 ct;clear Fa Fb Fc Fp Ft;replace Ba:=Ba.ee hb;replace Bb:=Bb.ee hb;replace Bc:=Bc.ee hb;replace Bp:=Bp.ee hb;replace Bt:=Bt.ee hb;replace HR:=HR.ee hb;replace R1:=R1.ee hb;replace R0:=R0.ee hb;replace hw:=upB hw hb;clear hb;obtain ⟨s0,s1,s2,s3,s4,s5⟩:=R1.cells;obtain ⟨r0,r1,r2,r3,r4,r5⟩:=R0.cells;go_wp2_with fail;have Gw:=J5 Ba.cells Bb.cells Bc.cells Bp.cells Bt.cells;refine wrt 41 (by kernel_rfl) (by kernel_rfl) ?_;simp only [tK1,tK0,dP1,dP0];refine wkx ?_;intro w7 hb;clear Gw;obtain ⟨Ba,Bb,Bc,Bp,Bt,hw,-⟩:=qX5 Ba Bb Bc Bp Bt hw hb;replace HR:=HR.ee hb;clear hb s0 s1 s2 s3 s4 s5 r0 r1 r2 r3 r4 r5;go_wp2_with fail
       go_roundw
       case rel=>exact ⟨k+1,by omega,by rw [ES.o],by go_num,hw,HR,Ba,Bb,Bc,Bp,Bt⟩
       case measure=>simp [intOf];omega
  ·obtain rfl:n=k:=by omega
   have hlt:decide ((n:Int) < (n:Int))=false:=by simp
   cases hI:insP M p
   ·have hI2:(2:Int)=n:=by have:=HF.o.2.2.2;rw [hI,HL.o] at this;simp at this;omega
    have ci:=tq M p;rw [hI] at ci;have cw:=jG M;have hs:(sumA (L.take n) == twi M)=true:=by rw [X5 (by rw [HL.o];omega),HF.o.2.2.1];simp
    have hn:((n:Int) == 2)=true:=by rw [<-hI2];rfl
    generalize sumA (L.take n)=S at *
    generalize twi M=Z at *
    clear hI hI2
    focus
     have FK:=J5 Ba.f Bb.f Bc.f Bp.f Bt.f;go_wp2_with fail;clear FK;refine qC5 (ci _) Ba Bb Bc Bp Bt hw λw6 Ba Bb Bc Bp Bt hw FK=>?_;go_wp2_with fail;clear FK;refine qC5 (cw _) Ba Bb Bc Bp Bt hw λw7 Ba Bb Bc Bp Bt hw FK=>?_;go_wp2_with fail;clear FK;refine qK5 (qD _) Ba Bb Bc Bp Bt hw λw8 Ba Bb Bc Bp Bt hw=>?_;go_wp2
     go_ret
     exact ⟨rfl,hw⟩
   ·have hI2:(3:Int)=n:=by have:=HF.o.2.2.2;rw [hI,HL.o] at this;simp at this;omega
    have ci:=tq M p;rw [hI] at ci;have cw:=jG M;have hs:(sumA (L.take n) == twi M)=true:=by rw [X5 (by rw [HL.o];omega),HF.o.2.2.1];simp
    have hn:((n:Int) == 3)=true:=by rw [<-hI2];rfl
    generalize sumA (L.take n)=S at *
    generalize twi M=Z at *
    clear hI hI2
    focus
     have FK:=J5 Ba.f Bb.f Bc.f Bp.f Bt.f;go_wp2_with fail;clear FK;refine qC5 (ci _) Ba Bb Bc Bp Bt hw λw6 Ba Bb Bc Bp Bt hw FK=>?_;go_wp2_with fail;clear FK;refine qC5 (cw _) Ba Bb Bc Bp Bt hw λw7 Ba Bb Bc Bp Bt hw FK=>?_;go_wp2_with fail;clear FK;refine qK5 (qD _) Ba Bb Bc Bp Bt hw λw8 Ba Bb Bc Bp Bt hw=>?_;go_wp2
     go_ret
     exact ⟨rfl,hw⟩
theorem gcl_law (a b c p:Pt) (w:World):Calls prog 7 #[a,b,c,p] w (Rt w (.bool true)):=by
 cases h0:(!decide (ori a b c=0)) with
 | false=>
  have h0':ori a b c=0:=by simpa using h0
  exact gcl_0 a b c p h0 (by unfold mk;rw [Yn h0'];unfold hasP valT;rfl) w
 | true=>
  have h0':¬ ori a b c=0:=by simpa using h0
  cases h1:hasP (mk a b c) p with
  | false=>exact gcl_1 a b c p h0 h1 w
  | true=>
   have hc:=gc_cnr (p:=p) h0';have d:=λq=>ze p q;cases k1:peqI p.x p.y a.x a.y with
   | true=>exact gcl_c0 a b c p h0 h1 (by rw [hc,<-d,k1];rfl) k1 w
   | false=>cases k2:peqI p.x p.y b.x b.y with
    | true=>exact gcl_c1 a b c p h0 h1 (by rw [hc,<-d,<-d,k1,k2];rfl) k1 k2 w
    | false=>cases k3:peqI p.x p.y c.x c.y with
     | true=>exact gcl_c2 a b c p h0 h1 (by rw [hc,<-d,<-d,<-d,k1,k2,k3];rfl) k1 k2 k3 w
     | false=>exact gcl_2 a b c p h0 h1 (by rw [hc,<-d,<-d,<-d,k1,k2,k3];rfl) k1 k2 k3 w
end
end Go.Proofs.YtmpfadapbbjbkaaGreat
