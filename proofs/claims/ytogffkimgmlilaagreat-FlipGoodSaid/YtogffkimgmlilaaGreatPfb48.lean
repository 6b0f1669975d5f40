/- Put together: FgA. -/
import Derived.Test.YtogffkimgmlilaaGreatPfb42
import Derived.Test.YtogffkimgmlilaaGreatPfb47
set_option maxRecDepth 100000
set_option maxHeartbeats 8000000
set_option linter.all false
namespace Go.Proofs.YtogffkimgmlilaaGreat
open Go.RowKit Go.Sort _root_.Go.Proofs.Tryz
section
attribute [local go_sem] rOper rAt rUpon cell_set sg_i64 sg_u64 alloc_cell alloc_frozen
attribute [local go_sem 10000] pt_eql pt_neq tri_eql
attribute [local irreducible] rWalk
theorem fg_no (s:Int) (a0 a1:Option Addr) (n m c0 c1:Nat) (hf:s < 1∨40 < s∨25 < n∨40 < m) (w:World):Calls prog 5 #[s,.slice a0 n c0,.slice a1 m c1] w (Rt w (.bool true)):=by
 have cf:=fun W=>few8_any s a0 none n 0 c0 0 W;have em:decide ((40:Int) < (m:Int))=decide (40 < m):=by simp;omega
 have hq:=hdd (show (decide (1≤s) && (decide (s≤40) && (decide (n≤25) && decide (0≤12))))=false∨40 < m by
  rcases hf with h | h | h | h
  ·left;simp;omega
  ·left;simp;omega
  ·left;simp;omega
  ·right;exact h)
 clear hf;generalize (decide (1≤s) && (decide (s≤40) && (decide (n≤25) && decide (0≤12))))=f at *
 cases f with
 | false=>
  go_enter func5,ntmps5
  go_wp2_with fail;refine (cf _).mono ?_;rintro e w1 ⟨rfl,hb⟩;go_wp2_with fail;refine (awake8_any _).mono ?_;rintro e w2 ⟨rfl,hb2⟩;have hw:=(upB hb hb2);go_wp2
  go_ret
  exact ⟨rfl,hw⟩
 | true=>
  have hm:decide ((40:Int) < (m:Int))=true:=by
   rw [em];rcases hq.out with h | h
   ·cases h
   ·exact jCo h
  clear em
  go_enter func5,ntmps5
  go_wp2_with fail;refine (cf _).mono ?_;rintro e w1 ⟨rfl,hb⟩;go_wp2_with fail;refine (awake8_any _).mono ?_;rintro e w2 ⟨rfl,hb2⟩;have hw:=(upB hb hb2);go_wp2
  go_ret
  exact ⟨rfl,hw⟩
theorem zOd {k n:Nat} (h:k < n) (hn:n≤1000):n - (intOf (.int .i64 (wrap64 ((k:Int)+1)))).toNat < n - (intOf (.int .i64 (k:Int))).toNat:=by rw [show wrap64 ((k:Int)+1)=(k:Int)+1 by rw [w64];omega];simp [intOf];omega
theorem fg_n {k n:Nat} (h:k < n) (hn:n≤1000):Value.int .i64 (wrap64 ((k:Int)+1))=.int .i64 ((k+1:Nat):Int):=by rw [show wrap64 ((k:Int)+1)=(k:Int)+1 by rw [w64];omega];rfl
theorem no_in {s:Int} (hs2:s < 16777216) {L:List Tri3} {D:List Wl} (hg:∀ x∈D,x.K=2) (hr:∀ x∈D,x.K=2→onRim s s x.A x.B) (f:Fixed s s (wll D) L) {T:Tri3} (hT:T∈L) {p:Pt} (hp:someC L p):circ T.A T.B T.C p≠1:=by
 have nb:NoBad L:=by
  intro S hS R hR a b c d cS cR;refine f.2 S hS R hR a b c d cS cR fun hk=>?_;refine f.tiles.inner hS hR cS cR ?_;unfold wll kindD at hk;cases hf:D.find? (isE a b) with
  | none=>rw [hf] at hk;exact absurd rfl hk
  | some x=>
   have hx:=jC6 hf;have he:=jE6 hf;have ho:=hr x hx (hg x hx);unfold isE at he;simp only [jD6,jA3,jA4] at he;rcases he with ⟨rfl,rfl⟩ | ⟨rfl,rfl⟩
   ·exact ho
   ·exact zG8 ho
 obtain ⟨S,hS,hc⟩:=hp;exact f.tiles.empty hs2 hs2 nb hS hT hc
theorem fg_yes (s:Int) (hs:0 < s) (hs2:s≤40) (a0:Option Addr) (n c0:Nat) (hn:n≤25) (P:List Int) (hP:Hid (P.length=n)) (a1:Option Addr) (m c1:Nat) (hm:m≤40) (X:List Int) (hX:Hid (X.length=m)) (w:World) (h0:RowAt cI 1 w a0 P) (h1:RowAt cI 1 w a1 X):Calls prog 5 #[s,.slice a0 n c0,.slice a1 m c1] w (Rt w (.bool true)):=by
 have cf:=fun W=>few8_any s a0 none n 0 c0 0 W;rw [show (decide (1≤s) && (decide (s≤40) && (decide (n≤25) && decide (0≤12))))=true by simp;omega] at cf;have em:((40:Int) < (m:Int))=False:=by simp;omega
 have HS:=hdd (show 0 < s∧s≤40 from ⟨hs,hs2⟩);have HN:=hdd hn;have HMM:=hdd hm;clear hs hs2 hn hm
 go_enter func5,ntmps5
 go_wp2_with fail;refine (cf _).mono ?_;rintro e w1 ⟨rfl,hw⟩;clear cf;go_wp2_with fail;refine (built8n_any s HS.out.1 (by have:=HS.out.2;omega) a0 none n 0 c0 0 P hP (by have:=HN.out;omega) (hdd rfl) w1 (h0.ee hw)).mono ?_;rintro e w2 hpost;unfold Built8nPost at hpost;obtain ⟨m2,b2,sb,aS,cS,cb,mb,b,db,v,E2,E,L,D,rfl,_,_,_,SR,SC,hI,_,hL,hD,hK,hw2,_,_,hbb,_⟩:=hpost;have HI:=hdd hI;have HL:=hdd (show L.length≤52 by have:=HN.out;have:=hP.out;omega);have HK:=hdd (show ∀ x∈D,x.K=2 from hK);have HBB:=hdd (show w.heap.size≤b from jAp hw.size hbb.1);have hw3:=(upB hw hw2);clear hI hL hK hbb hw2 em;have co:=rodd_any cb mb b db v s s HS.out.1 HS.out.1 (by have:=HS.out.2;omega) (by have:=HS.out.2;omega) E L D HI.out.good HI.out.fix.tiles (by have:=HL.out;omega) a1 m c1 X hX HMM.out w2 SC (h1.ee hw3);go_wp2_with fail;refine co.mono ?_;rintro e w3 ⟨E3,L3,a3,c3,rfl,hg3,H3,R3,hr3⟩;have SR3:=SR.turn SC.map hg3;have hw4:=hw3.grown hg3 hw3.size (fun q hq=>by cases hq;exact HBB.out);have HR3:=hdd R3;obtain ⟨p3,ok3,put3,G3⟩:=tris_new R3.good;generalize srt cmpT (heads (fun _=>true) E3)=I at *
 have HP3:=hdd p3;have HG3:=hdd G3;have hlen:I.length≤52:=by rw [p3.length_eq,R3.kept.len];exact HL.out
 obtain ⟨mi,hmi⟩:∃ z,I.length=z:=⟨_,rfl⟩;rw [hmi] at put3 hlen ⊢;have cn:=fun W H=>mnew_1 a3 c3 mi I (hdd hmi) (by omega) ok3 put3 W H;have HMI:=hdd (show I.length≤94 by omega);clear co SC SR hg3 R3 p3 G3 H3 hw3 hmi ok3 put3 hlen;generalize (putRun [] I).2=E4 at *
 go_wp2_with fail;refine (cn _ hr3).mono ?_;rintro e w4 ⟨m4,b4,rfl,B4,H4,hb4,_,hb⟩;have SR4:=SR3.ee hb;have hw5:=(upB hw4 hb);have HB4:=hdd (show w.heap.size≤b4 from jAp hw4.size hb4);clear cn hr3 SR3 hb hb4;have cr:=fRepair_any m4 b4 E4 I sb aS cS D.length D s s (by have:=HS.out.2;omega) (by have:=HS.out.2;omega) HMI.out HG3.out (HR3.out.tiles.perm HP3.out.symm) w4 B4 H4 SR4;go_wp2_with fail;refine cr.mono ?_;rintro e w5 ⟨rfl,E5,L5,hg5,H5,R5,F5⟩;have B5:=B4.turn H4 hg5;have hw6:=hw5.grown hg5 hw5.size (fun q hq=>by cases hq;exact HB4.out);have HR5:=hdd R5;have HF5:=hdd F5;have hE5:E5.length≤1000000:=by rw [R5.good.len,R5.kept.len];have:=HMI.out;omega
 have ct:=fun W B H=>mtris_any m4 b4 E5 hE5 W B H;have cp:=fun W B H=>mpoints_any m4 b4 E5 hE5 W B H;have HJ:=hdd (show ∀ T∈srt cmpT (heads (fun _=>true) E5),T∈L5 from fun T hT=>(tris_new R5.good).1.mem_iff.1 hT);have hJl:(srt cmpT (heads (fun _=>true) E5)).length≤94:=by rw [(tris_new R5.good).1.length_eq,R5.kept.len];exact HMI.out
 have HPL:=hdd (show (froms E5).length≤282 from by unfold froms;rw [jCl,R5.good.len,R5.kept.len];have:=HMI.out;omega);clear cr SR4 R5 F5 hg5 H4 B4 hw4 hw5 hE5;generalize srt cmpT (heads (fun _=>true) E5)=J at *
 obtain ⟨mj,hmj⟩:∃ z,J.length=z:=⟨_,rfl⟩;rw [hmj] at ct hJl;have HMJ:=hdd hmj;have HMJ1:=hdd hJl;clear hmj hJl;go_wp2_with fail;refine (ct _ B5 H5).mono ?_;rintro e w6 ⟨a6,c6,rfl,hr6,hb⟩;replace B5:=B5.ee hb;replace H5:=H5.ee hb;replace hw6:=upB hw6 hb;clear hb ct;go_wp2_with fail;refine (cp _ B5 H5).mono ?_;rintro e w7 ⟨M,a7,c7,rfl,hr7,hris,hmem,hb⟩;replace hr6:=hr6.ee hb;replace hw6:=upB hw6 hb;have HC:=hdd (show ∀ T∈J,∀ p∈M,circ T.A T.B T.C p≠1 from fun T hT p hp=>no_in (by have:=HS.out.2;omega) HK.out HI.out.rim HF5.out (HJ.out T hT) (cnrs_mem.1 ((HR5.out.good.froms (jF4 _) p).1 ((hmem p).1 hp))));obtain ⟨mm,hmm⟩:∃ z,M.length=z:=⟨_,rfl⟩;have HML:=hdd (show mm≤282 by
  rw [←hmm];refine jAp (nodup_sub ?_ (fun p hp=>(hmem p).1 hp)) HPL.out;exact hris.imp fun {x y} h e=>by rw [e,cmpP_eq0.2 rfl] at h;omega)
 rw [hmm];have HMM2:=hdd hmm;clear hb cp B5 H5 hris hmem hmm;go_wp2_with fail
 go_loopw [14,15] (fun vi _ wr=>∃ i:Nat,vi=.int .i64 i∧i≤mj∧Below w7 w7 wr) (fun vi _ _=>mj - (intOf vi).toNat)
 case atStart=>exact ⟨0,rfl,jAt _,Below.refl _ _⟩
 case round=>
  obtain ⟨i,rfl,hi,hwr⟩:=hrel;by_cases hlt:i < mj
  case neg=>
   have hin:¬ (i:Int) < (mj:Int):=by omega
   clear hlt;have hw9:=(upB hw6 hwr);go_wp2_with fail;refine (awake8_any _).mono ?_;rintro e w9 ⟨rfl,hb⟩;have hwz:=(upB hw9 hb);go_wp2
   go_ret
   exact ⟨rfl,hwz⟩
  case pos=>
   have HLT:=hdd hlt;have hq0:(i:Int) < (mj:Int):=by omega
   have hiJ:i < J.length:=by rw [HMJ.out];exact hlt
   obtain ⟨ad,A,ea,eA,hA⟩:=(hr6.ee hwr).six (j:=i) hiJ;have HCT:=hdd (HC.out _ (jAx hiJ));have HA:=hdd (fun W (h:Below w7 w7 W)=>(hr6.ee h).six (j:=i) hiJ);generalize J[i]=T at *
   clear hA;go_wp2_with fail
   go_loopw [15] (fun vk wk=>∃ k:Nat,vk=.int .i64 k∧k≤mm∧Below w7 w7 wk) (fun vk _=>mm - (intOf vk).toNat)
   case atStart=>exact ⟨0,rfl,jAt _,hwr⟩
   case round=>
    clear hwr;obtain ⟨k,rfl,hk,hwk⟩:=hrel;by_cases hlk:k < mm
    case neg=>
     have hkn:¬ (k:Int) < (mm:Int):=by omega
     clear hlk;go_wp2
     go_roundw
     case rel=>exact ⟨i+1,fg_n HLT.out (by have:=HMJ1.out;omega),HLT.out,hwk⟩
     case measure=>exact zOd HLT.out (by have:=HMJ1.out;omega)
    case pos=>
     have HLK:=hdd hlk;have hq1:(k:Int) < (mm:Int):=by omega
     have hkM:k < M.length:=by rw [HMM2.out];exact hlk
     obtain ⟨ad2,A2,ea2,eA2,hA2⟩:=(hr7.ee hwk).two (j:=k) hkM;have HCP:=hdd (HCT.out _ (jAx hkM));generalize M[k]=p at *
     obtain ⟨ad3,A3,ea3,eA3,hA3⟩:=HA.out _ hwk;obtain rfl:ad3=ad:=by rw [ea] at ea3;exact (jAl ea3).symm
     obtain rfl:A3=A:=by rw [←eA3,←eA]
     have cc:=fun W=>zCk T.A T.B T.C p W;have hcf:(circ T.A T.B T.C p == 1)=false:=by simpa using HCP.out
     generalize circ T.A T.B T.C p=z at *
     obtain ⟨u0,u1,u2,u3,u4,u5⟩:=hA3.cells;obtain ⟨v0,v1⟩:=hA2.cells;subst ea ea2;go_wp2_with fail;refine wrt 20 (by kernel_rfl) (by kernel_rfl) ?_;simp only [tK1,tK0,dP1,dP0];refine wkx ?_;intro w9 hb;have hwz:=(upB hwk hb);clear hb u0 u1 u2 u3 u4 u5 v0 v1 hA2 hA3 cc;go_wp2
     go_roundw
     case rel=>exact ⟨k+1,fg_n HLK.out (by have:=HML.out;omega),HLK.out,hwz⟩
     case measure=>exact zOd HLK.out (by have:=HML.out;omega)
end
end Go.Proofs.YtogffkimgmlilaaGreat
