/- Put together: WalO, WalP, WalQ, WalR, WalS. -/
import Derived.Test.YtogffkimgmlilaaGreatPfb21
set_option maxRecDepth 100000
set_option maxHeartbeats 8000000
set_option linter.all false
namespace Go.Proofs.YtogffkimgmlilaaGreat
open _root_.Go.Proofs.Tryz
section
open Go.RowKit Go.Sort Go.Lib
attribute [local go_sem] rOper rAt rUpon cell_set sg_i64 sg_u64 alloc_cell alloc_frozen
attribute [local go_sem 10000] pt_eql pt_neq wal_eql wal_neq
attribute [local irreducible] rWalk
def adjB (x y:Wl):Bool:=decide (x.A=y.A) && decide (x.B=y.B)
theorem adjB_eq (x y:Wl):adjB x y=(peqI x.A.x x.A.y y.A.x y.A.y && peqI x.B.x x.B.y y.B.x y.B.y):=by rw [zAz,zAz];rfl
theorem twice_any (a:Option Addr) (c:Nat) (L:List Wl) (hL:L.length≤1000000) (b:Bool) (hb:b=true↔∃ (i:Nat) (h:i+1 < L.length),adjB L[i] L[i+1]=true) (w:World) (h:RowAt cW 5 w a L):Calls prog 68 #[.slice a L.length c] w (Rt w (.bool b)):=by
 obtain ⟨n,hn1⟩:∃ n,L.length=n:=⟨_,rfl⟩;have hn:n≤1000000:=hn1▸hL;have H1:=hdd hn1;have HB:=hdd hb;rw [hn1];clear hL hb hn1
 go_enter func68,ntmps68
 go_wp2
 go_loopw [3] (fun vi wr=>∃ k:Nat,vi=.int .i64 ((k:Int)+1)∧(k=0∨k+1≤n)∧Hid (∀ (i:Nat) (hi:i+1 < L.length),i < k→adjB L[i] L[i+1]=false)∧Below w w wr) (fun vi _=>n - (intOf vi).toNat)
 case atStart=>exact ⟨0,by first | rfl | simp,.inl rfl,hdd (fun i _ h=>absurd h (Nat.not_lt_zero _)),Below.refl _ _⟩
 case round=>
  obtain ⟨k,rfl,hk,HF,hwr⟩:=hrel;by_cases hlt:k+1 < n
  ·have hk0:k < L.length:=by rw [H1.out];omega
   have hk1:k+1 < L.length:=by rw [H1.out];exact hlt
   obtain ⟨ad1,A1,ea1,eA1,hA1⟩:=(h.ee hwr).five (j:=k) hk0;obtain ⟨ad2,A2,ea2,eA2,hA2⟩:=(h.ee hwr).five (j:=k+1) hk1;have HY:Hid (adjB L[k] L[k+1]=(peqI L[k].A.x L[k].A.y L[k+1].A.x L[k+1].A.y && peqI L[k].B.x L[k].B.y L[k+1].B.x L[k+1].B.y)):=hdd (adjB_eq _ _);have HYes:adjB L[k] L[k+1]=true→b=true:=fun e=>HB.out.2 ⟨k,hk1,e⟩;have HNo:adjB L[k] L[k+1]=false→∀ (i:Nat) (hi:i+1 < L.length),i < k+1→adjB L[i] L[i+1]=false:=fun e i hi hik=>by
    by_cases ek:i=k
    ·subst ek;exact e
    ·exact HF.out i hi (by omega)
   have HYH:=hdd HYes;have HNH:=hdd HNo;clear HYes HNo;generalize adjB L[k] L[k+1]=z at *
   generalize L[k]=X at *
   generalize L[k+1]=Y at *
   subst ea1;simp only [jCh] at ea2;subst ea2;obtain ⟨s0,s1,s2,s3,s4⟩:=hA1.cells;obtain ⟨r0,r1,r2,r3,r4⟩:=hA2.cells;have q1:IntKind.i64.wrap ((k:Int)+1 - 1)=k:=by rw [IntKind.wrap_i64];omega
   have q1b:IntKind.i64.wrap (k:Int)=k:=by rw [IntKind.wrap_i64];omega
   have q2:(k:Int) < (n:Int):=by omega
   have q3:(k:Int)+1 < (n:Int):=by omega
   have q4:((k:Int)+1).toNat=k+1:=by omega
   have q5:k < n:=by omega
   have q6:(0:Int)≤(k:Int)+1:=by omega
   cases e1:peqI X.A.x X.A.y Y.A.x Y.A.y with
   | false=>
    have HZ:Hid (z=false):=hdd (by rw [HY.out,e1];rfl);clear HY hA1 hA2;go_wp2_with fail;refine (wp_region_tail 25 (by kernel_rfl) (by kernel_rfl) (C:=fun w'=>∃ p:Regrown,w'=grow (redrawn wr p.d) p.os) rgB ?_);simp only [tK1,tK0,dP1,dP0];repeat (first | (refine zA7 (Eq.refl false) ?_;simp only [Act.put,sT2,sT1,sT0]) | (refine rWalk_step (fun K hK=>?_);go_simp;refine hK _ ?_;clear hK K))
    refine rWalk_nil ?_;intro w2 hb2;have hw2:=(upB hwr hb2);go_wp2
    go_roundw
    case rel=>exact ⟨k+1,by go_num,.inr (by omega),hdd (HNH.out HZ.out),hw2⟩
    case measure=>simp [intOf];omega
   | true=>
    cases e2:peqI X.B.x X.B.y Y.B.x Y.B.y with
    | false=>
     have HZ:Hid (z=false):=hdd (by rw [HY.out,e1,e2];rfl);clear HY hA1 hA2;go_wp2_with fail;refine (wp_region_tail 25 (by kernel_rfl) (by kernel_rfl) (C:=fun w'=>∃ p:Regrown,w'=grow (redrawn wr p.d) p.os) rgB ?_);simp only [tK1,tK0,dP1,dP0];repeat (first | (refine zA7 (Eq.refl false) ?_;simp only [Act.put,sT2,sT1,sT0]) | (refine rWalk_step (fun K hK=>?_);go_simp;refine hK _ ?_;clear hK K))
     refine rWalk_nil ?_;intro w2 hb2;have hw2:=(upB hwr hb2);go_wp2
     go_roundw
     case rel=>exact ⟨k+1,by go_num,.inr (by omega),hdd (HNH.out HZ.out),hw2⟩
     case measure=>simp [intOf];omega
    | true=>
     have HZ:Hid (z=true):=hdd (by rw [HY.out,e1,e2];rfl);clear HY hA1 hA2;go_wp2_with fail;refine (wp_region_tail 25 (by kernel_rfl) (by kernel_rfl) (C:=fun w'=>∃ p:Regrown,w'=grow (redrawn wr p.d) p.os) rgB ?_);simp only [tK1,tK0,dP1,dP0];repeat (first | (refine zA7 (Eq.refl false) ?_;simp only [Act.put,sT2,sT1,sT0]) | (refine rWalk_step (fun K hK=>?_);go_simp;refine hK _ ?_;clear hK K))
     refine rWalk_nil ?_;intro w2 hb2;have hw2:=(upB hwr hb2);have HT:=hdd (HYH.out HZ.out);go_wp2
     go_ret
     exact ⟨by rw [HT.out];rfl,hw2⟩
  ·have HT : Hid (b = false) := hdd (by
     cases hb:b with
     | false=>rfl
     | true=>
      obtain ⟨i,hi,e⟩:=HB.out.1 hb;have:=HF.out i hi (by rw [H1.out] at hi;omega);rw [e] at this;cases this)
   have q3:¬ ((k:Int)+1 < (n:Int)):=by omega
   go_wp2
   go_ret
   exact ⟨by rw [HT.out];rfl,hwr⟩
def PredFrm (g:Nat) (lb:Array Value) (p:Wl→Bool) (w:World) (b:Nat):Prop:=
 ∀ (W:World) (x:Wl),Frm w W (· = b)→Calls prog g (#[.agg (cW x).toArray] ++ lb) W fun e w'=>e=.returned (.bool (p x))∧Below W W w'
theorem PredFrm.below {g:Nat} {lb:Array Value} {p:Wl→Bool} {w:World} {b:Nat} (h:PredFrm g lb p w b):PredBelow prog g lb (fun x=>.agg (cW x).toArray) p w:=fun W x hb=>
 (h W x (Frm.of_below hb)).mono fun _ _ ⟨he,hx⟩=>⟨he,(upB hb hx)⟩
theorem zO9 (p:Wl→Bool) (g:Nat) (lb:Array Value) (eg:∀ args w,(callFunc g args).run prog w=.ok (.enter g args) w) (a:Option Addr) (c:Nat) (L:List Wl) (hL:L.length≤1000000) (w:World) (h:RowAt cW 5 w a L) (hf:Flat a) (hp:PredBelow prog g lb (fun x=>.agg (cW x).toArray) p w) (h0:0 < L.length):Calls prog 96 #[.slice a L.length c,.func (.func g) #[] lb] w (Rt w (.int .i64 (Lib.idxBy (fun _ y=>p y) L default))):=by
 rcases zI2 hf with rfl | ⟨b,off,rfl⟩
 ·obtain ⟨ad,h1,_⟩:=h 0 L[0] (jA8 h0);cases h1
 ·have hb:b < w.heap.size:=by obtain ⟨ad,h1,h2,_⟩:=h 0 L[0] (jA8 h0);cases h1;exact h2
  have hc:=AnyQ.slices_IndexFunc idxWl 5 Tryz.isAgg60 Tryz.sizeOf60 cW zCs p g lb eg b off L.length c L w hp (jA9 _) (by omega) hb (fun j hj i v hv=>by
   rw [getElem!_pos L j hj] at hv;obtain ⟨ad,h1,_,h3⟩:=h j L[j] (jA8 hj);cases h1
   have:=h3 i v hv
   simpa only [Addr.add_lit] using this)
  change Calls prog 96 _ _ _ at hc
  rwa [jAe (jA9 _)] at hc
theorem zL3 (tl:List Value):∀ (S:List Wl) (j:Nat) (p:Wl),j < S.length→(((((S.flatMap cW ++ tl).set (j * 5) (.int .i64 p.A.x)).set (j * 5+1) (.int .i64 p.A.y)).set (j * 5+2) (.int .i64 p.B.x)).set (j * 5+3) (.int .i64 p.B.y)).set (j * 5+4) (.int .i64 p.K)=(S.set j p).flatMap cW ++ tl
 | q :: S,0,p,_=>by simp [cW]
 | q :: S,j+1,p,h=>by
  have ih:=zL3 tl S j p (by simpa using h);simp only [jA5,cW,jB9,jBd,jDq] at ih ⊢;rw [show (j+1) * 5=j * 5+1+1+1+1+1 by omega];simp only [jDq];rw [←ih]
theorem box_putW {w:World} {g:Nat} {S:List Wl} {tl:List Value} (h:Box w g (S.flatMap cW ++ tl) 60) {j:Nat} (hj:j < S.length) (p:Wl):Box (((((w.setCell ⟨g,j * 5,none⟩ (.int .i64 p.A.x)).setCell ⟨g,j * 5+1,none⟩ (.int .i64 p.A.y)).setCell ⟨g,j * 5+2,none⟩ (.int .i64 p.B.x)).setCell ⟨g,j * 5+3,none⟩ (.int .i64 p.B.y)).setCell ⟨g,j * 5+4,none⟩ (.int .i64 p.K)) g ((S.set j p).flatMap cW ++ tl) 60:=by
 rw [←zL3 tl S j p hj];exact ((((h.set _ _).set _ _).set _ _).set _ _).set _ _
theorem zJz {w:World} {g:Nat} {S:List Wl} {tl:List Value} (h:Box w g (S.flatMap cW ++ tl) 60) {j:Nat} (hj:j < S.length):w.cell? ⟨g,j * 5,none⟩=some (.int .i64 S[j].A.x)∧w.cell? ⟨g,j * 5+1,none⟩=some (.int .i64 S[j].A.y)∧w.cell? ⟨g,j * 5+2,none⟩=some (.int .i64 S[j].B.x)∧w.cell? ⟨g,j * 5+3,none⟩=some (.int .i64 S[j].B.y)∧w.cell? ⟨g,j * 5+4,none⟩=some (.int .i64 S[j].K)∧w.frozen? ⟨g,j * 5,none⟩=false∧w.frozen? ⟨g,j * 5+1,none⟩=false∧w.frozen? ⟨g,j * 5+2,none⟩=false∧w.frozen? ⟨g,j * 5+3,none⟩=false∧w.frozen? ⟨g,j * 5+4,none⟩=false∧(w.cell? ⟨g,j * 5,none⟩).isSome=true∧(w.cell? ⟨g,j * 5+1,none⟩).isSome=true∧(w.cell? ⟨g,j * 5+2,none⟩).isSome=true∧(w.cell? ⟨g,j * 5+3,none⟩).isSome=true∧(w.cell? ⟨g,j * 5+4,none⟩).isSome=true:=by
 have hf:=h.f;have e:∀ i,i < 5→w.cell? ⟨g,j * 5+i,none⟩=(cW S[j])[i]? := fun i hi=>by
  rw [hf.1,jCu (by rw [zAf zCs];omega)];exact zB6 zCs S j i S[j] (jA8 hj) hi
 have e0:=e 0 (by omega);have e1:=e 1 (by omega);have e2:=e 2 (by omega);have e3:=e 3 (by omega);have e4:=e 4 (by omega);refine ⟨e0,e1,e2,e3,e4,hf.2.1 _,hf.2.1 _,hf.2.1 _,hf.2.1 _,hf.2.1 _,by rw [show j * 5=j * 5+0 from rfl,e0];rfl,by rw [e1];rfl,by rw [e2];rfl,by rw [e3];rfl,by rw [e4];rfl⟩
theorem zMy (p:Wl→Bool):∀ L:List Wl,(∀ x∈L,p x=false)∨∃ (k:Nat) (hk:k < L.length),p L[k]=true∧∀ (j:Nat) (hj:j < k),p (L[j]'(by omega))=false
 | []=>.inl (by simp)
 | x :: L=>by
  cases hx:p x with
  | true=>exact .inr ⟨0,by simp,hx,fun j hj=>absurd hj (Nat.not_lt_zero _)⟩
  | false=>
   rcases zMy p L with h | ⟨k,hk,h1,h2⟩
   ·exact .inl (by intro y hy;exact (jA1.1 hy).elim (fun e=>e▸hx) (h y))
   ·refine .inr ⟨k+1,by simpa using hk,h1,fun j hj=>?_⟩;cases j with
    | zero=>exact hx
    | succ j=>exact h2 j (by omega)
theorem idx_miss (p:Wl→Bool) (L:List Wl) (h:∀ x∈L,p x=false):Lib.idxBy (fun _ y=>p y) L default = -1:=by
 have:=Lib.idxBy_miss (fun _ y=>p y) L L.length default (fun j hj=>by rw [getElem!_pos L j hj];exact h _ (jAx hj))
 rwa [jAe (jA9 _)] at this
theorem idx_hit (p:Wl→Bool) (L:List Wl) (k:Nat) (hk:k < L.length) (h1:p L[k]=true) (h2:∀ (j:Nat) (hj:j < k),p (L[j]'(by omega))=false):Lib.idxBy (fun _ y=>p y) L default=k:=by
 have:=Lib.idxBy_hit (fun _ y=>p y) L L.length k default hk (jA9 _) (by rw [getElem!_pos L k hk];exact h1) (fun j hj=>by rw [getElem!_pos L j (by omega)];exact h2 j hj)
 rwa [jAe (jA9 _)] at this
theorem df_none (p:Wl→Bool) (f:Nat) (lb:Array Value) (eg:∀ args w,(callFunc f args).run prog w=.ok (.enter f args) w) (a:Option Addr) (c:Nat) (L:List Wl) (hL:L.length≤1000000) (hf:Flat a) (hno:∀ x∈L,p x=false) (w:World) (h:RowAt cW 5 w a L) (hp:PredBelow prog f lb (fun x=>.agg (cW x).toArray) p w):Calls prog 97 #[.slice a L.length c,.func (.func f) #[] lb] w (Rt w (.slice a L.length c)):=by
 have c1:Calls prog 96 #[.slice a L.length c,.func (.func f) #[] lb] w (Rt w (.int .i64 (-1))):=by
  rcases jE3 L.length with h0 | h0
  ·rw [h0];exact zN5 a c _ w
  ·have:=zO9 p f lb eg a c L hL w h hf hp h0
   rwa [idx_miss p L hno] at this
 generalize L.length=n at *
 clear hp h hno
 go_enter func97,ntmps97
 go_wp2_with fail;refine c1.mono ?_;rintro e w1 ⟨rfl,hb⟩;go_wp2
 go_ret
 exact ⟨rfl,hb⟩
theorem df_some (p:Wl→Bool) (f:Nat) (lb:Array Value) (eg:∀ args w,(callFunc f args).run prog w=.ok (.enter f args) w) (g n c:Nat) (L:List Wl) (tl:List Value) (hn:L.length=n) (hL:n≤1000000) (hc:n≤c) (hc2:c≤maxLen) (k0:Nat) (hk0:k0 < n) (h1:p (L[k0]'(by omega))=true) (h2:∀ (j:Nat) (hj:j < k0),p (L[j]'(by omega))=false) (w:World) (hg:Box w g (L.flatMap cW ++ tl) 60) (hr:RowAt cW 5 w (some ⟨g,0,none⟩) L) (hp:PredFrm f lb p w g):Calls prog 97 #[.slice (some ⟨g,0,none⟩) n c,.func (.func f) #[] lb] w fun e w'=>∃ m,m≤n∧e=.returned (.slice (some ⟨g,0,none⟩) m c)∧m=(L.filter fun x => !p x).length∧Box w' g ((L.filter fun x => !p x).flatMap cW ++ (zN (n - m) ++ tl)) 60∧Frm w w' (· = g):=by
 have c1:Calls prog 96 #[.slice (some ⟨g,0,none⟩) n c,.func (.func f) #[] lb] w (Rt w (.int .i64 (k0:Int))):=by
  have:=zO9 p f lb eg (some ⟨g,0,none⟩) c L (by omega) w hr (fun ad e=>by cases e;rfl) hp.below (by omega)
  rwa [idx_hit p L k0 (by omega) h1 h2,hn] at this
 have hmx:c≤9223372036854775807:=by unfold maxLen at hc2;omega
 have hst:(L.take (k0+1)).filter (fun x => !p x)=L.take k0:=by
  rw [jAb (by omega),jC9,jB7 (by rw [h1];simp),jCw.2]
  ·simp
  ·intro x hx;obtain ⟨j,hj,rfl⟩:=jDr.1 hx;rw [h2 j (by omega)];rfl
 have HST:=hdd hst;have HN:=hdd hn;have HP:=hdd hp;have e0:¬ ((k0:Int) = -1):=by omega
 clear hst hn hr h1 h2 hp
 go_enter func97,ntmps97
 go_wp2_with fail;refine c1.mono ?_;rintro e w1 ⟨rfl,hb⟩;have hg1:=hg.ee hb;have hf1:Frm w w1 (· = g):=Frm.of_below hb;clear hb c1 hg;go_wp2_with fail
 go_loopw [5,6,7] (fun vi vj _ wr=>∃ (i j:Nat) (S:List Wl),vi=.int .i64 i∧vj=.int .i64 j∧i < j∧j≤n∧Hid (S.length=n∧S.take i=(L.take j).filter (fun x => !p x)∧S.drop j=L.drop j)∧Box wr g (S.flatMap cW ++ tl) 60∧Frm w wr (· = g)) (fun _ vj _ _=>n - (intOf vj).toNat)
 case atStart=>exact ⟨k0,k0+1,L,rfl,by go_num,by omega,hk0,hdd ⟨HN.out,HST.out.symm,rfl⟩,hg1,hf1⟩
 case round=>
  clear hg1 hf1;obtain ⟨i,j,S,rfl,rfl,hij,hj,HS,hg,hfr⟩:=hrel;by_cases hlt:j < n
  ·obtain ⟨hSl,hSt,hSd⟩:=HS.out;have hjS:j < S.length:=by omega
   have hiS:i < S.length:=by omega
   have hjL:j < L.length:=by rw [HN.out];exact hlt
   have hSX:S[j]=L[j]:=by
    have e1:S[j]? = L[j]? := by
     have:=congrArg (fun l=>l[0]?) hSd
     simpa using this
    rw [jA8 hjS,jA8 hjL] at e1;exact jAl e1
   obtain ⟨X,hX⟩:∃ X,S[j]=X:=⟨_,rfl⟩;have hLT:L.take (j+1)=L.take j ++ [X]:=by rw [jAb hjL,←hSX,hX]
   obtain ⟨u0,u1,u2,u3,u4,_⟩:=zJz hg hjS;rw [hX] at u0 u1 u2 u3 u4;have hdr:S.drop (j+1)=L.drop (j+1):=by
    have:=congrArg (List.drop 1) hSd
    simpa [jF6] using this
   have HA:p X=true→Hid (S.length=n∧S.take i=(L.take (j+1)).filter (fun x => !p x)∧S.drop (j+1)=L.drop (j+1)):=fun hp=>hdd ⟨hSl,by rw [hLT,jC9,←hSt,jB7 (by rw [hp];simp)];simp,hdr⟩;have HB:p X=false→Hid ((S.set i X).length=n∧(S.set i X).take (i+1)=(L.take (j+1)).filter (fun x => !p x)∧(S.set i X).drop (j+1)=L.drop (j+1)):=fun hp=>hdd ⟨by simpa using hSl,by
    rw [hLT,jC9,←hSt,jB2 (by rw [hp];rfl),jAb (by simpa using hiS),jEu (jA9 i),List.getElem_set_self];rfl,by rw [List.drop_set_of_lt (by omega)];exact hdr⟩
   have HG:=hdd hg;have HFr:=hdd hfr;have HIS:=hdd hiS;have hput:=fun (W:World) (hB:Box W g (S.flatMap cW ++ tl) 60)=>box_putW hB HIS.out X;have hin:i < n:=by omega
   have HPu:=hdd hput;have HS0:=hdd hfr.size;clear hSl hSt hSd hdr hLT hX hSX hjS hiS hjL HS hg hfr hput;have hcall0:=fun (W:World) (hW:Frm w W (· = g))=>HP.out W X hW;cases hq:p X with
   | true=>
    have hcall:∀ W,Frm w W (· = g)→Calls prog f (#[.agg (cW X).toArray] ++ lb) W fun e w'=>e=.returned (.bool true)∧Below W W w':=fun W hW=>by have:=hcall0 W hW;rwa [hq] at this
    have HAA:=HA hq;clear HA HB hcall0 hq;go_wp2_with (go_at_fn f;refine (hcall _ (HFr.out.trans (Frm.of_below (by go_grown)))).mono ?_;rintro e w2 ⟨rfl,hb2⟩;have BG:=(HG.out.old _).ee hb2;have BV:Box w2 wr [X.A.x,X.A.y,X.B.x,X.B.y,X.K] 60:=(Box.new rfl).ee hb2;have FR:=HFr.out.trans (Frm.of_below ((by go_grown:Below wr wr (wr.alloc (.cells #[X.A.x,X.A.y,X.B.x,X.B.y,X.K] 60))).trans (hb2.mono (by simp))));clear hb2;obtain ⟨v0,v1,v2,v3⟩:=BV.f;obtain ⟨_,_,_,_,_,f0,f1,f2,f3,f4,i0,i1,i2,i3,i4⟩:=zJz BG HIS.out)
    go_roundw
    case rel=>
     refine ⟨_,_,_,_,_,_,_,_,_,_,_,_,_,_,_,_,_,_,_,_,_,_,_,?_,rfl⟩;exact ⟨i,j+1,S,rfl,by go_num,by omega,hlt,HAA,BG,FR⟩
    case measure=>simp [intOf];omega
   | false=>
    have hcall:∀ W,Frm w W (· = g)→Calls prog f (#[.agg (cW X).toArray] ++ lb) W fun e w'=>e=.returned (.bool false)∧Below W W w':=fun W hW=>by have:=hcall0 W hW;rwa [hq] at this
    have HBB:=HB hq;clear HA HB hcall0 hq;go_wp2_with (go_at_fn f;refine (hcall _ (HFr.out.trans (Frm.of_below (by go_grown)))).mono ?_;rintro e w2 ⟨rfl,hb2⟩;have BG:=(HG.out.old _).ee hb2;have BV:Box w2 wr [X.A.x,X.A.y,X.B.x,X.B.y,X.K] 60:=(Box.new rfl).ee hb2;have FR:=HFr.out.trans (Frm.of_below ((by go_grown:Below wr wr (wr.alloc (.cells #[X.A.x,X.A.y,X.B.x,X.B.y,X.K] 60))).trans (hb2.mono (by simp))));clear hb2;obtain ⟨v0,v1,v2,v3⟩:=BV.f;obtain ⟨_,_,_,_,_,f0,f1,f2,f3,f4,i0,i1,i2,i3,i4⟩:=zJz BG HIS.out)
    go_roundw
    case rel=>
     refine ⟨_,_,_,_,_,_,_,_,_,_,_,_,_,_,_,_,_,_,_,_,_,_,_,?_,rfl⟩;exact ⟨i+1,j+1,S.set i X,by go_num,by go_num,by omega,hlt,HBB,HPu.out _ BG,((((FR.setCell _ rfl _).setCell _ rfl _).setCell _ rfl _).setCell _ rfl _).setCell _ rfl _⟩
    case measure=>simp [intOf];omega
  ·obtain rfl:j=n:=by omega
   obtain ⟨hSl,hSt,hSd⟩:=HS.out;have hti:((S.take i).flatMap cW).length=i * 5:=by rw [zAf zCs,jB3];omega
   have hLt:L.take j=L:=jAe (by rw [HN.out];omega);rw [hLt] at hSt;have hmi:i=(L.filter (fun x => !p x)).length:=by rw [←hSt,jB3];omega
   have hSf:S.take i=L.filter (fun x => !p x):=hSt;have hcl:=fun (ty:TypeId) (cs:Nat)=>clear_run ty g (i * 5) (j - i) cs _ (by omega) hg (by rw [jAa,zAf zCs];omega);have e2:(S.flatMap cW ++ tl).take (i * 5) ++ zN (j - i) ++ (S.flatMap cW ++ tl).drop (i * 5+(j - i) * 5)=(L.filter (fun x => !p x)).flatMap cW ++ (zN (j - i) ++ tl):=by
    have eS:S.flatMap cW ++ tl=(S.take i).flatMap cW ++ ((S.drop i).flatMap cW ++ tl):=by rw [←jAr,←jBe,jBu]
    have eD:((S.drop i).flatMap cW).length=(j - i) * 5:=by rw [zAf zCs,jBm,hSl]
    rw [eS,←hSf,←hti,List.take_left,List.drop_length_add_append,←eD,List.drop_left,jAr]
   rw [e2] at hcl;obtain ⟨R,hR⟩:∃ R:Array Value,R=((L.filter (fun x => !p x)).flatMap cW ++ (zN (j - i) ++ tl)).toArray:=⟨_,rfl⟩;have hB2:Box (wr.setRow g R) g ((L.filter (fun x => !p x)).flatMap cW ++ (zN (j - i) ++ tl)) 60:=by rw [hR];exact hg.setRow
   have hF2:Frm w (wr.setRow g R) (· = g):=⟨hfr.os,hfr.tape,hfr.output,by simpa [World.setRow] using hfr.size,fun k hk hn=>by rw [setRow_other _ _ _ _ hn];exact hfr.block k hk hn⟩;rw [←hR] at hcl;have HE:=hdd (And.intro hmi (And.intro hB2 hF2));clear hR e2 hSf hti hSl hSt hSd HS hg hfr hB2 hF2 hmi;have hci:¬ (c=i):=by omega
   have hin:i≤j:=by omega
   have hic:(i:Int)≤(c:Int):=by omega
   have hin2:(i:Int)≤(j:Int):=by omega
   have hjj:¬ ((j:Int) < (j:Int)):=by omega
   go_wp2
   go_ret
   exact ⟨i,hin,rfl,HE.out⟩
theorem df_any (p:Wl→Bool) (f:Nat) (lb:Array Value) (eg:∀ args w,(callFunc f args).run prog w=.ok (.enter f args) w) (B:Nat) (v:Value) (L:List Wl) (hL:L.length≤1000000) (w:World) (h:WRow w B v L) (hp0:PredBelow prog f lb (fun x=>.agg (cW x).toArray) p w) (hp:∀ g,v.ownBlock=some g→PredFrm f lb p w g):Calls prog 97 #[v,.func (.func f) #[] lb] w fun e w'=>∃ v',e=.returned v'∧WRow w' B v' (L.filter fun x => !p x)∧v'.ownBlock=v.ownBlock∧Frm w w' (fun k=>v.ownBlock=some k):=by
 rcases zMy p L with hno | ⟨k,hk,h1,h2⟩
 ·obtain ⟨a,c,hv,hr,hf⟩:=h.row;have hfl:L.filter (fun x => !p x)=L:=jCw.2 fun x hx=>by rw [hno x hx];rfl
  rw [hfl];have:=df_none p f lb eg a c L hL hf hno w hr hp0;rw [←hv] at this;refine this.mono ?_;rintro e w' ⟨rfl,hb⟩;exact ⟨v,rfl,h.ee hb,rfl,Frm.of_below hb⟩
 ·rcases h.box with ⟨_,e⟩ | ⟨g,c,tl,hv,hB,hg,hc,hc2,htl⟩
  ·subst e;simp at hk
  ·obtain ⟨a,c',hv2,hr,_⟩:=h.row;rw [hv] at hv2;simp only [Value.slice.injEq,true_and] at hv2;obtain ⟨rfl,rfl⟩:=hv2;subst hv;refine (df_some p f lb eg g L.length c L tl rfl hL hc hc2 k hk h1 h2 w hg hr (hp g rfl)).mono ?_;rintro e w' ⟨m,hm,rfl,hmL,hb,hfr⟩;refine ⟨_,rfl,?_,rfl,⟨hfr.os,hfr.tape,hfr.output,hfr.size,fun k hk hn=>hfr.block k hk (fun e=>hn (by rw [e];rfl))⟩⟩;rw [hmL];refine WRow.of_box hB hb (by omega) hc2 ?_;rw [jAa,zLm,htl];omega
def gone (V X:Wl):Bool:=decide (cmpP X.B V.A≤0)
theorem zMt (X V:Wl) (bv:Nat) (w:World) (Hv:Box w bv [V.A.x,V.A.y,V.B.x,V.B.y,V.K] 60):Calls prog 98 #[.agg #[X.A.x,X.A.y,X.B.x,X.B.y,X.K],pt0 bv] w (Rt w (.bool (gone V X))):=by
 have c1:=zAu X.B V.A;unfold gone;generalize cmpP X.B V.A=z at *
 go_enter func98,ntmps98
 have Fh:=Hv.f;go_wp2_with fail;clear Fh;refine qE1 fun W1 Bx hw=>?_;have BV:Box W1 bv [V.A.x,V.A.y,V.B.x,V.B.y,V.K] 60:=Hv.ee hw;refine qC2 (c1 _) Bx BV hw fun w2 Bx BV hw F_xV=>?_;go_wp2
 go_ret
 exact ⟨zB9 rfl,by have hl:=hw.size;go_grown⟩
theorem zIw:∀ args w,(callFunc 98 args).run prog w=.ok (.enter 98 args) w:=enters_of func98 (by kernel_rfl) rfl
theorem zMs (V:Wl) (bv g:Nat) (w:World) (Hv:Box w bv [V.A.x,V.A.y,V.B.x,V.B.y,V.K] 60) (hne:bv≠g):PredFrm 98 #[pt0 bv] (fun x=>gone V x) w g:=fun W x hf=>
 zMt x V bv W (hf.box Hv hne)
theorem zIx (V:Wl) (bv:Nat) (w:World) (Hv:Box w bv [V.A.x,V.A.y,V.B.x,V.B.y,V.K] 60):PredBelow prog 98 #[pt0 bv] (fun x=>.agg (cW x).toArray) (fun x=>gone V x) w:=fun W x hb=>
 (zMt x V bv W (Hv.ee hb)).mono fun _ _ ⟨he,hx⟩=>⟨he,(upB hb hx)⟩
def opn (L:List Wl):List Wl:=L.foldl (fun o x=>o.filter (fun y => !gone x y) ++ [x]) []
theorem opn_snoc (L:List Wl) (x:Wl):opn (L ++ [x])=(opn L).filter (fun y => !gone x y) ++ [x]:=by unfold opn;rw [jFa];rfl
theorem zM7:∀ (L o:List Wl),(L.foldl (fun o x=>o.filter (fun y => !gone x y) ++ [x]) o).length≤o.length+L.length
 | [],o=>by simp
 | x :: L,o=>by
  have h1:=zM7 L (o.filter (fun y => !gone x y) ++ [x]);have h2:=jCk (fun y => !gone x y) o;simp only [List.foldl_cons,jAm,jAa,jCy] at *;omega
theorem opn_len (L:List Wl):(opn L).length≤L.length:=by have:=zM7 L [];simpa [opn] using this
def hitB (L:List Wl) (x:Wl):Bool:=((opn L).filter (fun y => !gone x y)).any fun y=>bar1 y x
theorem tangled_any (a:Option Addr) (c:Nat) (L:List Wl) (hL:L.length < 1000000) (b:Bool) (hb:b=true↔∃ (k:Nat) (h:k < L.length),hitB (L.take k) L[k]=true) (w:World) (h:RowAt cW 5 w a L):Calls prog 69 #[.slice a L.length c] w (Rt w (.bool b)):=by
 obtain ⟨n,hn1⟩:∃ n,L.length=n:=⟨_,rfl⟩;have hn:n < 1000000:=hn1▸hL;have H1:=hdd hn1;have HB:=hdd hb;rw [hn1];clear hL hb hn1
 go_enter func69,ntmps69
 go_wp2
 go_loopw [3,5,8] (fun vl _ vi wr=>∃ k:Nat,vi=.int .i64 k∧k≤n∧Hid (∀ (i:Nat) (hi:i < L.length),i < k→hitB (L.take i) L[i]=false)∧WRow wr w.heap.size vl (opn (L.take k))∧Below w w wr) (fun _ _ vi _=>n - (intOf vi).toNat)
 case atStart=>exact ⟨0,rfl,jAt _,hdd (fun i _ h=>absurd h (Nat.not_lt_zero _)),WRow.nil0 _ _,Below.refl _ _⟩
 case round=>
  obtain ⟨k,rfl,hk,HF,hown,hwr⟩:=hrel;by_cases hlt:k < n
  ·have hkL:k < L.length:=by rw [H1.out];exact hlt
   obtain ⟨ad,A,ea,eA,hA⟩:=(h.ee hwr).five (j:=k) hkL;have HY:Hid (hitB (L.take k) L[k]=true→b=true):=hdd (fun e=>HB.out.2 ⟨k,hkL,e⟩);have HN:Hid (hitB (L.take k) L[k]=false→∀ (i:Nat) (hi:i < L.length),i < k+1→hitB (L.take i) L[i]=false):=hdd (fun e i hi hik=>by
    by_cases ek:i=k
    ·subst ek;exact e
    ·exact HF.out i hi (by omega))
   have HS:Hid (opn (L.take (k+1))=(opn (L.take k)).filter (fun y => !gone L[k] y) ++ [L[k]]):=hdd (by rw [jAb hkL,opn_snoc]);have hO:(opn (L.take k)).length≤1000000:=jAp (opn_len _) (by rw [jB3];omega);have hO3:((opn (L.take k)).filter (fun y => !gone L[k] y)).length≤1000000:=jAp (jCk _ _) hO;cases hbar:hitB (L.take k) L[k] with
   | true=>
    have HT:=hdd (HY.out hbar);unfold hitB at hbar;generalize opn (L.take k)=O at *
    clear HY HN HS HF;generalize L[k]=X at *
    generalize hO2:O.filter (fun y => !gone X y)=O2 at *
    obtain ⟨t0,t1,t2,t3,t4,t5⟩:=hA.f;subst ea;have HO:=hdd hown;have HW:=hdd hwr;have hlt0:=hown.lt;go_wp2_with fail;refine zA4 fun W2 hW=>?_;have BX2:Box W2 wr [X.A.x,X.A.y,X.B.x,X.B.y,X.K] 60:=by rw [hW];exact Box.new rfl
    have hown2:WRow W2 w.heap.size u3 O:=by rw [hW];exact HO.out.alloc _
    have hw2:Below w w W2:=by have hl:=HW.out.size;have hwr:=HW.out;rw [hW];go_grown
    have hs2:W2.heap.size=wr.heap.size+1:=by rw [hW];simp
    clear hW t0 t1 t2 t3 t4 t5 hA;refine (df_any (fun x=>gone X x) 98 _ zIw w.heap.size u3 O hO W2 hown2 (zIx X _ W2 BX2) (fun g e=>zMs X _ g W2 BX2 (by have:=(hlt0 g e).2;omega))).mono ?_;rintro e w3 ⟨v3,rfl,hown3,hvo,hfr3⟩;have BX3:Box w3 wr [X.A.x,X.A.y,X.B.x,X.B.y,X.K] 60:=hfr3.box BX2 (fun e=>by have:=(hlt0 _ e).2;omega);have hw3:Below w w w3:=hw2.trans (hfr3.below (fun k e=>(hlt0 k e).1) hw2.size);have hs3:wr.heap.size+1≤w3.heap.size:=by have:=hfr3.size;omega
    have hlt3:∀ q,v3.ownBlock=some q→q < wr.heap.size:=fun q hq=>(hlt0 q (by rw [←hvo];exact hq)).2;obtain ⟨a3,c3,hv3,hr3,hf3⟩:=hown3.row;rw [hO2] at hown3 hr3 hv3;have cb:=zNd X a3 c3 O2.length O2 rfl hO3 hf3 w3 hr3;rw [hbar,←hv3] at cb;clear hfr3 hown2 hw2 BX2 hvo hr3 hf3 hv3 hlt0;obtain ⟨z0,z1,z2,z3⟩:=BX3.f;go_wp2_with fail;refine cb.mono ?_;rintro e w4 ⟨rfl,hb4⟩;have BX4:=BX3.ee hb4;have hw4:=(upB hw3 hb4);have hown4:=hown3.ee hb4;have hs4:=jAp hs3 hb4.size;clear hb4 cb BX3 hw3 hown3 z0 z1 z2 z3 hs3;obtain ⟨z0,z1,z2,z3⟩:=BX4.f;go_wp2
    go_ret
    exact ⟨by rw [HT.out];rfl,hw4⟩
   | false=>
    have HNF:=hdd (HN.out hbar);unfold hitB at hbar;generalize opn (L.take k)=O at *
    clear HY HN HF;generalize L[k]=X at *
    generalize hO2:O.filter (fun y => !gone X y)=O2 at *
    obtain ⟨t0,t1,t2,t3,t4,t5⟩:=hA.f;subst ea;have HO:=hdd hown;have HW:=hdd hwr;have hlt0:=hown.lt;go_wp2_with fail;refine zA4 fun W2 hW=>?_;have BX2:Box W2 wr [X.A.x,X.A.y,X.B.x,X.B.y,X.K] 60:=by rw [hW];exact Box.new rfl
    have hown2:WRow W2 w.heap.size u3 O:=by rw [hW];exact HO.out.alloc _
    have hw2:Below w w W2:=by have hl:=HW.out.size;have hwr:=HW.out;rw [hW];go_grown
    have hs2:W2.heap.size=wr.heap.size+1:=by rw [hW];simp
    clear hW t0 t1 t2 t3 t4 t5 hA;refine (df_any (fun x=>gone X x) 98 _ zIw w.heap.size u3 O hO W2 hown2 (zIx X _ W2 BX2) (fun g e=>zMs X _ g W2 BX2 (by have:=(hlt0 g e).2;omega))).mono ?_;rintro e w3 ⟨v3,rfl,hown3,hvo,hfr3⟩;have BX3:Box w3 wr [X.A.x,X.A.y,X.B.x,X.B.y,X.K] 60:=hfr3.box BX2 (fun e=>by have:=(hlt0 _ e).2;omega);have hw3:Below w w w3:=hw2.trans (hfr3.below (fun k e=>(hlt0 k e).1) hw2.size);have hs3:wr.heap.size+1≤w3.heap.size:=by have:=hfr3.size;omega
    have hlt3:∀ q,v3.ownBlock=some q→q < wr.heap.size:=fun q hq=>(hlt0 q (by rw [←hvo];exact hq)).2;obtain ⟨a3,c3,hv3,hr3,hf3⟩:=hown3.row;rw [hO2] at hown3 hr3 hv3;have cb:=zNd X a3 c3 O2.length O2 rfl hO3 hf3 w3 hr3;rw [hbar,←hv3] at cb;clear hfr3 hown2 hw2 BX2 hvo hr3 hf3 hv3 hlt0;obtain ⟨z0,z1,z2,z3⟩:=BX3.f;go_wp2_with fail;refine cb.mono ?_;rintro e w4 ⟨rfl,hb4⟩;have BX4:=BX3.ee hb4;have hw4:=(upB hw3 hb4);have hown4:=hown3.ee hb4;have hs4:=jAp hs3 hb4.size;clear hb4 cb BX3 hw3 hown3 z0 z1 z2 z3 hs3;obtain ⟨z0,z1,z2,z3⟩:=BX4.f;have hbs:w.heap.size≤w4.heap.size:=hw4.size;have hl5:=fun q hq=>(hown4.lt q hq).1;have HW4:=hdd hw4;have HB4:=hdd hbs;go_wp2_with (at_builtin;refine zFx rfl _ _ rfl w.heap.size _ O2 rfl (hown4.alloc _) w4.heap.size X rfl (Box.new rfl) hO3 (by have:=HB4.out;simp;omega) ?_;intro w5 v5 hown5 hg5 hn5)
    have hw5:=(HW4.out.alloc HB4.out (.cells #[X.A.x,X.A.y,X.B.x,X.B.y,X.K] 60)).grown hg5 (by have:=HB4.out;simp;omega) hl5;clear hg5 hl5 z0 z1 z2 z3;go_wp2
    go_roundw
    case rel=>exact ⟨k+1,by go_num,hlt,HNF,by rw [HS.out];exact hown5,hw5⟩
    case measure=>simp [intOf];omega
  ·obtain rfl:k=n:=by omega
   have HT:Hid (b=false):=hdd (by
    cases hb:b with
    | false=>rfl
    | true=>
     obtain ⟨i,hi,e⟩:=HB.out.1 hb;have:=HF.out i hi (by rw [H1.out] at hi;exact hi);rw [e] at this;cases this)
   go_wp2
   go_ret
   exact ⟨by rw [HT.out];rfl,hwr⟩
theorem unm_enter:∀ args w,(callFunc 67 args).run prog w=.ok (.enter 67 args) w:=enters_of func67 (by kernel_rfl) rfl
theorem unm_pred (w:World):PredBelow prog 67 #[] (fun x=>.agg (cW x).toArray) unm w:=fun W x hb=>
 (unm_any x W).mono fun _ _ ⟨he,hx⟩=>⟨he,(upB hb hx)⟩
theorem new_ok (a:Option Addr) (c:Nat) (L:List Wl) (hL:L.length < 1000000) (hf:Flat a) (hz:a=none→L=[]) (S:List Wl) (hS:srt cmpW L=S) (b1:Bool) (h1:b1=false) (hb1:b1=true↔∃ (i:Nat) (h:i+1 < S.length),adjB S[i] S[i+1]=true) (b2:Bool) (h2:b2=false) (hb2:b2=true↔∃ (k:Nat) (h:k < S.length),hitB (S.take k) S[k]=true) (hu:L.any unm=false) (w:World) (h:RowAt cW 5 w a L):Calls prog 31 #[.slice a L.length c] w fun e w'=>∃ sb v,e=.returned (.tuple #[pt0 sb,()])∧Box w' sb [v] 102∧WRow w' w.heap.size v S∧w.heap.size≤sb∧v.ownBlock≠some sb∧Below w w w':=by
 go_enter func31,ntmps31
 have c1:=zN6 unm _ #[] unm_enter a c L (by omega) w h hf (unm_pred w);rw [hu] at c1;have hlen:(srt cmpW L).length=L.length:=(srt_perm (c:=cmpW) L).length_eq;rw [hS] at hlen;have c2:=fun (W:World) (hW:Below w w W)=>zJa a c L (by omega) W (h.ee hW) hf hz;have c3:=fun (v:Value) (W:World) (hr:WRow W w.heap.size v L)=>zK8 w.heap.size v L (by omega) W hr;rw [hS] at c3;have hSL:S.length < 1000000:=by omega
 have HLE:=hdd hlen;generalize L.length=n at *
 clear hL h hf hz;go_wp2_with fail;refine c1.mono ?_;rintro e w1 ⟨rfl,hw1⟩;go_wp2_with fail;refine (c2 w1 hw1).mono ?_;rintro e w2 ⟨v2,rfl,hr2,hb2'⟩;have hw2:=(upB hw1 hb2');have hr2':=hr2.base hw1.size;go_wp2_with fail;refine (c3 v2 w2 hr2').mono ?_;rintro e w3 ⟨rfl,hg3,hr3⟩;have hw3:Below w w w3:=(Frm.of_below hw2 (p:=fun _=>False)).trans2 (Frm.of_grown hg3 (p:=fun k=>v2.ownBlock=some k) (fun g e=>e)) (fun k e hk=>by have:=(hr2.lt k e).1;have:=hw1.size;omega) |>.below (fun k e=>e.elim) (jA9 _)
 obtain ⟨a3,n3,hv3,hr3a,hf3⟩:=hr3.row;have c4:=fun (W:World) (hW:Below w3 w3 W)=>twice_any a3 n3 S (by omega) b1 hb1 W (hr3a.ee hW);have c5:=fun (W:World) (hW:Below w3 w3 W)=>tangled_any a3 n3 S (by omega) b2 hb2 W (hr3a.ee hW);simp only [←hv3] at c4 c5;clear hr2 hr2' hg3 c1 c2 c3 hb2' hr3a hf3;obtain ⟨av,nv,cv,rfl⟩:=hr3.form;clear hv3;go_wp2_with fail;rw [h1] at c4;rw [h2] at c5;refine (c4 w3 (Below.refl _ _)).mono ?_;rintro e w4 ⟨rfl,hb4⟩;go_wp2_with fail;refine (c5 w4 hb4).mono ?_;rintro e w5 ⟨rfl,hb5⟩;have hb35:=(upB hb4 hb5);have hw5:=(upB hw3 hb35);have hr5:=hr3.ee hb35;have hsz:=hw5.size;have hlt5:∀ q,(Value.slice av nv cv).ownBlock=some q→q < w5.heap.size:=fun q hq=>(hr5.lt q hq).2;go_wp2_with fail;refine bodyPost_ret (v:=.tuple #[pt0 w5.heap.size,()]) (by simp [results,results31,go_sem]) rfl ⟨w5.heap.size,_,rfl,Box.new rfl,WRow.alloc hr5 _,hsz,fun e=>by have:=hlt5 _ e;omega,by have hl:=hw5.size;go_grown⟩
end
section
open Go.RowKit Go.Sort Go.Lib
theorem zDr {w:World} {b:Nat} {L:List Wl} (h:Box w b (L.flatMap cW) 60):RowAt cW 5 w (some ⟨b,0,none⟩) L:=fun j x hj=>by
 have hl:=jAj.1 hj;refine ⟨_,rfl,h.lt,fun i u hu=>?_⟩;have hi:i < 5:=(jAj.1 hu).1;rw [Addr.add_lit,Addr.add_lit,h.f.1,jCa,zB6 zCs L j i x hj hi];exact hu
theorem zF6 (b o:Nat):Flat (some ⟨b,o,none⟩):=fun ad e=>by cases e;rfl
theorem zNq {p:Prop} (h:¬ p):false=true↔p:=⟨fun h=>(by cases h),fun e=>absurd e h⟩
theorem SetAt.alloc {w:World} {sb:Nat} {v:Value} {L:List Wl} (S:SetAt w sb v L) (o:Obj):SetAt (w.alloc o) sb v L:=S.ext ((Below.refl _ w).alloc (jA9 _) o) rfl
def pM:Pt:=⟨1,0⟩
end
end Go.Proofs.YtogffkimgmlilaaGreat
