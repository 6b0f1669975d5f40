/- Put together: Rise, WalM, WalF, WalG, DocA. -/
import Derived.Test.YtogffkimgmlilaaGreatPfb16
set_option maxRecDepth 100000
set_option maxHeartbeats 8000000
set_option linter.all false
namespace Go.Proofs.YtogffkimgmlilaaGreat
open _root_.Go.Proofs.Tryz
section
section
variable {α:Type} {c:α→α→Int}
def Rising (c:α→α→Int) (L:List α):Prop:=L.Pairwise fun x y=>c x y < 0
theorem zFc (W:Whole c):∀ {L M:List α},Rising c L→Rising c M→(∀ p,p∈L↔p∈M)→L=M
 | [],M,_,_,h=>by
  cases M with
  | nil=>rfl
  | cons y M=>exact absurd ((h y).2 (by simp)) (by simp)
 | x :: L,M,h1,h2,h=>by
  cases M with
  | nil=>exact absurd ((h x).1 (by simp)) (by simp)
  | cons y M=>
   unfold Rising at h1 h2;rw [jBk] at h1 h2;have irr:∀ z,¬ c z z < 0:=fun z=>by have:=(W.eq0 (x:=z) (y:=z)).2 rfl;omega
   have e:x=y:=by
    rcases jA1.1 ((h x).1 (by simp)) with e | hx
    ·exact e
    ·rcases jA1.1 ((h y).2 (by simp)) with e | hy
     ·exact e.symm
     ·exact absurd (W.trans (h1.1 y hy) (h2.1 x hx)) (irr _)
   subst e;rw [zFc W h1.2 h2.2 (fun p=>⟨fun hp=>?_,fun hp=>?_⟩)]
   ·rcases jA1.1 ((h p).1 (by simp [hp])) with e | h'
    ·subst e;exact absurd (h1.1 p hp) (irr p)
    ·exact h'
   ·rcases jA1.1 ((h p).2 (by simp [hp])) with e | h'
    ·subst e;exact absurd (h2.1 p hp) (irr p)
    ·exact h'
theorem rising_insert (W:Whole c) {M:List α} {x:α} {k:Nat} (h:Rising c M) (hk:k≤M.length) (hlo:∀ (i:Nat) (hi:i < k),c (M[i]'(by omega)) x < 0) (hhi:∀ (i:Nat) (_:k≤i) (h2:i < M.length),0 < c (M[i]'h2) x):Rising c (M.take k ++ x :: M.drop k)∧∀ p,p∈M.take k ++ x :: M.drop k↔p∈M∨p=x:=by
 unfold Rising at *;have hs:M.take k ++ M.drop k=M:=jBu k M;rw [←hs,jDu] at h;have g1:∀ y∈M.take k,c y x < 0:=fun y hy=>by
  obtain ⟨i,hi,e⟩:=List.getElem_of_mem hy;simp only [jB3] at hi;rw [←e,jF9];exact hlo i (by omega)
 have g2:∀ y∈M.drop k,c x y < 0:=fun y hy=>by
  obtain ⟨i,hi,e⟩:=List.getElem_of_mem hy;simp only [jBm] at hi;rw [←e,List.getElem_drop];have:=hhi (k+i) (by omega) (by omega);have:=W.neg (M[k+i]'(by omega)) x;omega
 refine ⟨?_,fun p=>?_⟩
 ·rw [jDu,jBk];exact ⟨h.1,⟨g2,h.2.1⟩,fun a ha b hb=>by
   rcases jA1.1 hb with rfl | hb
   ·exact g1 a ha
   ·exact h.2.2 a ha b hb⟩
 ·constructor
  ·intro hp;rcases jAg.1 hp with hp | hp
   ·exact .inl (jC7 hp)
   ·rcases jA1.1 hp with rfl | hp
    ·exact .inr rfl
    ·exact .inl (jCq hp)
  ·rintro (hp | rfl)
   ·rw [←hs] at hp;rcases jAg.1 hp with hp | hp
    ·exact jAg.2 (.inl hp)
    ·exact jAg.2 (.inr (jAi _ hp))
   ·exact jAg.2 (.inr jAo)
theorem rising_lt {M:List α} (h:Rising c M) {i j:Nat} (hi:i < M.length) (hj:j < M.length) (hij:i < j):c M[i] M[j] < 0:=by
 unfold Rising at h;rw [jB0] at h;exact h i j hi hj hij
theorem rising_below (W:Whole c) {M:List α} {x:α} {k:Nat} (h:Rising c M) (hk:k < M.length) (hx:c M[k] x < 0):∀ (i:Nat) (hi:i < k+1),c (M[i]'(by omega)) x < 0:=fun i hi=>by
 by_cases e:i=k
 ·subst e;exact hx
 ·exact W.trans (rising_lt h (by omega) hk (by omega)) hx
structure Moved (M S:List α) (k:Nat):Prop where
 len:S.length=M.length+1
 lo:S.take k=M.take k
 hi:S.drop (k+1)=M.drop k
theorem zH8 (M:List α) (x:α):Moved M (M ++ [x]) M.length:=⟨by simp,by simp,by simp⟩
theorem Moved.get {M S:List α} {k:Nat} (h:Moved M S (k+1)) (hk:k < M.length):S[k]'(by rw [h.len];omega)=M[k]:=by
 have:=congrArg (fun l=>l[k]?) h.lo;simp only [jBw,show k < k+1 by omega,jDs] at this;rw [jA8 (by rw [h.len];omega),jA8 hk] at this;exact jAl this
theorem Moved.step {M S:List α} {k:Nat} (h:Moved M S (k+1)) (hk:k < M.length):Moved M (S.set (k+1) M[k]) k:=by
 refine ⟨by simp [h.len],?_,?_⟩
 ·rw [jEu (by omega)];have:=congrArg (List.take k) h.lo
  simpa [List.take_take,Nat.min_eq_left (Nat.le_succ k)] using this
 ·rw [List.drop_set,jA0 (by omega),Nat.sub_self,jBi (by rw [h.len];omega),jF1,h.hi];exact (jBi hk).symm
theorem Moved.done {M S:List α} {k:Nat} (h:Moved M S k) (hk:k≤M.length) (x:α):S.set k x=M.take k ++ x :: M.drop k:=by
 rw [List.set_eq_take_append_cons_drop,jAc (by rw [h.len];omega),h.lo,h.hi]
end
end
abbrev Ris (L:List Wl):Prop:=Rising cmpW L
def posW (L:List Wl) (p q:Pt):Nat:=(L.filter fun x=>decide (cmpW x ⟨p,q,0⟩ < 0)).length
def bgL (L:List Wl) (p:Pt):List Wl:=L.filter fun x=>decide (cmpP x.A p≤0)
def isW (p q:Pt) (x:Wl):Bool:=decide (x.A=p) && decide (x.B=q)
def kindW (L:List Wl) (p q:Pt):Int:=match L.find? (isW p q) with | some x=>x.K | none=>0
structure GoodW (x:Wl):Prop where
 va:vld x.A=true
 vb:vld x.B=true
 ab:cmpP x.A x.B < 0
 k:x.K=1∨x.K=2
theorem zGe {p q:Pt} {x:Wl}:isW p q x=true↔x.A=p∧x.B=q:=by simp [isW]
theorem zFe {q : Wl → Bool} : ∀ {L : List Wl}, L.Pairwise (fun x y => q y = true → q x = true) →
    (∀ (k:Nat) (hk:k < L.length),q L[k]=true↔k < (L.filter q).length)∧(L.filter q).length≤L.length∧L.take (L.filter q).length=L.filter q∧L.drop (L.filter q).length=L.filter fun x => !q x
 | [],_=>by simp
 | x :: L,h=>by
  rw [jBk] at h;obtain ⟨h1,h2,h3,h4⟩:=zFe h.2;cases hq:q x with
  | true=>
   rw [jB2 hq,jB7 (by rw [hq];simp)];refine ⟨fun k hk=>?_,by simp;omega,by simp [h3],by simp [h4]⟩;cases k with
   | zero=>simp [hq]
   | succ k=>simpa using h1 k (by simpa using hk)
  | false=>
   have hn:∀ y∈L,q y=false:=fun y hy=>by
    cases e:q y with
    | false=>rfl
    | true=>have:=h.1 y hy e;rw [hq] at this;cases this
   have e0:L.filter q=[]:=jDm.2 fun y hy=>by rw [hn y hy];simp
   rw [jB7 (by rw [hq];simp),jB2 (by rw [hq];rfl),e0];refine ⟨fun k hk=>?_,by simp,by simp,?_⟩
   ·cases k with
    | zero=>simp [hq]
    | succ k=>
     have:q (L[k]'(by simpa using hk))=false:=hn _ (jAx _);simp [this]
   ·rw [jCy,jC0,jCw.2 fun y hy=>by rw [hn y hy];rfl]
theorem ris_mono {L:List Wl} (h:Ris L) {q:Wl→Bool} (hq:∀ x y,cmpW x y < 0→q y=true→q x=true):L.Pairwise (fun x y=>q y=true→q x=true):=
 h.imp fun hxy=>hq _ _ hxy
theorem zJj {L:List Wl} (h:Ris L) (p q:Pt):(∀ (k:Nat) (hk:k < L.length),cmpW L[k] ⟨p,q,0⟩ < 0↔k < posW L p q)∧posW L p q≤L.length:=by
 obtain ⟨h1,h2,_⟩:=zFe (ris_mono h (q:=fun x=>decide (cmpW x ⟨p,q,0⟩ < 0)) fun x y hxy hy=>by
  simp only [jA4] at hy ⊢;exact zJ9 hxy hy)
 exact ⟨fun k hk=>by have:=h1 k hk;rw [jA4] at this;exact this,h2⟩
theorem zMu {L:List Wl} (h:Ris L) {p q:Pt} (hf:fnd L (posW L p q) p q=true) (hg:∀ x∈L,0 < x.K):∃ hm:posW L p q < L.length,L.find? (isW p q)=some L[posW L p q]∧L[posW L p q].A=p∧L[posW L p q].B=q:=by
 obtain ⟨h1,h2⟩:=zJj h p q;unfold fnd at hf;rcases jCm (posW L p q) L.length with hm | hm
 ·rw [jA8 hm] at hf;refine ⟨hm,?_,by simpa using hf⟩;refine List.find?_eq_some_iff_append.2 ⟨hf,L.take (posW L p q),L.drop (posW L p q+1),?_,fun y hy=>?_⟩
  ·rw [jEj hm,jBu]
  ·obtain ⟨k,hk,rfl⟩:=jDr.1 hy;have hk':k < posW L p q:=by omega
   have:=(h1 k (by omega)).2 hk';cases e:isW p q L[k] with
   | false=>rfl
   | true=>
    rw [zGe] at e;rw [zLe] at this;have hK:=hg _ (jAx (show k < L.length by omega));simp only [e.1,e.2,cmpP_eq0.2 rfl] at this;omega
 ·rw [jCb hm] at hf;cases hf
theorem fnd_false {L:List Wl} (h:Ris L) {p q:Pt} (hf:fnd L (posW L p q) p q=false) (hg:∀ x∈L,0 < x.K):L.find? (isW p q)=none:=by
 obtain ⟨h1,h2⟩:=zJj h p q;rw [jDa];intro y hy e;obtain ⟨k,hk,rfl⟩:=jDe.1 hy;rw [zGe] at e;have hK:=hg _ (jAx hk);have n1:¬ cmpW L[k] ⟨p,q,0⟩ < 0:=fun n=>by
  rw [zLe] at n;simp only [e.1,e.2,cmpP_eq0.2 rfl] at n;omega
 have hkm:posW L p q≤k:=Nat.le_of_not_lt fun n=>n1 ((h1 k hk).2 n);have hm:posW L p q < L.length:=by omega
 unfold fnd at hf;rw [jA8 hm] at hf;have n2:¬ cmpW L[posW L p q] ⟨p,q,0⟩ < 0:=fun n=>by have:=(h1 _ hm).1 n;omega
 rcases Nat.eq_or_lt_of_le hkm with hkm | hkm
 ·have:isW p q L[posW L p q]=true:=by rw [zGe];simp only [hkm];exact e
  unfold isW at this;simp only at hf;rw [hf] at this;cases this
 ·have n3:=rising_lt h hm hk hkm;rw [zLe] at n2 n3;rw [e.1,e.2] at n3;have e1:L[posW L p q].A=p:=by
   rcases n3 with n3 | n3
   ·exact absurd (.inl n3) n2
   ·exact n3.1
  have e2:L[posW L p q].B=q:=by
   rcases n3 with n3 | ⟨_,n3 | n3⟩
   ·exact absurd (.inl n3) n2
   ·exact absurd (.inr ⟨e1,.inl n3⟩) n2
   ·exact n3.1
  simp [e1,e2] at hf
theorem kindW_true {L:List Wl} (h:Ris L) {p q:Pt} (hf:fnd L (posW L p q) p q=true) (hg:∀ x∈L,0 < x.K) (hm:posW L p q < L.length):kindW L p q=L[posW L p q].K:=by
 obtain ⟨_,h1,_⟩:=zMu h hf hg;unfold kindW;rw [h1]
theorem kindW_false {L:List Wl} (h:Ris L) {p q:Pt} (hf:fnd L (posW L p q) p q=false) (hg:∀ x∈L,0 < x.K):kindW L p q=0:=by
 unfold kindW;rw [fnd_false h hf hg]
section
open Go.RowKit Go.Sort
attribute [local go_sem] rOper rAt rUpon cell_set sg_i64 sg_u64 alloc_cell alloc_frozen
attribute [local go_sem 10000] pt_eql pt_neq wal_eql wal_neq
attribute [local irreducible] rWalk
theorem RowAt.take {α:Type} {c:α→List Value} {k:Nat} {w:World} {a:Option Addr} {L:List α} (h:RowAt c k w a L) (m:Nat):RowAt c k w a (L.take m):=fun j x hx=>h j x (by
 rw [jBw] at hx;split at hx
 ·exact hx
 ·cases hx)
structure SetRd (w:World) (sb:Nat) (a0:Option Addr) (c n:Nat) (L:List Wl):Prop where
 box:Box w sb [.slice a0 n c] 102
 row:RowAt cW 5 w a0 L
 len:L.length=n
 le:L.length≤1000000
 nc:n≤c
 flat:Flat a0
 nil0:a0=none→L=[]
 ris:Ris L
 good:∀ x∈L,GoodW x
theorem SetRd.ext {w w':World} {sb c n m:Nat} {a0:Option Addr} {L:List Wl} (S:SetRd w sb a0 c n L) (hb:Below m w w') (hm:m=w.heap.size):SetRd w' sb a0 c n L:=
 ⟨S.box.ext hb hm,S.row.ext hb hm,S.len,S.le,S.nc,S.flat,S.nil0,S.ris,S.good⟩
theorem SetRd.ee {w w':World} {sb c n:Nat} {a0:Option Addr} {L:List Wl} (S:SetRd w sb a0 c n L) (hb:Below w w w'):SetRd w' sb a0 c n L:=S.ext hb rfl
theorem SetRd.pos {w:World} {sb c n:Nat} {a0:Option Addr} {L:List Wl} (S:SetRd w sb a0 c n L):∀ x∈L,0 < x.K:=fun x hx=>by have:=(S.good x hx).k;omega
theorem zMz (sb:Nat) (a0:Option Addr) (c n:Nat) (L:List Wl) (a b:Pt) (w:World) (S:SetRd w sb a0 c n L):Calls prog 63 #[pt0 sb,a,b] w (Rt w (.tuple #[.int .i64 (posW L (lo2 a b) (hi2 a b):Nat),.bool (fnd L (posW L (lo2 a b) (hi2 a b)) (lo2 a b) (hi2 a b))])):=
 let ⟨h1,h2⟩:=zJj S.ris (lo2 a b) (hi2 a b)
 find_some sb a0 c n L S.len S.le a b _ h1 h2 w S.box S.row
theorem kind_0 (sb:Nat) (a0:Option Addr) (c n:Nat) (L:List Wl) (a b:Pt) (hf:(fnd L (posW L (lo2 a b) (hi2 a b)) (lo2 a b) (hi2 a b))=false) (w:World) (S:SetRd w sb a0 c n L):Calls prog 27 #[pt0 sb,a,b] w (Rt w (.int .i64 0)):=by
 go_enter func27,ntmps27
 have hsb:=S.box.lt;go_wp2_with fail;refine qE2 fun W1 Ba Bb hw=>?_;have SS:=S.ee hw;have BS:=SS.box;have cf:=zMz sb a0 c n L a b W1 SS;rw [hf] at cf;refine qC3 (cf) Ba Bb BS hw fun w2 Ba Bb BS hw F_abS=>?_;go_wp2
 go_ret
 exact ⟨rfl,by have hl:=hw.size;go_grown⟩
theorem kind_1 (sb:Nat) (a0:Option Addr) (c n:Nat) (L:List Wl) (a b:Pt) (hf:(fnd L (posW L (lo2 a b) (hi2 a b)) (lo2 a b) (hi2 a b))=true) (m:Nat) (hm0:posW L (lo2 a b) (hi2 a b)=m) (hm:m < L.length) (X:Wl) (hX:L[m]=X) (w:World) (S:SetRd w sb a0 c n L):Calls prog 27 #[pt0 sb,a,b] w (Rt w (.int .i64 X.K)):=by
 go_enter func27,ntmps27
 have hsb:=S.box.lt;go_wp2_with fail;refine qE2 fun W1 Ba Bb hw=>?_;have SS:=S.ee hw;have BS:=SS.box;have cf:=zMz sb a0 c n L a b W1 SS;rw [hf] at cf;rw [hm0] at cf;refine qK3 (cf) Ba Bb BS hw fun w2 Ba Bb BS hw=>?_;have SS2:=SS.ext (Below.refl _ _) rfl;obtain ⟨ad,A,ea,eA,hA⟩:=(S.row.ee hw).five (j:=m) hm;have hmn:m < n:=by rw [←S.len];exact hm
 rw [hX] at hA;obtain ⟨u0,u1,u2,u3,u4,u5⟩:=hA.f;subst ea;clear SS SS2 hA;have F_abS:=J3 Ba.f Bb.f BS.f;go_wp2
 go_ret
 exact ⟨rfl,by have hl:=hw.size;go_grown⟩
theorem kind_any (sb:Nat) (a0:Option Addr) (c n:Nat) (L:List Wl) (a b:Pt) (w:World) (S:SetRd w sb a0 c n L):Calls prog 27 #[pt0 sb,a,b] w (Rt w (.int .i64 (kindW L (lo2 a b) (hi2 a b)))):=by
 cases hf:(fnd L (posW L (lo2 a b) (hi2 a b)) (lo2 a b) (hi2 a b)) with
 | false=>rw [kindW_false S.ris hf S.pos];exact kind_0 sb a0 c n L a b hf w S
 | true=>
  obtain ⟨hm,_⟩:=zMu S.ris hf S.pos;rw [kindW_true S.ris hf S.pos hm];exact kind_1 sb a0 c n L a b hf _ rfl hm _ rfl w S
theorem all_any (sb:Nat) (a0:Option Addr) (c n:Nat) (L:List Wl) (w:World) (S:SetRd w sb a0 c n L):Calls prog 20 #[pt0 sb] w fun e w'=>∃ v',e=.returned v'∧WRow w' w.heap.size v' L∧Below w w w':=by
 go_enter func20,ntmps20
 have Fs:=S.box.f;have cc:=zJa a0 c L S.le w S.row S.flat S.nil0;rw [S.len] at cc;go_wp2_with fail;refine cc.mono ?_;rintro e w1 ⟨v',rfl,ho,hb⟩;go_wp2
 go_ret
 exact ⟨v',rfl,ho,hb⟩
def clashW (L:List Wl) (a b:Pt):Int:=if mkOk a b 1=true then (if kindW L (lo2 a b) (hi2 a b)=0 then (if (bgL L (hi2 a b)).any (fun x=>bar1 x ⟨lo2 a b,hi2 a b,1⟩) then 7 else 0) else 5) else 2
theorem zFx {w:World} {ops:Array Oper} {rest:List Oper} {o:Oper} {a:Act} {Q:Exit→Act→World→Prop} (hgd:o.guard=none) (s x:Operand) (ho:o.op=.call { callee:=.builtin .append,args:=#[s,x],argTypes:=#[37,37] }) (B:Nat) (v:Value) (L:List Wl) (hs:a.eval s=v) (hown:WRow w B v L) (bx:Nat) (X:Wl) (hx:a.eval x=.slice (some ⟨bx,0,none⟩) 1 1) (hbx:Box w bx (cW X) 60) (hn:L.length≤1000000) (hbase:B≤w.heap.size) (h:∀ w' v',WRow w' B v' (L ++ [X])→w.grownBy w' v.ownBlock→v'≠.slice none 0 0→wpList prog ops Q rest (a.put o.dst v') w'):wpList prog ops Q (o :: rest) a w:=by
 obtain ⟨i0,hi,hz0,hz1,hz2⟩:=info_parts zEk;refine wpList_append_own w hgd s x 37 ho B 60 i0 _ 5 40 underlying37 hi hz0 hz1 hz2 rfl (by decide) v L.length _ hs hown ⟨bx,0,none⟩ 1 1 (cW X) hx rfl ?_ (zLp X) ?_ ?_ hbase ?_
 ·intro j u hj;have:=hbx.f.1 j;rw [hj] at this;rw [Addr.add_lit,jCa];exact this
 ·unfold maxLen;omega
 ·omega
 ·intro v' w' hown' hg hnil;refine h w' v' ?_ hg (fun e=>by have:=(hnil.1 e).2;omega);unfold WRow;rw [jAa,jCc,jBe]
  simpa using hown'
theorem Box.grownBy {w w':World} {b:Nat} {cs:List Value} {T:TypeId} {row:Option Nat} (h:Box w b cs T) (hg:w.grownBy w' row) (hne:some b≠row):Box w' b cs T:=by
 have hl:=h.lt;unfold Box at *;rw [hg.block b hl hne];exact h
theorem WRow.ne {w:World} {B:Nat} {v:Value} {L:List Wl} (h:WRow w (B+1) v L):v.ownBlock≠some B:=fun e=>by have:=(h.lt _ e).1;omega
theorem WRow.alloc {w:World} {B:Nat} {v:Value} {L:List Wl} (h:WRow w B v L) (o:Obj):WRow (w.alloc o) B v L:=World.ownsRow.alloc h o
def onV (o:Option Wl):Value:=match o with | some x=>.tuple #[.agg #[x.A.x,x.A.y,x.B.x,x.B.y,x.K],.bool true] | none=>.tuple #[.agg #[(),(),(),(),()],.bool false]
structure DocRd (w:World) (db:Nat) (a0:Option Addr) (c n:Nat) (L:List Wl):Prop where
 box:Box w db [.slice a0 n c] 50
 row:RowAt cW 5 w a0 L
 len:L.length=n
 le:L.length≤1000000
 nc:n≤c
 flat:Flat a0
theorem DocRd.ext {w w':World} {db c n m:Nat} {a0:Option Addr} {L:List Wl} (S:DocRd w db a0 c n L) (hb:Below m w w') (hm:m=w.heap.size):DocRd w' db a0 c n L:=
 ⟨S.box.ext hb hm,S.row.ext hb hm,S.len,S.le,S.nc,S.flat⟩
theorem DocRd.ee {w w':World} {db c n:Nat} {a0:Option Addr} {L:List Wl} (S:DocRd w db a0 c n L) (hb:Below w w w'):DocRd w' db a0 c n L:=S.ext hb rfl
def isE (p q:Pt) (x:Wl):Bool:=(decide (x.A=p) && decide (x.B=q)) || (decide (x.A=q) && decide (x.B=p))
theorem zJu (p q:Pt) (x:Wl):isE p q x=((peqI x.A.x x.A.y p.x p.y && peqI x.B.x x.B.y q.x q.y) || (peqI x.A.x x.A.y q.x q.y && peqI x.B.x x.B.y p.x p.y)):=by rw [zAz,zAz,zAz,zAz];rfl
def kindD (L:List Wl) (p q:Pt):Int:=match L.find? (isE p q) with | some x=>x.K | none=>0
theorem zL6 {p:Wl→Bool} {L:List Wl} {k:Nat} (hk:k < L.length) (h0:(L.take k).find? p=none) (h1:p L[k]=true):L.find? p=some L[k]:=by
 refine List.find?_eq_some_iff_append.2 ⟨h1,L.take k,L.drop (k+1),?_,fun y hy=>?_⟩
 ·rw [jEj hk,jBu]
 ·simpa using jDa.1 h0 y hy
theorem zCz {p:Wl→Bool} {L:List Wl} {k:Nat} (hk:k < L.length) (h0:(L.take k).find? p=none) (h1:p L[k]=false):(L.take (k+1)).find? p=none:=by
 rw [jAb hk,List.find?_append,h0,List.find?_cons_of_neg (by rw [h1];simp)];rfl
theorem zN0 {p:Wl→Bool} {L:List Wl} (h0:(L.take L.length).find? p=none):L.find? p=none:=by rwa [jAe (jA9 _)] at h0
theorem zCu (db:Nat) (a0:Option Addr) (c n:Nat) (L:List Wl) (a b:Pt) (w:World) (D:DocRd w db a0 c n L):Calls prog 40 #[pt0 db,a,b] w (Rt w (.int .i64 (kindD L a b))):=by
 have hdb:=D.box.lt;have HM:=hdd D.len;have hn:n≤1000000:=D.len▸D.le;have HD:=hdd D;clear D
 go_enter func40,ntmps40
 go_wp2;refine zA1 fun W1 hW=>?_;have BA:Box W1 w [a.x,a.y] 54:=by rw [hW];exact (Box.new rfl).old _
 have BB:Box W1 (w+1) [b.x,b.y] 54:=by rw [hW];exact Box.new (by simp)
 have hw:Below w w W1:=by rw [hW];go_grown
 clear hW
 go_loopw [7] (fun vi wr=>∃ k:Nat,k≤n∧vi=.int .i64 k∧Hid ((L.take k).find? (isE a b)=none)∧Below w w wr∧Box wr w [a.x,a.y] 54∧Box wr (w+1) [b.x,b.y] 54) (fun vi _=>n - (intOf vi).toNat)
 case atStart=>exact ⟨0,jAt _,rfl,hdd rfl,hw,BA,BB⟩
 case round=>
  clear BA BB hw;obtain ⟨k,hk,rfl,HF,hwr,BA,BB⟩:=hrel;have BD:=(HD.out.ee hwr).box;by_cases hlt:k < n
  ·have hkL:k < L.length:=by rw [HM.out];exact hlt
   obtain ⟨ad,A,ea,eA,hA⟩:=(HD.out.ee hwr).row.five (j:=k) hkL;have HX:Hid (L[k]=L[k]):=hdd rfl;generalize hX:L[k]=X at hA HX
   clear HX;have HX:=hdd hX;clear hX;obtain ⟨u0,u1,u2,u3,u4,u5⟩:=hA.f;obtain ⟨y0,y1,y2,y3⟩:=BA.f;obtain ⟨z0,z1,z2,z3⟩:=BB.f;obtain ⟨d0,d1,d2,d3⟩:=BD.f;subst ea;clear hA;cases e1:peqI X.A.x X.A.y a.x a.y with
   | true=>
    cases e2:peqI X.B.x X.B.y b.x b.y with
    | true=>
     have HE:Hid (isE a b X=true):=hdd (by rw [zJu,e1,e2];first | rfl | simp);have HK:Hid (kindD L a b=X.K):=hdd (by unfold kindD;rw [zL6 hkL HF.out (by rw [HX.out];exact HE.out)];show L[k].K=_;rw [HX.out]);have HW:=hdd hwr;clear HE HF HX hwr;go_wp2
     go_quiet (fail)
     go_wp2
     go_ret
     exact ⟨zAp HK.out.symm,HW.out.trans ⟨rfl,rfl,rfl,jA9 _,fun _ _=>rfl⟩⟩
    | false=>
     cases e3:peqI X.A.x X.A.y b.x b.y with
     | true=>
      cases e4:peqI X.B.x X.B.y a.x a.y with
      | true=>
       have HE:Hid (isE a b X=true):=hdd (by rw [zJu,e1,e2,e3,e4];first | rfl | simp);have HK:Hid (kindD L a b=X.K):=hdd (by unfold kindD;rw [zL6 hkL HF.out (by rw [HX.out];exact HE.out)];show L[k].K=_;rw [HX.out]);have HW:=hdd hwr;clear HE HF HX hwr;go_wp2
       go_quiet (fail)
       go_wp2
       go_ret
       exact ⟨zAp HK.out.symm,HW.out.trans ⟨rfl,rfl,rfl,jA9 _,fun _ _=>rfl⟩⟩
      | false=>
       have HE:Hid (isE a b X=false):=hdd (by rw [zJu,e1,e2,e3,e4];first | rfl | simp);have HG:Hid ((L.take (k+1)).find? (isE a b)=none):=hdd (zCz hkL HF.out (by rw [HX.out];exact HE.out));have HW:=hdd hwr;have HA:=hdd BA;have HB:=hdd BB;clear HE HF HX hwr BA BB;go_wp2
       go_quiet (fail)
       go_wp2
       go_roundw
       case rel=>exact ⟨k+1,hlt,by go_num,HG,HW.out.trans ⟨rfl,rfl,rfl,jA9 _,fun _ _=>rfl⟩,by first | exact HA.out | exact HA.out.drew,by first | exact HB.out | exact HB.out.drew⟩
       case measure=>simp [intOf];omega
     | false=>
      have HE:Hid (isE a b X=false):=hdd (by rw [zJu,e1,e2,e3];first | rfl | simp);have HG:Hid ((L.take (k+1)).find? (isE a b)=none):=hdd (zCz hkL HF.out (by rw [HX.out];exact HE.out));have HW:=hdd hwr;have HA:=hdd BA;have HB:=hdd BB;clear HE HF HX hwr BA BB;go_wp2
      go_quiet (fail)
      go_wp2
      go_roundw
      case rel=>exact ⟨k+1,hlt,by go_num,HG,HW.out.trans ⟨rfl,rfl,rfl,jA9 _,fun _ _=>rfl⟩,by first | exact HA.out | exact HA.out.drew,by first | exact HB.out | exact HB.out.drew⟩
      case measure=>simp [intOf];omega
   | false=>
    cases e3:peqI X.A.x X.A.y b.x b.y with
    | true=>
     cases e4:peqI X.B.x X.B.y a.x a.y with
     | true=>
      have HE:Hid (isE a b X=true):=hdd (by rw [zJu,e1,e3,e4];first | rfl | simp);have HK:Hid (kindD L a b=X.K):=hdd (by unfold kindD;rw [zL6 hkL HF.out (by rw [HX.out];exact HE.out)];show L[k].K=_;rw [HX.out]);have HW:=hdd hwr;clear HE HF HX hwr;go_wp2
      go_quiet (fail)
      go_wp2
      go_ret
      exact ⟨zAp HK.out.symm,HW.out.trans ⟨rfl,rfl,rfl,jA9 _,fun _ _=>rfl⟩⟩
     | false=>
      have HE:Hid (isE a b X=false):=hdd (by rw [zJu,e1,e3,e4];first | rfl | simp);have HG:Hid ((L.take (k+1)).find? (isE a b)=none):=hdd (zCz hkL HF.out (by rw [HX.out];exact HE.out));have HW:=hdd hwr;have HA:=hdd BA;have HB:=hdd BB;clear HE HF HX hwr BA BB;go_wp2
      go_quiet (fail)
      go_wp2
      go_roundw
      case rel=>exact ⟨k+1,hlt,by go_num,HG,HW.out.trans ⟨rfl,rfl,rfl,jA9 _,fun _ _=>rfl⟩,by first | exact HA.out | exact HA.out.drew,by first | exact HB.out | exact HB.out.drew⟩
      case measure=>simp [intOf];omega
    | false=>
     have HE:Hid (isE a b X=false):=hdd (by rw [zJu,e1,e3];first | rfl | simp);have HG:Hid ((L.take (k+1)).find? (isE a b)=none):=hdd (zCz hkL HF.out (by rw [HX.out];exact HE.out));have HW:=hdd hwr;have HA:=hdd BA;have HB:=hdd BB;clear HE HF HX hwr BA BB;go_wp2
     go_quiet (fail)
     go_wp2
     go_roundw
     case rel=>exact ⟨k+1,hlt,by go_num,HG,HW.out.trans ⟨rfl,rfl,rfl,jA9 _,fun _ _=>rfl⟩,by first | exact HA.out | exact HA.out.drew,by first | exact HB.out | exact HB.out.drew⟩
     case measure=>simp [intOf];omega
  ·obtain rfl:k=n:=by omega
   have hK:kindD L a b=0:=by
    unfold kindD;rw [zN0 (by rw [HM.out];exact HF.out)]
   obtain ⟨d0,d1,d2,d3⟩:=BD.f;have HK:=hdd hK;clear hK;go_wp2
   go_ret
   exact ⟨zAp HK.out.symm,hwr⟩
end
end Go.Proofs.YtogffkimgmlilaaGreat
