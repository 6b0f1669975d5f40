/- Put together: GeoA, GeoB. -/
import Derived.Test.YtogffkimgmlilaaGreatPfb14
set_option maxRecDepth 100000
set_option maxHeartbeats 8000000
set_option linter.all false
namespace Go.Proofs.YtogffkimgmlilaaGreat
section
open Go.RowKit
def crs (a b q:Pt):Int:=if a.y≤q.y∧q.y < b.y∧0 < det a b q then 1 else if b.y≤q.y∧q.y < a.y∧det a b q < 0 then -1 else 0
theorem zC0 (a b q:Pt):crs b a q = - crs a b q:=by
 unfold crs;rw [zAd]
 (repeat' split) <;> omega
theorem zAi {a b:Int} (ha:0 < a):0 < a * b↔0 < b:=by
 constructor
 ·intro h;rcases jD3 b 0 with k | k | k
  ·have:=jBp ha k;omega
  ·rw [k,jAy] at h;omega
  ·exact k
 ·intro h;exact jAf ha h
theorem zBf {a b:Int} (ha:0 < a):a * b < 0↔b < 0:=by
 have:=zAi (b := -b) ha;rw [jCj] at this;omega
theorem zAk {a b:Int} (ha:0 < a):0≤a * b↔0≤b:=by
 have:=zBf (b:=b) ha;omega
theorem crs_add {a b p:Pt} (h:det a b p=0) (hb:(a.y≤p.y∧p.y≤b.y)∨(b.y≤p.y∧p.y≤a.y)) (q:Pt):crs a b q=crs a p q+crs p b q:=by
 have e1:(b.y - a.y) * det a p q=(p.y - a.y) * det a b q - (q.y - a.y) * det a b p:=by unfold det;grind
 have e2:(b.y - a.y) * det p b q=(b.y - p.y) * det a b q+(q.y - b.y) * det a b p:=by unfold det;grind
 rw [h,jAy] at e1 e2;rw [jCi] at e1;rw [jD1] at e2;have key:∀ (s t d f:Int),0 < s→0 < t→s * f=t * d→((0 < f↔0 < d)∧(f < 0↔d < 0)):=by
  intro s t d f hs ht h;refine ⟨?_,?_⟩
  ·rw [←zAi hs,h,zAi ht]
  ·rw [←zBf hs,h,zBf ht]
 have key':∀ (s t d f:Int),s < 0→t < 0→s * f=t * d→((0 < f↔0 < d)∧(f < 0↔d < 0)):=by
  intro s t d f hs ht h;refine key (-s) (-t) d f (by omega) (by omega) ?_;rw [jE1,jE1,h]
 unfold crs;rcases jD3 a.y b.y with hab | hab | hab
 ·have k1:a.y < p.y→((0 < det a p q↔0 < det a b q)∧(det a p q < 0↔det a b q < 0)):=fun hp=>key _ _ _ _ (by omega) (by omega) e1;have k2:p.y < b.y→((0 < det p b q↔0 < det a b q)∧(det p b q < 0↔det a b q < 0)):=fun hp=>key _ _ _ _ (by omega) (by omega) e2
  (repeat' split) <;> omega
 ·(repeat' split) <;> omega
 ·have k1:p.y < a.y→((0 < det a p q↔0 < det a b q)∧(det a p q < 0↔det a b q < 0)):=fun hp=>key' _ _ _ _ (by omega) (by omega) e1;have k2:b.y < p.y→((0 < det p b q↔0 < det a b q)∧(det p b q < 0↔det a b q < 0)):=fun hp=>key' _ _ _ _ (by omega) (by omega) e2
  (repeat' split) <;> omega
def hin (T:Tri3) (q:Pt):Int:=crs T.A T.B q+crs T.B T.C q+crs T.C T.A q
theorem zCq {a b c q:Pt} (hD:0 < det a b c):(a.y≤q.y→q.y < b.y→c.y≤q.y→det b c q < 0→0 < det a b q)∧(a.y≤q.y→q.y < b.y→q.y < c.y→det c a q < 0→0 < det a b q):=by
 refine ⟨fun h1 h2 h3 h4=>?_,fun h1 h2 h3 h4=>?_⟩
 ·have e:(b.y - c.y) * det a b q=(b.y - q.y) * det a b c - (b.y - a.y) * det b c q:=by unfold det;grind
  have p1:0 < (b.y - q.y) * det a b c:=jAf (by omega) hD;have p2:(b.y - a.y) * det b c q < 0:=jBp (by omega) h4;exact (zAi (a:=b.y - c.y) (by omega)).1 (by omega)
 ·have e:(c.y - a.y) * det a b q=(q.y - a.y) * det a b c - (b.y - a.y) * det c a q:=by unfold det;grind
  have p1:0≤(q.y - a.y) * det a b c:=jA2 (by omega) (by omega);have p2:(b.y - a.y) * det c a q < 0:=jBp (by omega) h4;exact (zAi (a:=c.y - a.y) (by omega)).1 (by omega)
theorem zC6 {a b c q:Pt}:(a.y≤q.y→q.y < b.y→c.y≤q.y→0 < det a b q→0≤det b c q→0≤det c a q)∧(a.y≤q.y→q.y < b.y→q.y < c.y→0 < det a b q→0≤det c a q→0≤det b c q):=by
 have e:det a b q * (c.y - q.y)+det b c q * (a.y - q.y)+det c a q * (b.y - q.y)=0:=by unfold det;grind
 refine ⟨fun h1 h2 h3 h4 h5=>?_,fun h1 h2 h3 h4 h5=>?_⟩
 ·have p1:0≤det a b q * (q.y - c.y):=jA2 (by omega) (by omega);have p2:0≤det b c q * (q.y - a.y):=jA2 (by omega) (by omega);have:(b.y - q.y) * det c a q=det a b q * (q.y - c.y)+det b c q * (q.y - a.y):=by grind
  exact (zAk (a:=b.y - q.y) (by omega)).1 (by omega)
 ·have p1:0 < det a b q * (c.y - q.y):=jAf (by omega) (by omega);have p2:0≤det c a q * (b.y - q.y):=jA2 (by omega) (by omega);have:(q.y - a.y) * det b c q=det a b q * (c.y - q.y)+det c a q * (b.y - q.y):=by grind
  rcases jBo h1 with h | h
  ·exact (zAk (a:=q.y - a.y) (by omega)).1 (by omega)
  ·rw [h,jDg,jB1] at this;omega
theorem zLo {a b q:Pt} (h1:a.y≤q.y) (h2:q.y < b.y):crs a b q=if 0 < det a b q then 1 else 0:=by
 unfold crs
 (repeat' split) <;> omega
theorem zF7 {a b q:Pt} (h1:b.y≤q.y) (h2:q.y < a.y):crs a b q=if det a b q < 0 then -1 else 0:=by
 unfold crs
 (repeat' split) <;> omega
theorem zDw {a b q:Pt} (h1:a.y≤q.y) (h2:b.y≤q.y):crs a b q=0:=by
 unfold crs
 (repeat' split) <;> omega
theorem zDx {a b q:Pt} (h1:q.y < a.y) (h2:q.y < b.y):crs a b q=0:=by
 unfold crs
 (repeat' split) <;> omega
theorem cover_flat {a b c q:Pt} (hD:0 < det a b c) (h1:0 < det a b q) (h2:0 < det b c q) (h3:0 < det c a q):¬ (c.y≤q.y∧a.y≤q.y∧b.y≤q.y)∧¬ (q.y < c.y∧q.y < a.y∧q.y < b.y):=by
 have e:det a b q * (q.y - c.y)+det b c q * (q.y - a.y)+det c a q * (q.y - b.y)=0:=by unfold det;grind
 have e':det a b q * (c.y - q.y)+det b c q * (a.y - q.y)+det c a q * (b.y - q.y)=0:=by unfold det;grind
 refine ⟨fun ⟨k1,k2,k3⟩=>?_,fun ⟨k1,k2,k3⟩=>?_⟩
 ·have m1:0≤det a b q * (q.y - c.y):=jA2 (by omega) (by omega);have m2:0≤det b c q * (q.y - a.y):=jA2 (by omega) (by omega);have m3:0≤det c a q * (q.y - b.y):=jA2 (by omega) (by omega);have z1:det a b q * (q.y - c.y)=0:=by omega
  have z2:det b c q * (q.y - a.y)=0:=by omega
  have z3:det c a q * (q.y - b.y)=0:=by omega
  have y1:q.y=c.y:=by rcases jA7.1 z1 with h | h <;> omega
  have y2:q.y=a.y:=by rcases jA7.1 z2 with h | h <;> omega
  have y3:q.y=b.y:=by rcases jA7.1 z3 with h | h <;> omega
  have:det a b c=0:=by
   unfold det;rw [show c.y - a.y=0 by omega,show b.y - a.y=0 by omega];simp
  omega
 ·have m1:0 < det a b q * (c.y - q.y):=jAf (by omega) (by omega);have m2:0 < det b c q * (a.y - q.y):=jAf (by omega) (by omega);have m3:0 < det c a q * (b.y - q.y):=jAf (by omega) (by omega);omega
theorem zDy {u v w S:Int} (h:S=(if 0 < u then 1 else 0)+(if v < 0 then -1 else 0)) (hp:v < 0→0 < u) (ht:0 < u→0≤v→0≤w):(0≤S∧S≤1)∧(0 < S→0≤u∧0≤v∧0≤w)∧(0 < u→0 < v→0 < w→S=1):=by
 rw [h];clear h
 (repeat' split) <;> omega
theorem zMo {a b c:Pt} (hD:0 < det a b c) (q:Pt):(0≤crs a b q+crs b c q+crs c a q∧crs a b q+crs b c q+crs c a q≤1)∧(0 < crs a b q+crs b c q+crs c a q→0≤det a b q∧0≤det b c q∧0≤det c a q)∧(0 < det a b q→0 < det b c q→0 < det c a q→crs a b q+crs b c q+crs c a q=1):=by
 have hD2:0 < det b c a:=by rw [zAh];exact hD
 have hD3:0 < det c a b:=by rw [zAh,zAh];exact hD
 have f:=cover_flat (q:=q) hD;by_cases ha:a.y≤q.y <;> by_cases hb:b.y≤q.y <;> by_cases hc:c.y≤q.y
 ·rw [zDw ha hb,zDw hb hc,zDw hc ha];exact ⟨by omega,by omega,fun h1 h2 h3=>absurd ⟨hc,ha,hb⟩ (f h1 h2 h3).1⟩
 ·obtain ⟨r1, r2, r3⟩ := zDy (u := det b c q) (v := det c a q) (w := det a b q) (S := crs a b q + crs b c q + crs c a q)
    (by rw [zDw ha hb,zLo hb (by omega),zF7 ha (by omega)];omega) ((zCq hD2).1 hb (by omega) ha) (zC6.1 hb (by omega) ha)
  exact ⟨r1,fun h=>⟨(r2 h).2.2,(r2 h).1,(r2 h).2.1⟩,fun h1 h2 h3=>r3 h2 h3 h1⟩
 ·obtain ⟨r1, r2, r3⟩ := zDy (u := det a b q) (v := det b c q) (w := det c a q) (S := crs a b q + crs b c q + crs c a q)
    (by rw [zLo ha (by omega),zF7 hc (by omega),zDw hc ha];omega) ((zCq hD).1 ha (by omega) hc) (zC6.1 ha (by omega) hc)
  exact ⟨r1,fun h=>⟨(r2 h).1,(r2 h).2.1,(r2 h).2.2⟩,fun h1 h2 h3=>r3 h1 h2 h3⟩
 ·obtain ⟨r1, r2, r3⟩ := zDy (u := det a b q) (v := det c a q) (w := det b c q) (S := crs a b q + crs b c q + crs c a q)
    (by rw [zLo ha (by omega),zDx (by omega) (by omega),zF7 ha (by omega)];omega) ((zCq hD).2 ha (by omega) (by omega)) (zC6.2 ha (by omega) (by omega))
  exact ⟨r1,fun h=>⟨(r2 h).1,(r2 h).2.2,(r2 h).2.1⟩,fun h1 h2 h3=>r3 h1 h3 h2⟩
 ·obtain ⟨r1, r2, r3⟩ := zDy (u := det c a q) (v := det a b q) (w := det b c q) (S := crs a b q + crs b c q + crs c a q)
    (by rw [zF7 hb (by omega),zDw hb hc,zLo hc (by omega)];omega) ((zCq hD3).1 hc (by omega) hb) (zC6.1 hc (by omega) hb)
  exact ⟨r1,fun h=>⟨(r2 h).2.1,(r2 h).2.2,(r2 h).1⟩,fun h1 h2 h3=>r3 h3 h1 h2⟩
 ·obtain ⟨r1, r2, r3⟩ := zDy (u := det b c q) (v := det a b q) (w := det c a q) (S := crs a b q + crs b c q + crs c a q)
    (by rw [zF7 hb (by omega),zLo hb (by omega),zDx (by omega) (by omega)];omega) ((zCq hD2).2 hb (by omega) (by omega)) (zC6.2 hb (by omega) (by omega))
  exact ⟨r1,fun h=>⟨(r2 h).2.1,(r2 h).1,(r2 h).2.2⟩,fun h1 h2 h3=>r3 h2 h1 h3⟩
 ·obtain ⟨r1, r2, r3⟩ := zDy (u := det c a q) (v := det b c q) (w := det a b q) (S := crs a b q + crs b c q + crs c a q)
    (by rw [zDx (by omega) (by omega),zF7 hc (by omega),zLo hc (by omega)];omega) ((zCq hD3).2 hc (by omega) (by omega)) (zC6.2 hc (by omega) (by omega))
  exact ⟨r1,fun h=>⟨(r2 h).2.2,(r2 h).2.1,(r2 h).1⟩,fun h1 h2 h3=>r3 h3 h2 h1⟩
 ·rw [zDx (by omega) (by omega),zDx (by omega) (by omega),zDx (by omega) (by omega)];exact ⟨by omega,by omega,fun h1 h2 h3=>absurd ⟨by omega,by omega,by omega⟩ (f h1 h2 h3).2⟩
def sc (K:Int) (p:Pt):Pt:=⟨K * p.x,K * p.y⟩
theorem zNk (K:Int) (a b c:Pt):det (sc K a) (sc K b) (sc K c)=K * (K * det a b c):=by unfold det sc;grind
def crd (a b v:Pt):Int:=(b.x - a.x) * v.y - (b.y - a.y) * v.x
def ways (T:Tri3):List (Pt×Pt):=[(T.A,T.B),(T.B,T.C),(T.C,T.A)]
def cvr (K:Int):List (Pt×Pt)→Pt→Int
 | [],_=>0
 | w :: l,q=>crs (sc K w.1) (sc K w.2) q+cvr K l q
theorem zCp (K:Int) (l m:List (Pt×Pt)) (q:Pt):cvr K (l ++ m) q=cvr K l q+cvr K m q:=by
 induction l with
 | nil=>simp [cvr]
 | cons w l ih=>simp only [jB9,cvr,ih];omega
theorem zI6 {K:Int} {l m:List (Pt×Pt)} (h:l.Perm m) (q:Pt):cvr K l q=cvr K m q:=by
 induction h with
 | nil=>rfl
 | cons x _ ih=>simp only [cvr,ih]
 | swap x y l=>simp only [cvr];omega
 | trans _ _ h1 h2=>exact h1.trans h2
def onRim (W H:Int) (a b:Pt):Prop:=(a.x=0∧b.x=0)∨(a.x=W∧b.x=W)∨(a.y=0∧b.y=0)∨(a.y=H∧b.y=H)
def inBox (W H:Int) (p:Pt):Prop:=(0≤p.x∧p.x≤W)∧0≤p.y∧p.y≤H
def sqr (W H:Int) (q:Pt):Int:=if (0≤q.x∧q.x < W)∧0≤q.y∧q.y < H then 1 else 0
def sumA:List Tri3→Int
 | []=>0
 | T :: L=>det T.A T.B T.C+sumA L
theorem sumA_append (l m:List Tri3):sumA (l ++ m)=sumA l+sumA m:=by
 induction l with
 | nil=>simp [sumA]
 | cons w l ih=>simp only [jB9,sumA,ih];omega
theorem sumA_perm {l m:List Tri3} (h:l.Perm m):sumA l=sumA m:=by
 induction h with
 | nil=>rfl
 | cons x _ ih=>simp only [sumA,ih]
 | swap x y l=>simp only [sumA];omega
 | trans _ _ h1 h2=>exact h1.trans h2
structure Tiles (W H:Int) (L:List Tri3):Prop where
 pos:∀ T∈L,0 < det T.A T.B T.C
 once:(L.flatMap ways).Nodup
 box:∀ T∈L,inBox W H T.A∧inBox W H T.B∧inBox W H T.C
 rim:∀ w∈L.flatMap ways,(w.2,w.1)∈L.flatMap ways∨onRim W H w.1 w.2
 cov:∀ K,0 < K→∀ q,cvr K (L.flatMap ways) q=sqr (K * W) (K * H) q
 area:sumA L=2 * (W * H)
theorem flat_perm {L M:List Tri3} (h:L.Perm M):(L.flatMap ways).Perm (M.flatMap ways):=h.flatMap_right _
theorem Tiles.perm {W H:Int} {L M:List Tri3} (h:Tiles W H L) (p:L.Perm M):Tiles W H M where
 pos:=fun T hT=>h.pos T (p.mem_iff.2 hT)
 once:=(flat_perm p).nodup_iff.1 h.once
 box:=fun T hT=>h.box T (p.mem_iff.2 hT)
 rim:=fun w hw=>by
  have:=h.rim w ((flat_perm p).mem_iff.2 hw)
  rwa [(flat_perm p).mem_iff] at this
 cov:=fun K hK q=>by rw [←zI6 (flat_perm p)];exact h.cov K hK q
 area:=by rw [←sumA_perm p];exact h.area
def hinK (K:Int) (T:Tri3) (q:Pt):Int:=cvr K (ways T) q
theorem zMp (K:Int) (T:Tri3) (q:Pt):hinK K T q=crs (sc K T.A) (sc K T.B) q+crs (sc K T.B) (sc K T.C) q+crs (sc K T.C) (sc K T.A) q:=by
 simp only [hinK,ways,cvr];omega
theorem zOr {K:Int} (hK:0 < K) {a b c:Pt} (h:0 < det a b c):0 < det (sc K a) (sc K b) (sc K c):=by
 rw [zNk];exact jAf hK (jAf hK h)
theorem hinK_nn {K:Int} (hK:0 < K) {T:Tri3} (h:0 < det T.A T.B T.C) (q:Pt):0≤hinK K T q∧hinK K T q≤1:=by
 rw [zMp];exact (zMo (zOr hK h) q).1
theorem cvr_nn {K:Int} (hK:0 < K):∀ {L:List Tri3},(∀ T∈L,0 < det T.A T.B T.C)→∀ q,0≤cvr K (L.flatMap ways) q
 | [],_,q=>by simp [cvr]
 | T :: L,h,q=>by
  rw [jA5,zCp];have:=cvr_nn hK (L:=L) (fun S hS=>h S (by simp [hS])) q;have:=(hinK_nn hK (h T (by simp)) q).1;unfold hinK at this;omega
theorem zN3 {K:Int} (hK:0 < K):∀ {L:List Tri3},(∀ T∈L,0 < det T.A T.B T.C)→∀ q,0 < cvr K (L.flatMap ways) q→∃ T∈L,0 < hinK K T q
 | [],_,q,h=>by simp [cvr] at h
 | T :: L,h,q,hc=>by
  rw [jA5,zCp] at hc;by_cases hT:0 < hinK K T q
  ·exact ⟨T,by simp,hT⟩
  ·unfold hinK at hT;obtain ⟨S,hS,h1⟩:=zN3 hK (L:=L) (fun S hS=>h S (by simp [hS])) q (by omega);exact ⟨S,by simp [hS],h1⟩
theorem zE7 {α:Type} [DecidableEq α] {L:List α} {a b:α} (ha:a∈L) (hb:b∈L) (h:a≠b):∃ M,L.Perm (a :: b :: M):=by
 have h1:=jEs ha;have hb':b∈L.erase a:=(jEt (fun e=>h e.symm)).2 hb;exact ⟨(L.erase a).erase b,h1.trans ((jEs hb').cons a)⟩
section
variable {W H:Int} {L:List Tri3} (h:Tiles W H L)
include h
theorem Tiles.apart {S T:Tri3} (hS:S∈L) (hT:T∈L) (hne:S≠T) {K:Int} (hK:0 < K) (q:Pt):¬ (hinK K S q=1∧hinK K T q=1):=by
 intro ⟨h1,h2⟩;obtain ⟨M,hM⟩:=zE7 hS hT hne;have h':=h.perm hM;have hc:=h'.cov K hK q;rw [jA5,jA5,zCp,zCp] at hc;have:=cvr_nn hK (L:=M) (fun U hU=>h'.pos U (by simp [hU])) q;unfold hinK at h1 h2;have:sqr (K * W) (K * H) q≤1:=by unfold sqr;split <;> omega
 omega
end
def near3 (M:Int) (a b c p v:Pt):Prop:=
 (0 < det (sc M a) (sc M b) p∨(det (sc M a) (sc M b) p=0∧0 < crd a b v)) ∧
 (0 < det (sc M b) (sc M c) p∨(det (sc M b) (sc M c) p=0∧0 < crd b c v)) ∧
 (0 < det (sc M c) (sc M a) p∨(det (sc M c) (sc M a) p=0∧0 < crd c a v))
def near (M:Int) (T:Tri3) (p v:Pt):Prop:=near3 M T.A T.B T.C p v
theorem zJo {M:Int} {a b c p v:Pt} (h:near3 M a b c p v):near3 M b c a p v:=⟨h.2.1,h.2.2,h.1⟩
theorem zEx {M K d c e:Int} (hM:0 < M) (hK:0 < K) (h:0 < d∨(d=0∧0 < c)) (hc:e=K * (K * d+M * c)) (hb:M * c+K > 0):0 < e:=by
 rw [hc];refine jAf hK ?_;rcases h with h | ⟨h,k⟩
 ·have : K ≤ K * d := by
    have k0:0≤K * (d - 1):=jA2 (by omega) (by omega);rw [jDd,Int.mul_one] at k0;omega
  omega
 ·rw [h,jAy,jE4];exact jAf hM k
theorem zCg (M K:Int) (a b p v:Pt):det (sc (K * M) a) (sc (K * M) b) ⟨K * p.x+v.x,K * p.y+v.y⟩=K * (K * det (sc M a) (sc M b) p+M * crd a b v):=by unfold det sc crd;grind
def big (M:Int) (T:Tri3) (v:Pt):Int:=(M * crd T.A T.B v).natAbs+(M * crd T.B T.C v).natAbs+(M * crd T.C T.A v).natAbs
theorem zO1 {M:Int} (hM:0 < M) {T:Tri3} {p v:Pt} (hp:0 < det T.A T.B T.C) (hn:near M T p v) {K:Int} (hK:big M T v < K):hinK (K * M) T ⟨K * p.x+v.x,K * p.y+v.y⟩=1:=by
 obtain ⟨h1,h2,h3⟩:=hn;unfold big at hK;have hK0:0 < K:=by omega
 rw [zMp];refine (zMo (zOr (jAf hK0 hM) hp) _).2.2 ?_ ?_ ?_
 ·exact zEx hM hK0 h1 (zCg M K _ _ p v) (by omega)
 ·exact zEx hM hK0 h2 (zCg M K _ _ p v) (by omega)
 ·exact zEx hM hK0 h3 (zCg M K _ _ p v) (by omega)
theorem Tiles.same {W H:Int} {L:List Tri3} (h:Tiles W H L) {S T:Tri3} (hS:S∈L) (hT:T∈L) {M:Int} (hM:0 < M) {p v:Pt} (h1:near M S p v) (h2:near M T p v):S=T:=by
 refine jAd fun hne=>?_;have hK:0 < big M S v+big M T v+1:=by unfold big;omega
 exact h.apart hS hT hne (jAf hK hM) _ ⟨zO1 hM (h.pos S hS) h1 (by unfold big;omega),zO1 hM (h.pos T hT) h2 (by unfold big;omega)⟩
theorem zGq (p:Pt):sc 1 p=p:=by rw [Pt.eq_iff];simp [sc]
def Cyc (T:Tri3) (a b c:Pt):Prop:=(a=T.A∧b=T.B∧c=T.C)∨(a=T.B∧b=T.C∧c=T.A)∨(a=T.C∧b=T.A∧c=T.B)
theorem Cyc.refl (T:Tri3):Cyc T T.A T.B T.C:=.inl ⟨rfl,rfl,rfl⟩
theorem Cyc.turn {T:Tri3} {a b c:Pt} (h:Cyc T a b c):Cyc T b c a:=by
 rcases h with ⟨h1,h2,h3⟩ | ⟨h1,h2,h3⟩ | ⟨h1,h2,h3⟩
 ·exact .inr (.inl ⟨h2,h3,h1⟩)
 ·exact .inr (.inr ⟨h2,h3,h1⟩)
 ·exact .inl ⟨h2,h3,h1⟩
theorem Cyc.det {T:Tri3} {a b c:Pt} (h:Cyc T a b c):det a b c=det T.A T.B T.C:=by
 rcases h with ⟨rfl,rfl,rfl⟩ | ⟨rfl,rfl,rfl⟩ | ⟨rfl,rfl,rfl⟩
 ·rfl
 ·rw [zAh]
 ·rw [zAh,zAh]
theorem Cyc.near {T:Tri3} {a b c:Pt} (h:Cyc T a b c) {M:Int} {p v:Pt} (hn:near3 M a b c p v):near M T p v:=by
 rcases h with ⟨rfl,rfl,rfl⟩ | ⟨rfl,rfl,rfl⟩ | ⟨rfl,rfl,rfl⟩
 ·exact hn
 ·exact zJo (zJo hn)
 ·exact zJo hn
theorem Cyc.ways {T:Tri3} {a b c:Pt} (h:Cyc T a b c):(ways T).Perm [(a,b),(b,c),(c,a)]:=by
 rcases h with ⟨rfl,rfl,rfl⟩ | ⟨rfl,rfl,rfl⟩ | ⟨rfl,rfl,rfl⟩
 ·exact .refl _
 ·exact jB5 (l₁:=[(T.A,T.B)]) (l₂:=[(T.B,T.C),(T.C,T.A)])
 ·exact jB5 (l₁:=[(T.A,T.B),(T.B,T.C)]) (l₂:=[(T.C,T.A)])
theorem Cyc.way {T:Tri3} {a b c:Pt} (h:Cyc T a b c):(a,b)∈Go.Proofs.YtogffkimgmlilaaGreat.ways T:=h.ways.mem_iff.2 (by simp)
theorem zBd {T:Tri3} {a b:Pt} (h:(a,b)∈ways T):∃ c,Cyc T a b c:=by
 simp only [ways,jA1,jB6,jA6,jAw] at h;rcases h with ⟨rfl,rfl⟩ | ⟨rfl,rfl⟩ | ⟨rfl,rfl⟩
 ·exact ⟨_,.inl ⟨rfl,rfl,rfl⟩⟩
 ·exact ⟨_,.inr (.inl ⟨rfl,rfl,rfl⟩)⟩
 ·exact ⟨_,.inr (.inr ⟨rfl,rfl,rfl⟩)⟩
def isCnr (T:Tri3) (p:Pt):Prop:=p=T.A∨p=T.B∨p=T.C
theorem zCf {T:Tri3} {p:Pt} (h:isCnr T p):∃ b c,Cyc T p b c:=by
 rcases h with rfl | rfl | rfl
 ·exact ⟨_,_,.inl ⟨rfl,rfl,rfl⟩⟩
 ·exact ⟨_,_,.inr (.inl ⟨rfl,rfl,rfl⟩)⟩
 ·exact ⟨_,_,.inr (.inr ⟨rfl,rfl,rfl⟩)⟩
theorem Cyc.cnr {T:Tri3} {a b c:Pt} (h:Cyc T a b c):isCnr T a:=by
 rcases h with ⟨h,_⟩ | ⟨h,_⟩ | ⟨h,_⟩
 ·exact .inl h
 ·exact .inr (.inl h)
 ·exact .inr (.inr h)
theorem Cyc.cnr_iff {T:Tri3} {a b c:Pt} (h:Cyc T a b c) (p:Pt):isCnr T p↔p=a∨p=b∨p=c:=by
 unfold isCnr;rcases h with ⟨rfl,rfl,rfl⟩ | ⟨rfl,rfl,rfl⟩ | ⟨rfl,rfl,rfl⟩ <;> constructor <;> (rintro (h | h | h) <;> simp [h])
def hasT (T:Tri3) (p:Pt):Prop:=0≤det T.A T.B p∧0≤det T.B T.C p∧0≤det T.C T.A p
def insT (T:Tri3) (p:Pt):Prop:=0 < det T.A T.B p∧0 < det T.B T.C p∧0 < det T.C T.A p
def edg (a b c p:Pt):Prop:=det a b p=0∧0 < det b c p∧0 < det c a p
theorem zHw {T:Tri3} {p:Pt} (hp:0 < det T.A T.B T.C) (h:hasT T p):isCnr T p∨insT T p∨∃ a b c,Cyc T a b c∧edg a b c p:=by
 obtain ⟨h1,h2,h3⟩:=h;have hs:=zEo T.A T.B T.C p;have hp2:0 < det T.B T.C T.A:=by rw [zAh];exact hp
 have hp3:0 < det T.C T.A T.B:=by rw [zAh,zAh];exact hp
 by_cases e1:det T.A T.B p=0 <;> by_cases e2:det T.B T.C p=0 <;> by_cases e3:det T.C T.A p=0
 ·omega
 ·exact .inl (.inr (.inl ((corner0 p hp2).2 ⟨e2,e1⟩)))
 ·exact .inl (.inl ((corner0 p hp).2 ⟨e1,e3⟩))
 ·exact .inr (.inr ⟨_,_,_,.inl ⟨rfl,rfl,rfl⟩,e1,by omega,by omega⟩)
 ·exact .inl (.inr (.inr ((corner0 p hp3).2 ⟨e3,e2⟩)))
 ·exact .inr (.inr ⟨_,_,_,.inr (.inl ⟨rfl,rfl,rfl⟩),e2,by omega,by omega⟩)
 ·exact .inr (.inr ⟨_,_,_,.inr (.inr ⟨rfl,rfl,rfl⟩),e3,by omega,by omega⟩)
 ·exact .inr (.inl ⟨by omega,by omega,by omega⟩)
theorem zLd {T:Tri3} {p:Pt} (hp:0 < det T.A T.B T.C) (h:isCnr T p):hasT T p∧¬ insT T p:=by
 have hp2:0 < det T.B T.C T.A:=by rw [zAh];exact hp
 have hp3:0 < det T.C T.A T.B:=by rw [zAh,zAh];exact hp
 have hs:=zEo T.A T.B T.C p;unfold hasT insT;rcases h with h | h | h
 ·have:=(corner0 p hp).1 h;omega
 ·have:=(corner0 p hp2).1 h;omega
 ·have:=(corner0 p hp3).1 h;omega
theorem zL9 {a b c p:Pt} (hp:0 < det a b c) (h:edg a b c p):p≠a∧p≠b∧p≠c:=by
 obtain ⟨h1,h2,h3⟩:=h;refine ⟨?_,?_,?_⟩ <;> rintro rfl
 ·have:=(corner0 p hp).1 rfl;omega
 ·have:=(corner0 p (a:=p) (b:=c) (c:=a) (by rw [zAh];exact hp)).1 rfl;omega
 ·omega
theorem near_ins {T:Tri3} {p:Pt} (h:insT T p) (v:Pt):near 1 T p v:=by
 unfold near near3;simp only [zGq];exact ⟨.inl h.1,.inl h.2.1,.inl h.2.2⟩
theorem near_has {T:Tri3} {p:Pt} (hp:0 < det T.A T.B T.C) (h:hasT T p):near 1 T p ⟨T.A.x+T.B.x+T.C.x - 3 * p.x,T.A.y+T.B.y+T.C.y - 3 * p.y⟩:=by
 unfold near near3;simp only [zGq];have e1:crd T.A T.B ⟨T.A.x+T.B.x+T.C.x - 3 * p.x,T.A.y+T.B.y+T.C.y - 3 * p.y⟩=det T.A T.B T.C - 3 * det T.A T.B p:=by unfold crd det;grind
 have e2:crd T.B T.C ⟨T.A.x+T.B.x+T.C.x - 3 * p.x,T.A.y+T.B.y+T.C.y - 3 * p.y⟩=det T.A T.B T.C - 3 * det T.B T.C p:=by unfold crd det;grind
 have e3:crd T.C T.A ⟨T.A.x+T.B.x+T.C.x - 3 * p.x,T.A.y+T.B.y+T.C.y - 3 * p.y⟩=det T.A T.B T.C - 3 * det T.C T.A p:=by unfold crd det;grind
 rw [e1,e2,e3];obtain ⟨h1,h2,h3⟩:=h;omega
theorem zF3 {a b c p v:Pt} (h:edg a b c p) (hv:0 < crd a b v):near3 1 a b c p v:=by
 unfold near3;simp only [zGq];exact ⟨.inr ⟨h.1,hv⟩,.inl h.2.1,.inl h.2.2⟩
section
variable {W H:Int} {L:List Tri3} (h:Tiles W H L)
include h
theorem Tiles.ins_one {S T:Tri3} (hS:S∈L) (hT:T∈L) {p:Pt} (h1:insT S p) (h2:hasT T p):S=T:=
 h.same hS hT (M:=1) (by omega) (near_ins h1 _) (near_has (h.pos T hT) h2)
end
theorem sq_nn (x:Int):0≤x * x:=by
 rcases jDp 0 x with h | h
 ·exact jA2 h h
 ·exact jBr h h
theorem zEy {a b d e:Pt} (hab:a≠b) (h:¬ (crd a b ⟨e.x - d.x,e.y - d.y⟩=0∧(b.x - a.x) * (e.x - d.x)+(b.y - a.y) * (e.y - d.y)≤0)):∃ v,0 < crd a b v∧0 < crd d e v:=by
 rcases jD3 (crd a b ⟨e.x - d.x,e.y - d.y⟩) 0 with k | k | k
 ·refine ⟨⟨(b.x - a.x) - (e.x - d.x),(b.y - a.y) - (e.y - d.y)⟩,?_,?_⟩
  ·have:crd a b ⟨(b.x - a.x) - (e.x - d.x),(b.y - a.y) - (e.y - d.y)⟩ = - crd a b ⟨e.x - d.x,e.y - d.y⟩:=by unfold crd;grind
   omega
  ·have:crd d e ⟨(b.x - a.x) - (e.x - d.x),(b.y - a.y) - (e.y - d.y)⟩ = - crd a b ⟨e.x - d.x,e.y - d.y⟩:=by unfold crd;grind
   omega
 ·refine ⟨⟨-(b.y - a.y),b.x - a.x⟩,?_,?_⟩
  ·have e1:crd a b ⟨-(b.y - a.y),b.x - a.x⟩=(b.x - a.x) * (b.x - a.x)+(b.y - a.y) * (b.y - a.y):=by unfold crd;grind
   rw [e1];have s1:=sq_nn (b.x - a.x);have s2:=sq_nn (b.y - a.y);rcases jBo s1 with s | s
   ·omega
   rcases jBo s2 with t | t
   ·omega
   exfalso
   apply hab;rw [Pt.eq_iff];have:=jA7.1 s.symm;have:=jA7.1 t.symm;omega
  ·have:crd d e ⟨-(b.y - a.y),b.x - a.x⟩=(b.x - a.x) * (e.x - d.x)+(b.y - a.y) * (e.y - d.y):=by unfold crd;grind
   rw [this];omega
 ·refine ⟨⟨(e.x - d.x) - (b.x - a.x),(e.y - d.y) - (b.y - a.y)⟩,?_,?_⟩
  ·have:crd a b ⟨(e.x - d.x) - (b.x - a.x),(e.y - d.y) - (b.y - a.y)⟩=crd a b ⟨e.x - d.x,e.y - d.y⟩:=by unfold crd;grind
   omega
  ·have:crd d e ⟨(e.x - d.x) - (b.x - a.x),(e.y - d.y) - (b.y - a.y)⟩=crd a b ⟨e.x - d.x,e.y - d.y⟩:=by unfold crd;grind
   omega
theorem zFi {a b c:Pt} (h:0 < det a b c):a≠b:=by
 rintro rfl;have:det a a c=0:=by unfold det;grind
 omega
theorem zDv {a b c p x:Pt} (hc:0 < det a b c) (hx:0 < det b a x) (h:edg a b c p):edg b a x p:=by
 obtain ⟨h1,h2,h3⟩:=h;have e1:det a b c * det a x p=det c a p * det b a x+det a b p * det a x c:=by unfold det;grind
 have e2:det a b c * det x b p=det b c p * det b a x - det a b p * det b x c:=by unfold det;grind
 rw [h1,jB1] at e1 e2;refine ⟨by rw [zAd];omega,?_,?_⟩
 ·exact (zAi hc).1 (by rw [e1];have:=jAf h3 hx;omega)
 ·exact (zAi hc).1 (by rw [e2];have:=jAf h2 hx;omega)
end
section
open Go.RowKit
theorem crd_zero_edge {a b d e p:Pt} (hde:d≠e) (h2:det d e p=0) (hk:crd a b ⟨e.x - d.x,e.y - d.y⟩=0) (h1:det a b p=0):det a b d=0∧det a b e=0:=by
 have e1:det a b e=det a b d+crd a b ⟨e.x - d.x,e.y - d.y⟩:=by unfold det crd;grind
 have e2:det a b d * (e.x - d.x) - crd a b ⟨e.x - d.x,e.y - d.y⟩ * (d.x - p.x)+(b.x - a.x) * det d e p=det a b p * (e.x - d.x):=by unfold det crd;grind
 have e3:det a b d * (e.y - d.y) - crd a b ⟨e.x - d.x,e.y - d.y⟩ * (d.y - p.y)+(b.y - a.y) * det d e p=det a b p * (e.y - d.y):=by unfold det crd;grind
 rw [h1,h2,hk] at e2 e3;simp only [jB1,jAy,jD1,jCi] at e2 e3;have z:det a b d=0:=by
  rcases jA7.1 e2 with k | k
  ·exact k
  ·rcases jA7.1 e3 with k' | k'
   ·exact k'
   ·exact absurd (Pt.eq_iff.2 ⟨by omega,by omega⟩) hde
 exact ⟨z,by omega⟩
theorem zM0 {W H:Int} {a b c d e f p:Pt} (hr:onRim W H a b) (hab:0 < det a b c) (hc:inBox W H c) (hf:inBox W H f) (hde:0 < det d e f) (h1:det a b p=0) (h2:det d e p=0) (hk:crd a b ⟨e.x - d.x,e.y - d.y⟩=0) (hd:(b.x - a.x) * (e.x - d.x)+(b.y - a.y) * (e.y - d.y)≤0):False:=by
 obtain ⟨z1,z2⟩:=crd_zero_edge (zFi hde) h2 hk h1;unfold inBox at hc hf;have nde:=zFi hde;unfold det at hab hde z1 z2;clear h1 h2 hk;rcases hr with ⟨r1,r2⟩ | ⟨r1,r2⟩ | ⟨r1,r2⟩ | ⟨r1,r2⟩
 all_goals (rw [r1,r2] at hab z1 z2 hd;simp only [jDg,jB1,jDh,jE4] at hab z1 z2 hd)
 ·have ya:b.y - a.y≠0:=fun e=>by rw [e] at hab;simp at hab
  have xd:d.x=0:=by
   rcases jA7.1 (jEz.1 z1) with k | k <;> omega
  have xe:e.x=0:=by
   rcases jA7.1 (jEz.1 z2) with k | k <;> omega
  rw [xd,xe] at hde;simp only [jDg,jB1,jDh,jCi] at hde hab;have n1:b.y - a.y < 0:=by
   refine jAd fun k=>?_;have:=jA2 (a:=b.y - a.y) (b:=c.x) (by omega) (by omega);omega
  have n2:e.y - d.y < 0:=by
   refine jAd fun k=>?_;have:=jA2 (a:=e.y - d.y) (b:=f.x) (by omega) (by omega);omega
  have:=jCt n1 n2;omega
 ·have ya:b.y - a.y≠0:=fun e=>by rw [e] at hab;simp at hab
  have xd:d.x=W:=by
   rcases jA7.1 (jEz.1 z1) with k | k <;> omega
  have xe:e.x=W:=by
   rcases jA7.1 (jEz.1 z2) with k | k <;> omega
  rw [xd,xe] at hde;simp only [jDg,jB1,jDh] at hde hab;have n1:0 < b.y - a.y:=by
   refine jAd fun k=>?_;have:=jBr (a:=b.y - a.y) (b:=c.x - W) (by omega) (by omega);omega
  have n2:0 < e.y - d.y:=by
   refine jAd fun k=>?_;have:=jBr (a:=e.y - d.y) (b:=f.x - W) (by omega) (by omega);omega
  have:=jAf n1 n2;omega
 ·simp only [jCi,jD1] at hab z1 z2 hd;have ya:b.x - a.x≠0:=fun e=>by rw [e] at hab;simp at hab
  have xd:d.y=0:=by
   rcases jA7.1 z1 with k | k <;> omega
  have xe:e.y=0:=by
   rcases jA7.1 z2 with k | k <;> omega
  rw [xd,xe] at hde;simp only [jDg,jB1,jCi] at hde;have n1:0 < b.x - a.x:=by
   refine jAd fun k=>?_;have:=jA2 (a := -(b.x - a.x)) (b:=c.y) (by omega) (by omega);rw [jE1] at this;omega
  have n2:0 < e.x - d.x:=by
   refine jAd fun k=>?_;have:=jA2 (a := -(e.x - d.x)) (b:=f.y) (by omega) (by omega);rw [jE1] at this;omega
  have:=jAf n1 n2;omega
 ·simp only [jCi,jD1] at hab z1 z2 hd;have ya:b.x - a.x≠0:=fun e=>by rw [e] at hab;simp at hab
  have xd:d.y=H:=by
   rcases jA7.1 z1 with k | k <;> omega
  have xe:e.y=H:=by
   rcases jA7.1 z2 with k | k <;> omega
  rw [xd,xe] at hde;simp only [jDg,jB1,jCi] at hde;have n1:b.x - a.x < 0:=by
   refine jAd fun k=>?_;have:=jA2 (a:=b.x - a.x) (b:=H - c.y) (by omega) (by omega);have e:(b.x - a.x) * (H - c.y) = - ((b.x - a.x) * (c.y - H)):=by grind
   omega
  have n2:e.x - d.x < 0:=by
   refine jAd fun k=>?_;have:=jA2 (a:=e.x - d.x) (b:=H - f.y) (by omega) (by omega);have e:(e.x - d.x) * (H - f.y) = - ((e.x - d.x) * (f.y - H)):=by grind
   omega
  have:=jCt n1 n2;omega
section
variable {W H:Int} {L:List Tri3} (h:Tiles W H L)
include h
omit h in
theorem mem_flat {T:Tri3} {a b:Pt} (hT:T∈L) (hw:(a,b)∈ways T):(a,b)∈L.flatMap ways:=jAh.2 ⟨T,hT,hw⟩
theorem Tiles.cyc_pos {T:Tri3} {a b c:Pt} (hT:T∈L) (hc:Cyc T a b c):0 < det a b c:=by rw [hc.det];exact h.pos T hT
theorem Tiles.cyc_box {T:Tri3} {a b c:Pt} (hT:T∈L) (hc:Cyc T a b c):inBox W H a:=by
 have:=h.box T hT;rcases hc with ⟨rfl,_⟩ | ⟨rfl,_⟩ | ⟨rfl,_⟩
 ·exact this.1
 ·exact this.2.1
 ·exact this.2.2
theorem Tiles.edg_two {S T:Tri3} (hS:S∈L) (hT:T∈L) {a b c p:Pt} (hc:Cyc S a b c) (hp:edg a b c p) (hh:hasT T p) (hn:¬ isCnr T p):T=S∨((b,a)∈ways T∧¬ onRim W H a b):=by
 have pS:=h.cyc_pos hS hc;rcases zHw (h.pos T hT) hh with k | k | ⟨d,e,f,hd,k⟩
 ·exact absurd k hn
 ·obtain ⟨q1,q2,q3⟩:=hp;have hv:hasT S p:=by
   unfold hasT;rcases hc with ⟨rfl,rfl,rfl⟩ | ⟨rfl,rfl,rfl⟩ | ⟨rfl,rfl,rfl⟩ <;> omega
  exact .inl (h.ins_one hT hS k hv)
 ·have pT:=h.cyc_pos hT hd;by_cases hg:crd a b ⟨e.x - d.x,e.y - d.y⟩=0∧(b.x - a.x) * (e.x - d.x)+(b.y - a.y) * (e.y - d.y)≤0
  ·rcases h.rim (a,b) (mem_flat hS hc.way) with hr | hr
   ·obtain ⟨U,hU,hw⟩:=jAh.1 hr;obtain ⟨x,hx⟩:=zBd hw;have pU:=h.cyc_pos hU hx;have hpU:=zDv pS pU hp;have hg':¬ (crd b a ⟨e.x - d.x,e.y - d.y⟩=0∧(a.x - b.x) * (e.x - d.x)+(a.y - b.y) * (e.y - d.y)≤0):=by
     intro ⟨g1,g2⟩;have e1:(a.x - b.x) * (e.x - d.x)+(a.y - b.y) * (e.y - d.y) = - ((b.x - a.x) * (e.x - d.x)+(b.y - a.y) * (e.y - d.y)):=by grind
     have z0:(b.x - a.x) * (e.x - d.x)+(b.y - a.y) * (e.y - d.y)=0:=by omega
     have g0:=hg.1;have i1:((b.x - a.x) * (b.x - a.x)+(b.y - a.y) * (b.y - a.y)) * (e.x - d.x)=(b.x - a.x) * ((b.x - a.x) * (e.x - d.x)+(b.y - a.y) * (e.y - d.y)) - (b.y - a.y) * crd a b ⟨e.x - d.x,e.y - d.y⟩:=by unfold crd;grind
     have i2:((b.x - a.x) * (b.x - a.x)+(b.y - a.y) * (b.y - a.y)) * (e.y - d.y)=(b.y - a.y) * ((b.x - a.x) * (e.x - d.x)+(b.y - a.y) * (e.y - d.y))+(b.x - a.x) * crd a b ⟨e.x - d.x,e.y - d.y⟩:=by unfold crd;grind
     rw [z0,g0] at i1 i2;simp only [jAy,jCi,jD1] at i1 i2;have s1:=sq_nn (b.x - a.x);have s2:=sq_nn (b.y - a.y);have hab:=zFi pS;have nz:¬ (b.x - a.x) * (b.x - a.x)+(b.y - a.y) * (b.y - a.y)=0:=by
      intro z;apply hab;rw [Pt.eq_iff];have u1:=jA7.1 (show (b.x - a.x) * (b.x - a.x)=0 by omega);have u2:=jA7.1 (show (b.y - a.y) * (b.y - a.y)=0 by omega);omega
     have u1:=(jA7.1 i1).resolve_left nz;have u2:=(jA7.1 i2).resolve_left nz;exact zFi pT (Pt.eq_iff.2 ⟨by omega,by omega⟩)
    obtain ⟨v,v1,v2⟩:=zEy (zFi pS).symm hg';have hUT:=h.same hU hT (M:=1) (by omega) (hx.near (zF3 hpU v1)) (hd.near (zF3 k v2));by_cases hr':onRim W H a b
    ·exact (zM0 hr' pS (h.cyc_box hS hc.turn.turn) (h.cyc_box hT hd.turn.turn) pT hp.1 k.1 hg.1 hg.2).elim
    ·exact .inr ⟨hUT▸hw,hr'⟩
   ·exact (zM0 hr pS (h.cyc_box hS hc.turn.turn) (h.cyc_box hT hd.turn.turn) pT hp.1 k.1 hg.1 hg.2).elim
  ·obtain ⟨v,v1,v2⟩:=zEy (zFi pS) hg;exact .inl (h.same hS hT (M:=1) (by omega) (hc.near (zF3 hp v1)) (hd.near (zF3 k v2))).symm
end
theorem zBu {L:List Tri3} (h:(L.flatMap ways).Nodup) {S T:Tri3} (hS:S∈L) (hT:T∈L) {w:Pt×Pt} (h1:w∈ways S) (h2:w∈ways T):S=T:=by
 refine jAd fun hne=>?_;obtain ⟨M,hM⟩:=zE7 hS hT hne;have h':=(flat_perm hM).nodup_iff.1 h;rw [jA5,jA5,jAz] at h';exact h'.2.2 w h1 w (jB4 _ h2) rfl
theorem zJp {p x y:Pt} (hp:0 < det p x y) {s t:Int} (hs:0 < s) (ht:0 < t):near3 1 p x y p ⟨s * (x.x - p.x)+t * (y.x - p.x),s * (x.y - p.y)+t * (y.y - p.y)⟩:=by
 unfold near3;simp only [zGq];refine ⟨.inr ⟨by unfold det;grind,?_⟩,.inl (by rw [zAh];exact hp),.inr ⟨by unfold det;grind,?_⟩⟩
 ·have e:crd p x ⟨s * (x.x - p.x)+t * (y.x - p.x),s * (x.y - p.y)+t * (y.y - p.y)⟩=t * det p x y:=by unfold crd det;grind
  rw [e];exact jAf ht hp
 ·have e:crd y p ⟨s * (x.x - p.x)+t * (y.x - p.x),s * (x.y - p.y)+t * (y.y - p.y)⟩=s * det p x y:=by unfold crd det;grind
  rw [e];exact jAf hs hp
theorem zI8 (a b p x y:Pt) (s t:Int):crd a b ⟨s * (x.x - p.x)+t * (y.x - p.x),s * (x.y - p.y)+t * (y.y - p.y)⟩=s * crd a b ⟨x.x - p.x,x.y - p.y⟩+t * crd a b ⟨y.x - p.x,y.y - p.y⟩:=by unfold crd;grind
theorem zJf {W H:Int} {a b c p x:Pt} (hr:onRim W H a b) (hab:0 < det a b c) (hc:inBox W H c) (hx:inBox W H x) (h1:det a b p=0) (hl:crd a b ⟨x.x - p.x,x.y - p.y⟩≤0):crd a b ⟨x.x - p.x,x.y - p.y⟩=0:=by
 have e:det a b x=det a b p+crd a b ⟨x.x - p.x,x.y - p.y⟩:=by unfold det crd;grind
 have k:0≤det a b x:=by
  unfold inBox at hc hx;clear e h1 hl;unfold det at hab ⊢;rcases hr with ⟨r1,r2⟩ | ⟨r1,r2⟩ | ⟨r1,r2⟩ | ⟨r1,r2⟩
  all_goals (rw [r1,r2] at hab ⊢;simp only [jDg,jB1,jDh,jCi] at hab ⊢)
  ·have n1 : b.y - a.y < 0 := by
     refine jAd fun k=>?_;have:=jA2 (a:=b.y - a.y) (b:=c.x) (by omega) (by omega);omega
   have:=jA2 (a := -(b.y - a.y)) (b:=x.x) (by omega) (by omega);rw [jE1] at this;exact this
  ·have n1 : 0 < b.y - a.y := by
     refine jAd fun k=>?_;have:=jBr (a:=b.y - a.y) (b:=c.x - W) (by omega) (by omega);omega
   have:=jA2 (a:=b.y - a.y) (b:=W - x.x) (by omega) (by omega);have e:(b.y - a.y) * (W - x.x) = - ((b.y - a.y) * (x.x - W)):=by grind
   omega
  ·have n1 : 0 < b.x - a.x := by
     refine jAd fun k=>?_;have:=jA2 (a := -(b.x - a.x)) (b:=c.y) (by omega) (by omega);rw [jE1] at this;omega
   exact jA2 (by omega) (by omega)
  ·have n1 : b.x - a.x < 0 := by
     refine jAd fun k=>?_;have:=jA2 (a:=b.x - a.x) (b:=H - c.y) (by omega) (by omega);have e:(b.x - a.x) * (H - c.y) = - ((b.x - a.x) * (c.y - H)):=by grind
     omega
   have:=jBr (a:=b.x - a.x) (b:=x.y - H) (by omega) (by omega);exact this
 omega
theorem zJm {a b p x y:Pt} (hab:a≠b) (hp:0 < det p x y) (h1:crd a b ⟨x.x - p.x,x.y - p.y⟩=0) (h2:crd a b ⟨y.x - p.x,y.y - p.y⟩=0):False:=by
 have i1:(b.x - a.x) * det p x y=(x.x - p.x) * crd a b ⟨y.x - p.x,y.y - p.y⟩ - (y.x - p.x) * crd a b ⟨x.x - p.x,x.y - p.y⟩:=by unfold crd det;grind
 have i2:(b.y - a.y) * det p x y=(x.y - p.y) * crd a b ⟨y.x - p.x,y.y - p.y⟩ - (y.y - p.y) * crd a b ⟨x.x - p.x,x.y - p.y⟩:=by unfold crd det;grind
 rw [h1,h2] at i1 i2;simp only [jAy,jCi] at i1 i2;have u1:=jA7.1 i1;have u2:=jA7.1 i2;exact hab (Pt.eq_iff.2 ⟨by omega,by omega⟩)
section
variable {W H:Int} {L:List Tri3} (h:Tiles W H L)
include h
theorem Tiles.cnr_all {S T:Tri3} (hS:S∈L) (hT:T∈L) {p:Pt} (hp:isCnr S p) (hh:hasT T p):isCnr T p:=by
 obtain ⟨x,y,hc⟩:=zCf hp;have pS:=h.cyc_pos hS hc;rcases zHw (h.pos T hT) hh with k | k | ⟨a,b,c,hd,k⟩
 ·exact k
 ·have e:=h.ins_one hT hS k (zLd (h.pos S hS) hp).1;rw [e] at k;exact absurd k (zLd (h.pos S hS) hp).2
 ·exfalso
  have pT:=h.cyc_pos hT hd;have nT:¬ isCnr T p:=fun g=>by
   obtain ⟨n1,n2,n3⟩:=zL9 pT k;rcases (hd.cnr_iff p).1 g with g | g | g
   ·exact n1 g
   ·exact n2 g
   ·exact n3 g
  have go:∀ s t:Int,0 < s→0 < t→0 < s * crd a b ⟨x.x - p.x,x.y - p.y⟩+t * crd a b ⟨y.x - p.x,y.y - p.y⟩→False:=by
   intro s t hs ht hv;have e:=h.same hS hT (M:=1) (by omega) (hc.near (zJp pS hs ht)) (hd.near (zF3 k (by rw [zI8];exact hv)));exact nT (e▸hp)
  generalize e1:crd a b ⟨x.x - p.x,x.y - p.y⟩=u at go
  generalize e2:crd a b ⟨y.x - p.x,y.y - p.y⟩=v at go
  by_cases hu:0 < u
  ·refine go (1+v.natAbs) 1 (by omega) (by omega) ?_;have:=jA2 (a:=(v.natAbs:Int)) (b:=u - 1) (by omega) (by omega);rw [jDd] at this;rw [jEk];omega
  by_cases hv:0 < v
  ·refine go 1 (1+u.natAbs) (by omega) (by omega) ?_;have:=jA2 (a:=(u.natAbs:Int)) (b:=v - 1) (by omega) (by omega);rw [jDd] at this;rw [jEk];omega
  rcases h.rim (a,b) (mem_flat hT hd.way) with hr | hr
  ·obtain ⟨U,hU,hw⟩:=jAh.1 hr;obtain ⟨z,hz⟩:=zBd hw;have pU:=h.cyc_pos hU hz;have kU:=zDv pT pU k;have f1:crd b a ⟨x.x - p.x,x.y - p.y⟩ = -u:=by rw [←e1];unfold crd;grind
   have f2:crd b a ⟨y.x - p.x,y.y - p.y⟩ = -v:=by rw [←e2];unfold crd;grind
   have nz:¬ (u=0∧v=0):=fun ⟨z1,z2⟩=>zJm (zFi pT) pS (e1.trans z1) (e2.trans z2);have e:=h.same hS hU (M:=1) (by omega) (hc.near (zJp pS (s:=1) (t:=1) (by omega) (by omega))) (hz.near (zF3 kU (by rw [zI8,f1,f2];omega)));have nU:¬ isCnr U p:=fun g=>by
    obtain ⟨n1,n2,n3⟩:=zL9 pU kU;rcases (hz.cnr_iff p).1 g with g | g | g
    ·exact n1 g
    ·exact n2 g
    ·exact n3 g
   exact nU (e▸hp)
  ·have hr:onRim W H a b:=hr;have z1:=zJf hr pT (h.cyc_box hT hd.turn.turn) (h.cyc_box hS hc.turn) k.1 (by omega);have z2:=zJf hr pT (h.cyc_box hT hd.turn.turn) (h.cyc_box hS hc.turn.turn) k.1 (by omega);exact zJm (zFi pT) pS z1 z2
end
def hasM (M:Int) (T:Tri3) (p:Pt):Prop:=0≤det (sc M T.A) (sc M T.B) p∧0≤det (sc M T.B) (sc M T.C) p∧0≤det (sc M T.C) (sc M T.A) p
theorem hasM_one (T:Tri3) (p:Pt):hasM 1 T p↔hasT T p:=by unfold hasM hasT;simp only [zGq]
def bigs (M:Int) (v:Pt):List Tri3→Int
 | []=>0
 | T :: L=>big M T v+bigs M v L
theorem zNb (M:Int) (v:Pt):∀ {L:List Tri3} {T:Tri3},T∈L→big M T v≤bigs M v L
 | S :: L,T,h=>by
  have p:∀ l:List Tri3,0≤bigs M v l:=fun l=>by
   induction l with
   | nil=>exact jE5 0
   | cons U l ih=>unfold bigs big;omega
  unfold bigs;rcases jA1.1 h with rfl | h
  ·have:=p L;omega
  ·have:=zNb M v h;unfold big at *;omega
theorem zGv {M K d c:Int} (hK:0 < K) (hb:(M * c).natAbs < K) (h:0≤K * (K * d+M * c)):0≤d:=by
 have h1:=(zAk hK).1 h;refine jAd fun hd=>?_;have:=jA2 (a:=K) (b := -1 - d) (by omega) (by omega);have e:K * (-1 - d) = -K - K * d:=by grind
 omega
theorem Tiles.covM {W H:Int} {L:List Tri3} (h:Tiles W H L) (hW:0 < W) (hH:0 < H) {M:Int} (hM:0 < M) {p:Pt} (hp:inBox (M * W) (M * H) p):∃ T∈L,hasM M T p:=by
 have mW:=jAf hM hW;have mH:=jAf hM hH
 let v:Pt:=⟨M * W - 2 * p.x,M * H - 2 * p.y⟩
 let K:Int:=2+bigs M v L
 have p0:∀ l:List Tri3,0≤bigs M v l:=fun l=>by
  induction l with
  | nil=>exact jE5 0
  | cons U l ih=>unfold bigs big;omega
 have hK2:2≤K:=by have:=p0 L;omega
 have hc:=h.cov (K * M) (jAf (by omega) hM) ⟨K * p.x+v.x,K * p.y+v.y⟩;have hs:sqr (K * M * W) (K * M * H) ⟨K * p.x+v.x,K * p.y+v.y⟩=1:=by
  unfold sqr;obtain ⟨⟨h1,h2⟩,h3,h4⟩:=hp;have i1:K * p.x+v.x=(K - 2) * p.x+M * W:=by show K * p.x+(M * W - 2 * p.x)=_;rw [jE7];omega
  have i2:K * p.y+v.y=(K - 2) * p.y+M * H:=by show K * p.y+(M * H - 2 * p.y)=_;rw [jE7];omega
  have j1:=jA2 (a:=K - 2) (b:=p.x) (by omega) h1;have j2:=jA2 (a:=K - 2) (b:=p.y) (by omega) h3;have j3:=jBs (c:=K - 2) h2 (by omega);have j4:=jBs (c:=K - 2) h4 (by omega);have l1:K * M * W=(K - 2) * (M * W)+2 * (M * W):=by grind
  have l2:K * M * H=(K - 2) * (M * H)+2 * (M * H):=by grind
  rw [jAc];show (0≤K * p.x+v.x∧K * p.x+v.x < K * M * W)∧0≤K * p.y+v.y∧K * p.y+v.y < K * M * H;rw [i1,i2,l1,l2];omega
 rw [hs] at hc;obtain ⟨T,hT,h1⟩:=zN3 (K:=K * M) (jAf (by omega) hM) h.pos _ (by rw [hc];omega);rw [zMp] at h1;have h2:=(zMo (zOr (jAf (show 0 < K by omega) hM) (h.pos T hT)) _).2.1 h1;rw [zCg,zCg,zCg] at h2;have hb:=zNb M v hT;refine ⟨T,hT,?_,?_,?_⟩
 ·exact zGv (K:=K) (by omega) (by unfold big at hb;omega) h2.1
 ·exact zGv (K:=K) (by omega) (by unfold big at hb;omega) h2.2.1
 ·exact zGv (K:=K) (by omega) (by unfold big at hb;omega) h2.2.2
theorem Tiles.covers {W H:Int} {L:List Tri3} (h:Tiles W H L) (hW:0 < W) (hH:0 < H) {p:Pt} (hp:inBox W H p):∃ T∈L,hasT T p:=by
 obtain ⟨T,hT,k⟩:=h.covM hW hH (M:=1) (by omega) (p:=p) (by simpa using hp);exact ⟨T,hT,(hasM_one T p).1 k⟩
theorem zG8 {W H:Int} {a b:Pt} (h:onRim W H a b):onRim W H b a:=by unfold onRim at *;omega
theorem Tiles.change {W H:Int} {L Out In M:List Tri3} (h:Tiles W H L) (hL:L.Perm (Out ++ M)) {rem add keep:List (Pt×Pt)} (ho:(Out.flatMap ways).Perm (rem ++ keep)) (hi:(In.flatMap ways).Perm (add ++ keep)) (hn:add.Nodup) (hf:∀ w∈add,w ∉ L.flatMap ways) (ha:∀ w∈add,(w.2,w.1)∈add∨onRim W H w.1 w.2) (hr:∀ w∈rem,(w.2,w.1)∈rem∨onRim W H w.1 w.2) (hc:∀ K,0 < K→∀ q,cvr K add q=cvr K rem q) (hA:sumA In=sumA Out) (hp:∀ T∈In,0 < det T.A T.B T.C) (hb:∀ T∈In,inBox W H T.A∧inBox W H T.B∧inBox W H T.C):Tiles W H (In ++ M):=by
 have h0:=h.perm hL;have o1:((Out ++ M).flatMap ways).Perm (rem ++ (keep ++ M.flatMap ways)):=by
  rw [jBe,←jAr];exact ho.append_right _
 have i1:((In ++ M).flatMap ways).Perm (add ++ (keep ++ M.flatMap ways)):=by
  rw [jBe,←jAr];exact hi.append_right _
 have n1:=o1.nodup_iff.1 h0.once;rw [jAz] at n1;have mem0:∀ w,w∈L.flatMap ways↔w∈rem ++ (keep ++ M.flatMap ways):=fun w=>by rw [(flat_perm hL).mem_iff,o1.mem_iff]
 refine ⟨?_,?_,?_,?_,?_,?_⟩
 ·intro T hT;rcases jAg.1 hT with hT | hT
  ·exact hp T hT
  ·exact h0.pos T (jBa _ hT)
 ·rw [i1.nodup_iff,jAz];refine ⟨hn,n1.2.1,fun a h1 b h2 e=>?_⟩;subst e;exact hf a h1 ((mem0 a).2 (jBa _ h2))
 ·intro T hT;rcases jAg.1 hT with hT | hT
  ·exact hb T hT
  ·exact h0.box T (jBa _ hT)
 ·intro w hw;rw [i1.mem_iff] at hw ⊢;rcases jAg.1 hw with hw | hw
  ·rcases ha w hw with k | k
   ·exact .inl (jB4 _ k)
   ·exact .inr k
  ·rcases h.rim w ((mem0 w).2 (jBa _ hw)) with k | k
   ·rcases jAg.1 ((mem0 _).1 k) with k | k
    ·rcases hr _ k with g | g
     ·exact absurd rfl (n1.2.2 w g w hw)
     ·exact .inr (zG8 g)
    ·exact .inl (jBa _ k)
   ·exact .inr k
 ·intro K hK q;have e0:=h0.cov K hK q;rw [zI6 o1,zCp] at e0;rw [zI6 i1,zCp,hc K hK q];exact e0
 ·have e0:=h0.area;rw [sumA_append] at e0 ⊢;rw [hA];exact e0
theorem Cyc.area {T:Tri3} {a b c:Pt} (h:Cyc T a b c) (L:List Tri3):sumA (T :: L)=Go.Proofs.YtogffkimgmlilaaGreat.det a b c+sumA L:=by rw [h.det];rfl
theorem Cyc.box {W H:Int} {T:Tri3} {a b c:Pt} (h:Cyc T a b c) (ha:inBox W H a) (hb:inBox W H b) (hc:inBox W H c):inBox W H T.A∧inBox W H T.B∧inBox W H T.C:=by
 rcases h with ⟨rfl,rfl,rfl⟩ | ⟨rfl,rfl,rfl⟩ | ⟨rfl,rfl,rfl⟩
 ·exact ⟨ha,hb,hc⟩
 ·exact ⟨hc,ha,hb⟩
 ·exact ⟨hb,hc,ha⟩
theorem Tiles.no_diag {W H:Int} {L:List Tri3} (h:Tiles W H L) {S:Tri3} (hS:S∈L) {a b c d:Pt} (hc:Cyc S a b c) (h1:0 < det c a d) (h2:0 < det d b c):(d,c) ∉ L.flatMap ways:=by
 intro hm;obtain ⟨T,hT,hw⟩:=jAh.1 hm;obtain ⟨e,he⟩:=zBd hw;have pS:=h.cyc_pos hS hc;have pT:=h.cyc_pos hT he.turn;have n1:d≠c:=by
  rintro rfl;have:det d a d=0:=by unfold det;grind
  omega
 have n2:d≠a:=by
  rintro rfl;have:det c d d=0:=by unfold det;grind
  omega
 have n3:d≠b:=by
  rintro rfl;have:det d d c=0:=by unfold det;grind
  omega
 generalize e1:crd c a ⟨e.x - c.x,e.y - c.y⟩=u
 generalize e2:crd b c ⟨e.x - c.x,e.y - c.y⟩=v
 have f1:crd c a ⟨d.x - c.x,d.y - c.y⟩=det c a d:=by unfold crd det;grind
 have f2:crd b c ⟨d.x - c.x,d.y - c.y⟩=det d b c:=by unfold crd det;grind
 let t:Int:=1+u.natAbs+v.natAbs
 have g1:t≤t * det c a d:=by
  have:=jA2 (a:=t) (b:=det c a d - 1) (by omega) (by omega);rw [jDd] at this;omega
 have g2:t≤t * det d b c:=by
  have:=jA2 (a:=t) (b:=det d b c - 1) (by omega) (by omega);rw [jDd] at this;omega
 have nT:=he.turn.near (zJp pT (s:=1) (t:=t) (by omega) (by omega));have nS:near 1 S c ⟨1 * (e.x - c.x)+t * (d.x - c.x),1 * (e.y - c.y)+t * (d.y - c.y)⟩:=by
  refine hc.turn.turn.near ?_;unfold near3;simp only [zGq];refine ⟨.inr ⟨by unfold det;grind,?_⟩,.inl pS,.inr ⟨by unfold det;grind,?_⟩⟩
  ·rw [zI8,e1,f1];omega
  ·rw [zI8,e2,f2];omega
 have hST:=h.same hS hT (M:=1) (by omega) nS nT;have:=he.cnr;rw [←hST,hc.cnr_iff] at this;rcases this with k | k | k
 ·exact n2 k
 ·exact n3 k
 ·exact n1 k
theorem zI0 {α:Type} {a b c d e f:α}:[a,b,c,d,e,f].Perm ([a,d] ++ [b,c,e,f]):=by
 refine List.Perm.cons _ ?_;exact (jB5 (l₁:=[b,c]) (l₂:=[d])).append_right [e,f]
theorem Tiles.flip {W H:Int} {L M:List Tri3} (h:Tiles W H L) {S R U V:Tri3} (hL:L.Perm (S :: R :: M)) {a b c d:Pt} (hS:Cyc S a b c) (hR:Cyc R b a d) (h1:0 < det c a d) (h2:0 < det d b c) (hU:Cyc U c a d) (hV:Cyc V d b c):Tiles W H (U :: V :: M):=by
 have mS:S∈L:=hL.mem_iff.2 (by simp);have mR:R∈L:=hL.mem_iff.2 (by simp);have x1:=h.no_diag mS hS h1 h2;have x2:=h.no_diag mR hR h2 h1;have n1:d≠c:=by
  rintro rfl;have:det d a d=0:=by unfold det;grind
  omega
 refine h.change (Out:=[S,R]) (In:=[U,V]) (M:=M) hL (rem:=[(a,b),(b,a)]) (add:=[(d,c),(c,d)]) (keep:=[(b,c),(c,a),(a,d),(d,b)]) ?_ ?_ ?_ ?_ ?_ ?_ ?_ ?_ ?_ ?_
 ·simp only [jA5,jBx,jAs];exact (hS.ways.append hR.ways).trans zI0
 ·simp only [jA5,jBx,jAs];refine (hU.turn.turn.ways.append hV.turn.turn.ways).trans ?_;refine zI0.trans ?_;refine List.Perm.append_left _ ?_;exact jB5 (l₁:=[(c,a),(a,d)]) (l₂:=[(d,b),(b,c)]) |>.trans
   ((List.Perm.swap (b,c) (d,b) [(c,a),(a,d)]).trans (List.Perm.cons _ (jB5 (l₁:=[(d,b)]) (l₂:=[(c,a),(a,d)]))))
 ·simp [n1]
 ·intro w hw;simp only [jA1,jA6,jAw] at hw;rcases hw with rfl | rfl
  ·exact x1
  ·exact x2
 ·intro w hw;simp only [jA1,jA6,jAw] at hw;rcases hw with rfl | rfl <;> simp
 ·intro w hw;simp only [jA1,jA6,jAw] at hw;rcases hw with rfl | rfl <;> simp
 ·intro K hK q;simp only [cvr];have e1:=zC0 (sc K c) (sc K d) q;have e2:=zC0 (sc K a) (sc K b) q;omega
 ·rw [hU.area,hV.area,hS.area,hR.area];simp only [sumA];unfold det;grind
 ·intro T hT;simp only [jA1,jA6,jAw] at hT;rcases hT with rfl | rfl
  ·rw [←hU.det];exact h1
  ·rw [←hV.det];exact h2
 ·have ba:=h.cyc_box mS hS;have bb:=h.cyc_box mS hS.turn;have bc:=h.cyc_box mS hS.turn.turn;have bd:=h.cyc_box mR hR.turn.turn;intro T hT;simp only [jA1,jA6,jAw] at hT;rcases hT with rfl | rfl
  ·exact hU.box bc ba bd
  ·exact hV.box bd bb bc
theorem way_cnr {T:Tri3} {w:Pt×Pt} (h:w∈ways T):isCnr T w.1∧isCnr T w.2:=by
 obtain ⟨a,b⟩:=w;obtain ⟨c,hc⟩:=zBd h;exact ⟨hc.cnr,hc.turn.cnr⟩
theorem zHy {L:List Tri3} {p:Pt} (hn:∀ T∈L,¬ isCnr T p) {w:Pt×Pt} (hw:w.1=p∨w.2=p):w ∉ L.flatMap ways:=by
 intro hm;obtain ⟨T,hT,hk⟩:=jAh.1 hm;have:=way_cnr hk;rcases hw with e | e <;> rw [e] at this
 ·exact hn T hT this.1
 ·exact hn T hT this.2
theorem zAb {a b c:Pt} (h:0 < det a b c):a≠b∧b≠c∧c≠a:=
 ⟨zFi h,zFi (c:=a) (by rw [zAh];exact h),zFi (c:=b) (by rw [zAh,zAh];exact h)⟩
theorem ins_cyc {T:Tri3} {a b c p:Pt} (hc:Cyc T a b c) (h:insT T p):0 < det a b p∧0 < det b c p∧0 < det c a p:=by
 unfold insT at h;rcases hc with ⟨rfl,rfl,rfl⟩ | ⟨rfl,rfl,rfl⟩ | ⟨rfl,rfl,rfl⟩
 ·exact h
 ·exact ⟨h.2.1,h.2.2,h.1⟩
 ·exact ⟨h.2.2,h.1,h.2.1⟩
section
variable {W H:Int} {L M:List Tri3} (h:Tiles W H L) {p:Pt} (hn:∀ T∈L,¬ isCnr T p) (hb:inBox W H p)
include h hn hb
theorem Tiles.cut3 {T P Q R:Tri3} (hL:L.Perm (T :: M)) {a b c:Pt} (hT:Cyc T a b c) (hi:insT T p) (hP:Cyc P a b p) (hQ:Cyc Q b c p) (hR:Cyc R c a p):Tiles W H (P :: Q :: R :: M):=by
 have mT:T∈L:=hL.mem_iff.2 (by simp);have pT:=h.cyc_pos mT hT;obtain ⟨i1,i2,i3⟩:=ins_cyc hT hi;obtain ⟨n1,n2,n3⟩:=zAb pT;have np:=hn T mT;rw [hT.cnr_iff] at np;simp only [jFd] at np;obtain ⟨q1,q2,q3⟩:=np;refine h.change (Out:=[T]) (In:=[P,Q,R]) (M:=M) hL (rem:=[]) (add:=[(b,p),(p,b),(c,p),(p,c),(a,p),(p,a)]) (keep:=[(a,b),(b,c),(c,a)]) ?_ ?_ ?_ ?_ ?_ ?_ ?_ ?_ ?_ ?_
 ·simp only [jA5,jBx,jAs,jBd];exact hT.ways
 ·simp only [jA5,jBx,jAs];refine (hP.ways.append (hQ.ways.append hR.ways)).trans ?_;refine (jF0.2 fun w=>?_);simp only [jB9,jBd,List.count_cons,List.count_nil];omega
 ·simp [q1,q2,q3,n2,n3,Ne.symm q1,Ne.symm q2,Ne.symm q3,Ne.symm n1]
 ·intro w hw;simp only [jA1,jA6,jAw] at hw;refine zHy hn ?_;rcases hw with rfl | rfl | rfl | rfl | rfl | rfl <;> simp
 ·intro w hw;simp only [jA1,jA6,jAw] at hw;rcases hw with rfl | rfl | rfl | rfl | rfl | rfl <;> simp
 ·intro w hw;simp at hw
 ·intro K hK q;simp only [cvr];have e1:=zC0 (sc K a) (sc K p) q;have e2:=zC0 (sc K b) (sc K p) q;have e3:=zC0 (sc K c) (sc K p) q;omega
 ·rw [hP.area,hQ.area,hR.area,hT.area];simp only [sumA];have:=zEo a b c p;omega
 ·intro X hX;simp only [jA1,jA6,jAw] at hX;rcases hX with rfl | rfl | rfl
  ·rw [←hP.det];exact i1
  ·rw [←hQ.det];exact i2
  ·rw [←hR.det];exact i3
 ·have ba:=h.cyc_box mT hT;have bb:=h.cyc_box mT hT.turn;have bc:=h.cyc_box mT hT.turn.turn;intro X hX;simp only [jA1,jA6,jAw] at hX;rcases hX with rfl | rfl | rfl
  ·exact hP.box ba bb hb
  ·exact hQ.box bb bc hb
  ·exact hR.box bc ba hb
omit h hn hb in
theorem zHc {a b c p:Pt} (hp:0 < det a b c) (he:edg a b c p):((a.y≤p.y∧p.y≤b.y)∨(b.y≤p.y∧p.y≤a.y))∧((a.x≤p.x∧p.x≤b.x)∨(b.x≤p.x∧p.x≤a.x)):=by
 obtain ⟨h1,h2,h3⟩:=he;have s:=zEo a b c p;have e1:det a b c * (p.y - a.y)=det c a p * (b.y - a.y)+det a b p * (c.y - a.y):=by unfold det;grind
 have e2:det a b c * (b.y - p.y)=det b c p * (b.y - a.y) - det a b p * (c.y - b.y):=by unfold det;grind
 have e3:det a b c * (p.x - a.x)=det c a p * (b.x - a.x)+det a b p * (c.x - a.x):=by unfold det;grind
 have e4:det a b c * (b.x - p.x)=det b c p * (b.x - a.x) - det a b p * (c.x - b.x):=by unfold det;grind
 rw [h1,jB1] at e1 e2 e3 e4;have key:∀ u v x:Int,det a b c * u=det c a p * x+0→det a b c * v=det b c p * x - 0→(0≤u∧0≤v)∨(u≤0∧v≤0):=by
  intro u v x k1 k2;rcases jDp 0 x with hx | hx
  ·have:=jA2 (a:=det c a p) (b:=x) (by omega) hx;have:=jA2 (a:=det b c p) (b:=x) (by omega) hx;exact .inl ⟨(zAk hp).1 (by omega),(zAk hp).1 (by omega)⟩
  ·have:=jC1 (a:=det c a p) (b:=x) (by omega) hx;have:=jC1 (a:=det b c p) (b:=x) (by omega) hx;have a1:=(zAk (b := -u) hp).1 (by rw [jCj];omega);have a2:=(zAk (b := -v) hp).1 (by rw [jCj];omega);exact .inr ⟨by omega,by omega⟩
 have k1:=key _ _ _ e1 e2;have k2:=key _ _ _ e3 e4;omega
omit h hn hb in
theorem sc_add {a b p:Pt} (h:det a b p=0) (hb:(a.y≤p.y∧p.y≤b.y)∨(b.y≤p.y∧p.y≤a.y)) {K:Int} (hK:0 < K) (q:Pt):crs (sc K a) (sc K b) q=crs (sc K a) (sc K p) q+crs (sc K p) (sc K b) q:=by
 refine crs_add (by rw [zNk,h];simp) ?_ q;have m:∀ x y:Int,x≤y→K * x≤K * y:=fun x y h=>jBs h (by omega);rcases hb with ⟨h1,h2⟩ | ⟨h1,h2⟩
 ·exact .inl ⟨m _ _ h1,m _ _ h2⟩
 ·exact .inr ⟨m _ _ h1,m _ _ h2⟩
theorem Tiles.cut2r {T Q R:Tri3} (hL:L.Perm (T :: M)) {a b c:Pt} (hT:Cyc T a b c) (hi:edg a b c p) (hr:onRim W H a b) (hQ:Cyc Q b c p) (hR:Cyc R c a p):Tiles W H (Q :: R :: M):=by
 have mT:T∈L:=hL.mem_iff.2 (by simp);have pT:=h.cyc_pos mT hT;have bw:=zHc pT hi;obtain ⟨i1,i2,i3⟩:=hi;obtain ⟨n1,n2,n3⟩:=zAb pT;have np:=hn T mT;rw [hT.cnr_iff] at np;simp only [jFd] at np;obtain ⟨q1,q2,q3⟩:=np;refine h.change (Out:=[T]) (In:=[Q,R]) (M:=M) hL (rem:=[(a,b)]) (add:=[(c,p),(p,c),(p,b),(a,p)]) (keep:=[(b,c),(c,a)]) ?_ ?_ ?_ ?_ ?_ ?_ ?_ ?_ ?_ ?_
 ·simp only [jA5,jBx,jAs];exact hT.ways
 ·simp only [jA5,jBx,jAs];refine (hQ.ways.append hR.ways).trans ?_;refine (jF0.2 fun w=>?_);simp only [jB9,jBd,List.count_cons,List.count_nil];omega
 ·simp [q1,q2,q3,n3,Ne.symm q2,Ne.symm q3,Ne.symm n2]
 ·intro w hw;simp only [jA1,jA6,jAw] at hw;refine zHy hn ?_;rcases hw with rfl | rfl | rfl | rfl <;> simp
 ·intro w hw;simp only [jA1,jA6,jAw] at hw;rcases hw with rfl | rfl | rfl | rfl
  ·simp
  ·simp
  ·right;unfold onRim at *;unfold inBox at hb;simp only;omega
  ·right;unfold onRim at *;unfold inBox at hb;simp only;omega
 ·intro w hw;simp only [jA1,jA6,jAw] at hw;rw [hw];exact .inr hr
 ·intro K hK q;simp only [cvr];have e1:=zC0 (sc K c) (sc K p) q;have e2:=sc_add i1 bw.1 hK q;omega
 ·rw [hQ.area,hR.area,hT.area];simp only [sumA];have:=zEo a b c p;omega
 ·intro X hX;simp only [jA1,jA6,jAw] at hX;rcases hX with rfl | rfl
  ·rw [←hQ.det];exact i2
  ·rw [←hR.det];exact i3
 ·have ba:=h.cyc_box mT hT;have bb:=h.cyc_box mT hT.turn;have bc:=h.cyc_box mT hT.turn.turn;intro X hX;simp only [jA1,jA6,jAw] at hX;rcases hX with rfl | rfl
  ·exact hQ.box bb bc hb
  ·exact hR.box bc ba hb
theorem Tiles.cut4 {T S Q R X Y:Tri3} (hL:L.Perm (T :: S :: M)) {a b c d:Pt} (hT:Cyc T a b c) (hS:Cyc S b a d) (hi:edg a b c p) (hQ:Cyc Q b c p) (hR:Cyc R c a p) (hX:Cyc X a d p) (hY:Cyc Y d b p):Tiles W H (Q :: R :: X :: Y :: M):=by
 have mT:T∈L:=hL.mem_iff.2 (by simp);have mS:S∈L:=hL.mem_iff.2 (by simp);have pT:=h.cyc_pos mT hT;have pS:=h.cyc_pos mS hS;have ho:=zDv pT pS hi;have bw:=zHc pT hi;obtain ⟨i1,i2,i3⟩:=hi;obtain ⟨o1,o2,o3⟩:=ho;obtain ⟨n1,n2,n3⟩:=zAb pT;obtain ⟨m1,m2,m3⟩:=zAb pS;have np:=hn T mT;have np':=hn S mS;rw [hT.cnr_iff] at np;rw [hS.cnr_iff] at np';simp only [jFd] at np np';obtain ⟨q1,q2,q3⟩:=np;obtain ⟨_,_,q4⟩:=np';have cd:c≠d:=by
  rintro rfl;rw [zAd] at pS;omega
 refine h.change (Out:=[T,S]) (In:=[Q,R,X,Y]) (M:=M) hL (rem:=[(a,b),(b,a)]) (add:=[(c,p),(p,c),(d,p),(p,d),(p,b),(b,p),(a,p),(p,a)]) (keep:=[(b,c),(c,a),(a,d),(d,b)]) ?_ ?_ ?_ ?_ ?_ ?_ ?_ ?_ ?_ ?_
 ·simp only [jA5,jBx,jAs];exact (hT.ways.append hS.ways).trans zI0
 ·simp only [jA5,jBx,jAs];refine (hQ.ways.append (hR.ways.append (hX.ways.append hY.ways))).trans ?_;refine (jF0.2 fun w=>?_);simp only [jB9,jBd,List.count_cons,List.count_nil];omega
 ·simp [q1,q2,q3,q4,n3,m1,m3,cd,Ne.symm q1,Ne.symm q2,Ne.symm q3,Ne.symm q4,Ne.symm n2,Ne.symm m2]
 ·intro w hw;simp only [jA1,jA6,jAw] at hw;refine zHy hn ?_;rcases hw with rfl | rfl | rfl | rfl | rfl | rfl | rfl | rfl <;> simp
 ·intro w hw;simp only [jA1,jA6,jAw] at hw;rcases hw with rfl | rfl | rfl | rfl | rfl | rfl | rfl | rfl <;> simp
 ·intro w hw;simp only [jA1,jA6,jAw] at hw;rcases hw with rfl | rfl <;> simp
 ·intro K hK q;simp only [cvr];have e1:=zC0 (sc K c) (sc K p) q;have e2:=zC0 (sc K d) (sc K p) q;have e3:=zC0 (sc K b) (sc K p) q;have e4:=zC0 (sc K a) (sc K p) q;have e5:=zC0 (sc K a) (sc K b) q;omega
 ·rw [hQ.area,hR.area,hX.area,hY.area,hT.area,hS.area];simp only [sumA];have:=zEo a b c p;have:=zEo b a d p;omega
 ·intro Z hZ;simp only [jA1,jA6,jAw] at hZ;rcases hZ with rfl | rfl | rfl | rfl
  ·rw [←hQ.det];exact i2
  ·rw [←hR.det];exact i3
  ·rw [←hX.det];exact o2
  ·rw [←hY.det];exact o3
 ·have ba:=h.cyc_box mT hT;have bb:=h.cyc_box mT hT.turn;have bc:=h.cyc_box mT hT.turn.turn;have bd:=h.cyc_box mS hS.turn.turn;intro Z hZ;simp only [jA1,jA6,jAw] at hZ;rcases hZ with rfl | rfl | rfl | rfl
  ·exact hQ.box bb bc hb
  ·exact hR.box bc ba hb
  ·exact hX.box ba bd hb
  ·exact hY.box bd bb hb
end
theorem zFz {W H:Int} (hW:0 < W) (hH:0 < H) {X Y:Tri3} (hX:Cyc X ⟨0,0⟩ ⟨W,0⟩ ⟨W,H⟩) (hY:Cyc Y ⟨0,0⟩ ⟨W,H⟩ ⟨0,H⟩):Tiles W H [X,Y]:=by
 have wp:([X,Y].flatMap ways).Perm [(⟨0,0⟩,⟨W,0⟩),(⟨W,0⟩,⟨W,H⟩),(⟨W,H⟩,⟨0,0⟩),(⟨0,0⟩,⟨W,H⟩),(⟨W,H⟩,⟨0,H⟩),(⟨0,H⟩,⟨0,0⟩)]:=by
  simp only [jA5,jBx,jAs];exact hX.ways.append hY.ways
 have pWH:=jAf hW hH;have dX:det ⟨0,0⟩ ⟨W,0⟩ ⟨W,H⟩=W * H:=by unfold det;grind
 have dY:det ⟨0,0⟩ ⟨W,H⟩ ⟨0,H⟩=W * H:=by unfold det;grind
 refine ⟨?_,?_,?_,?_,?_,?_⟩
 ·intro T hT;simp only [jA1,jA6,jAw] at hT;rcases hT with rfl | rfl
  ·rw [←hX.det,dX];exact pWH
  ·rw [←hY.det,dY];exact pWH
 ·rw [wp.nodup_iff];have w0:W≠0:=by omega
  have h0:H≠0:=by omega
  simp [w0,h0,Ne.symm w0,Ne.symm h0]
 ·have b1:inBox W H ⟨0,0⟩:=by unfold inBox;simp only;omega
  have b2:inBox W H ⟨W,0⟩:=by unfold inBox;simp only;omega
  have b3:inBox W H ⟨W,H⟩:=by unfold inBox;simp only;omega
  have b4:inBox W H ⟨0,H⟩:=by unfold inBox;simp only;omega
  intro T hT;simp only [jA1,jA6,jAw] at hT;rcases hT with rfl | rfl
  ·exact hX.box b1 b2 b3
  ·exact hY.box b1 b3 b4
 ·intro w hw;rw [wp.mem_iff] at hw ⊢;simp only [jA1,jA6,jAw] at hw;unfold onRim;rcases hw with rfl | rfl | rfl | rfl | rfl | rfl <;> simp
 ·intro K hK q;rw [zI6 wp];simp only [cvr];have e1:=zC0 (sc K ⟨W,H⟩) (sc K ⟨0,0⟩) q;have kW:=jAf hK hW;have kH:=jAf hK hH;have z1:crs (sc K ⟨0,0⟩) (sc K ⟨W,0⟩) q=0:=by unfold crs sc;simp only;(repeat' split) <;> omega
  have z2:crs (sc K ⟨W,H⟩) (sc K ⟨0,H⟩) q=0:=by unfold crs sc;simp only;(repeat' split) <;> omega
  have d1:det (sc K ⟨W,0⟩) (sc K ⟨W,H⟩) q=(K * H) * (K * W - q.x):=by unfold det sc;grind
  have d2:det (sc K ⟨0,H⟩) (sc K ⟨0,0⟩) q=(K * H) * q.x:=by unfold det sc;grind
  have s1:=zAi (b:=K * W - q.x) kH;have s2:=zBf (b:=q.x) kH;have v1:crs (sc K ⟨W,0⟩) (sc K ⟨W,H⟩) q=if (0≤q.y∧q.y < K * H)∧q.x < K * W then 1 else 0:=by
   unfold crs;rw [d1];generalize K * H * (K * W - q.x)=D at *
   unfold sc;simp only [jAy]
   (repeat' split) <;> omega
  have v2:crs (sc K ⟨0,H⟩) (sc K ⟨0,0⟩) q=if (0≤q.y∧q.y < K * H)∧q.x < 0 then -1 else 0:=by
   unfold crs;rw [d2];generalize K * H * q.x=D at *
   unfold sc;simp only [jAy]
   (repeat' split) <;> omega
  rw [z1,z2,v1,v2];unfold sqr
  (repeat' split) <;> omega
 ·rw [hX.area,hY.area,dX,dY];simp only [sumA];omega
end
end Go.Proofs.YtogffkimgmlilaaGreat
