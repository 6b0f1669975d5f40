/- Put together: EdgA, WalX, WalY, DocC, DocG, DocH, DocM. -/
import Derived.Test.YtogffkimgmlilaaGreatPfb38
import Derived.Test.YtogffkimgmlilaaGreatPfb33
set_option maxRecDepth 100000
set_option maxHeartbeats 8000000
set_option linter.all false
namespace Go.Proofs.YtogffkimgmlilaaGreat
open _root_.Go.Proofs.Tryz
section
open Go.RowKit
def edgeL (L:List Tri3) (a b:Pt):Prop:=(a,b)∈L.flatMap ways∨(b,a)∈L.flatMap ways
theorem edgeL.turn {L:List Tri3} {a b:Pt} (h:edgeL L a b):edgeL L b a:=h.elim .inr .inl
theorem zI5 (a b q:Pt):det a b q=ff (-(b.y - a.y)) (b.x - a.x) q - ff (-(b.y - a.y)) (b.x - a.x) a:=by unfold det ff;grind
theorem zNm {T:Tri3} {x y z p:Pt} (hc:Cyc T x y z) (hp:0 < det x y z) (ho:onS p x y=true):hasT T p:=by
 obtain ⟨n1,n2,n3⟩:=zAb hp;have hz:det x y p=0:=by
  rw [on_eq] at ho;unfold onR at ho;simp only [jA3,jA4] at ho;exact ho.2.2.2.1
 have k1:0≤det y z p:=by
  have:=(on_ff (-(z.y - y.y)) (z.x - y.x) n1 ho (m:=ff (-(z.y - y.y)) (z.x - y.x) y)).2 (by
   have e:=zI5 y z x;have:det y z x=det x y z:=zAh x y z;omega) (jE5 _)
  have e:=zI5 y z p;omega
 have k2:0≤det z x p:=by
  have:=(on_ff (-(x.y - z.y)) (x.x - z.x) n1 ho (m:=ff (-(x.y - z.y)) (x.x - z.x) x)).2 (jE5 _) (by
   have e:=zI5 z x y;have e2:det z x y=det x y z:=by unfold det;grind
   have e3:=zI5 z x x;have e4:det z x x=0:=by unfold det;grind
   omega)
  have e:=zI5 z x p;have e3:=zI5 z x x;have e4:det z x x=0:=by unfold det;grind
  omega
 rcases hc with ⟨rfl,rfl,rfl⟩ | ⟨rfl,rfl,rfl⟩ | ⟨rfl,rfl,rfl⟩
 ·exact ⟨by omega,k1,k2⟩
 ·exact ⟨k2,by omega,k1⟩
 ·exact ⟨k1,k2,by omega⟩
section
variable {W H:Int} {L:List Tri3} (h:Tiles W H L)
include h
theorem Tiles.way_of {a b:Pt} (hm:(a,b)∈L.flatMap ways):∃ T∈L,∃ c,Cyc T a b c∧0 < det a b c:=by
 obtain ⟨T,hT,k⟩:=jAh.1 hm;obtain ⟨c,hc⟩:=zBd k;exact ⟨T,hT,c,hc,h.cyc_pos hT hc⟩
theorem Tiles.corner_in {a b p:Pt} (he:edgeL L a b) (hp:someC L p) (ho:onS p a b=true):p=a∨p=b:=by
 have main:∀ {a b:Pt},(a,b)∈L.flatMap ways→onS p a b=true→p=a∨p=b:=by
  intro a b hm ho;obtain ⟨T,hT,c,hc,hpos⟩:=h.way_of hm;obtain ⟨S,hS,hcn⟩:=hp;rcases (hc.cnr_iff p).1 (h.cnr_all hS hT hcn (zNm hc hpos ho)) with k | k | k
  ·exact .inl k
  ·exact .inr k
  ·exfalso
   rw [on_eq] at ho;unfold onR at ho;simp only [jA3,jA4] at ho;have:=ho.2.2.2.1;rw [k] at this;omega
 rcases he with he | he
 ·exact main he ho
 ·refine (main he ?_).symm;rw [on_eq] at ho ⊢;unfold onR btw at ho ⊢;simp only [jA3,jA4] at ho ⊢;obtain ⟨v1,v2,v3,z,b1,b2⟩:=ho;have:=zAd a b p;exact ⟨v1,v3,v2,by omega,by omega,by omega⟩
theorem Tiles.cross_no {a b l r:Pt} (h1:(a,b)∈L.flatMap ways) (h2:(l,r)∈L.flatMap ways) (hx:Crs a b l r):False:=by
 obtain ⟨S,hS,s,cS,pS⟩:=h.way_of h1;obtain ⟨T,hT,u,cT,pT⟩:=h.way_of h2;obtain ⟨hl,hr,hbk,hfr⟩:=hx;have nab:=(zAb pS).1;have hcr:crd a b ⟨r.x - l.x,r.y - l.y⟩=det a b r - det a b l:=by unfold crd det;grind
 obtain ⟨v,v1,v2⟩:=zEy (a:=a) (b:=b) (d:=l) (e:=r) nab (fun k=>by rw [hcr] at k;omega);have hM:0 < det a b l - det a b r:=by omega
 have mul2:∀ {x y:Int},0 < x→0 < y→0 < x * y:=fun h1 h2=>jAf h1 h2;obtain ⟨M,eM⟩:∃ M,det a b l - det a b r=M:=⟨_,rfl⟩;rw [eM] at hM;obtain ⟨p,ep⟩:∃ p:Pt,p=⟨det a b l * r.x - det a b r * l.x,det a b l * r.y - det a b r * l.y⟩:=⟨_,rfl⟩;have a1:det (sc M a) (sc M b) p=0:=by rw [ep,←eM];unfold det sc;grind
 have a2:det (sc M b) (sc M s) p=M * (det l r b * det a b s):=by rw [ep,←eM];unfold det sc;grind
 have a3:det (sc M s) (sc M a) p=M * (det r l a * det a b s):=by rw [ep,←eM];unfold det sc;grind
 have b1:det (sc M l) (sc M r) p=0:=by rw [ep,←eM];unfold det sc;grind
 have b2:det (sc M r) (sc M u) p=M * (-(det a b r) * det l r u):=by rw [ep,←eM];unfold det sc;grind
 have b3:det (sc M u) (sc M l) p=M * (det a b l * det l r u):=by rw [ep,←eM];unfold det sc;grind
 have nS:near M S p v:=cS.near ⟨.inr ⟨a1,v1⟩,.inl (by rw [a2];exact mul2 hM (mul2 hfr pS)),.inl (by rw [a3];exact mul2 hM (mul2 hbk pS))⟩;have nT:near M T p v:=cT.near ⟨.inr ⟨b1,v2⟩,.inl (by rw [b2];exact mul2 hM (mul2 (by omega) pT)),.inl (by rw [b3];exact mul2 hM (mul2 hl pT))⟩;have e:=h.same hS hT hM nS nT;subst e;have z1:det a b a=0:=by unfold det;grind
 have z2:det a b b=0:=by unfold det;grind
 have m1:=(cS.cnr_iff l).1 cT.cnr;have m2:=(cS.cnr_iff r).1 cT.turn.cnr;rcases m1 with k | k | k
 ·rw [k] at hl;omega
 ·rw [k] at hl;omega
 ·rcases m2 with j | j | j
  ·rw [j] at hr;omega
  ·rw [j] at hr;omega
  ·rw [k] at hl;rw [j] at hr;omega
theorem Tiles.edge_box {a b:Pt} (he:edgeL L a b):(inBox W H a∧inBox W H b)∧(someC L a∧someC L b)∧a≠b:=by
 have main:∀ {a b:Pt},(a,b)∈L.flatMap ways→(inBox W H a∧inBox W H b)∧(someC L a∧someC L b)∧a≠b:=by
  intro a b hm;obtain ⟨T,hT,c,hc,hpos⟩:=h.way_of hm;exact ⟨⟨h.cyc_box hT hc,h.cyc_box hT hc.turn⟩,⟨⟨T,hT,hc.cnr⟩,T,hT,hc.turn.cnr⟩,(zAb hpos).1⟩
 rcases he with he | he
 ·exact main he
 ·obtain ⟨⟨x1,x2⟩,⟨x3,x4⟩,x5⟩:=main he;exact ⟨⟨x2,x1⟩,⟨x4,x3⟩,x5.symm⟩
theorem Tiles.edges_apart (hW:W < 16777216) (hH:H < 16777216) {a b c d:Pt} (e1:edgeL L a b) (e2:edgeL L c d) (hne:¬ ((a=c∧b=d)∨(a=d∧b=c))):meetS a b c d=0:=by
 have vb:∀ q,inBox W H q→vld q=true:=fun q hq=>by rw [zAm];unfold inBox at hq;omega
 obtain ⟨⟨ba,bb⟩,⟨ca,cb⟩,nab⟩:=h.edge_box e1;obtain ⟨⟨bc,bd⟩,⟨cc,cd⟩,ncd⟩:=h.edge_box e2;have s:Seg2 a b c d:=⟨vb _ ba,vb _ bb,vb _ bc,vb _ bd,nab,ncd⟩;have other:∀ {l r:Pt},edgeL L l r→Crs a b l r→(l,r)∈L.flatMap ways:=fun {l r} he hx=>by
  rcases he with he | he
  ·exact he
  ·exact (h.other ba bb hx).2 he
 have ncross:∀ {l r:Pt},edgeL L l r→Crs a b l r→False:=fun {l r} he hx=>by
  rcases e1 with k | k
  ·exact h.cross_no k (other he hx) hx
  ·exact h.cross_no k ((h.other ba bb hx).1 (other he hx)) hx.turn
 have inno:∀ {p x y:Pt},edgeL L x y→someC L p→tch p x y=0:=fun {p x y} he hp=>by
  have k:=tch_bd p x y;refine jBq fun hn=>?_;have ho:=zLu hn;rcases h.corner_in he hp ho with e | e
  ·apply hn;unfold tch;subst e;rw [zEc];split <;> simp
  ·apply hn;unfold tch;subst e;rw [zEc];(repeat' split) <;> simp_all
 refine jBq fun hn=>?_;by_cases hl:det a b c=0∧det a b d=0
 ·have hm:mil a b c d≠0:=by rw [←zBa s hl];exact hn
  rw [zD4 s] at hm;have hk:min (key a) (key b) < max (key c) (key d)∧min (key c) (key d) < max (key a) (key b):=by
   refine jBq fun k=>hm ?_;rw [jA0 k]
  have hl2:=zKr s hl;have n1:=key_n s;have n2:=key_n2 s;have nk:∀ {p q:Pt},vld p=true→vld q=true→key p=key q→p=q:=fun hp hq e=>zBo hp hq e;have on1:∀ {p:Pt},vld p=true→det a b p=0→someC L p→¬ (key a < key p∧key p < key b∨key b < key p∧key p < key a):=fun {p} vp hz hp k=>by
   have ho:=zDu vp s.va s.vb hz (by omega);rcases h.corner_in e1 hp ho with e | e <;> rw [e] at k <;> omega
  have on2:∀ {p:Pt},vld p=true→det c d p=0→someC L p→¬ (key c < key p∧key p < key d∨key d < key p∧key p < key c):=fun {p} vp hz hp k=>by
   have ho:=zDu vp s.vc s.vd hz (by omega);rcases h.corner_in e2 hp ho with e | e <;> rw [e] at k <;> omega
  have q1:=on1 s.vc hl.1 cc;have q2:=on1 s.vd hl.2 cd;have q3:=on2 s.va hl2.1 ca;have q4:=on2 s.vb hl2.2 cb;have:(key a=key c∧key b=key d)∨(key a=key d∧key b=key c):=by omega
  rcases this with ⟨k1,k2⟩ | ⟨k1,k2⟩
  ·exact hne (.inl ⟨nk s.va s.vc k1,nk s.vb s.vd k2⟩)
  ·exact hne (.inr ⟨nk s.va s.vd k1,nk s.vb s.vc k2⟩)
 ·rw [zH9,zEi s hl] at hn;split at hn
  ·rename_i hc
   have h1:meetR a b c d=1:=by rw [zEi s hl,jAc hc]
   rcases zMi h1 with k | k
   ·exact ncross e2 k
   ·exact ncross e2.turn k
  ·rw [inno e2 ca,inno e2 cb,inno e1 cc,inno e1 cd] at hn;exact hn rfl
end
end
section
open Go.RowKit Go.Sort Go.Lib Go.ChangeShapes Go.WideShapes Go.ChangeAt
theorem zIe {L:List Wl} (h:Apart L) {i j:Nat} (hi:i < L.length) (hj:j < L.length) (hij:i≠j):meetS L[i].A L[i].B L[j].A L[j].B=0:=by
 unfold Apart at h;rw [jB0] at h;rcases Nat.lt_or_gt_of_ne hij with h1 | h1
 ·exact h i j hi hj h1
 ·rw [←zGb];exact h j i hj hi h1
theorem kind_own {L:List Wl} (h:Apart L) (hg:∀ x∈L,GoodW x) {x:Wl} (hx:x∈L):kindW L x.A x.B=x.K:=by
 unfold kindW;cases hf:L.find? (isW x.A x.B) with
 | none=>
  have:=jDa.1 hf x hx;exact absurd (zGe.2 ⟨rfl,rfl⟩) this
 | some y=>
  have hy:=jC6 hf;have e:=zGe.1 (jE6 hf);obtain ⟨i,hi,rfl⟩:=jDe.1 hx;obtain ⟨j,hj,rfl⟩:=jDe.1 hy;by_cases hij:i=j
  ·subst hij;rfl
  ·exfalso
   have:=zIe h hj hi (Ne.symm hij);rw [e.1,e.2] at this;exact zEg (hg _ (jAx hi)) this
theorem add_zero {L:List Wl} {X:Wl} (h:addE L X=0):unm X=false∧clashW L X.A X.B=0:=by
 unfold addE at h;cases hu:unm X with
 | true=>rw [hu,jAc rfl] at h;cases h
 | false=>rw [hu,jA0 (by simp)] at h;exact ⟨rfl,h⟩
theorem set_new {L:List Wl} (hr:Ris L) (h:Apart L) (hg:∀ x∈L,GoodW x):srt cmpW L=L∧L.any unm=false∧(¬ ∃ (i:Nat) (h:i+1 < L.length),adjB L[i] L[i+1]=true)∧¬ ∃ (k:Nat) (h:k < L.length),hitB (L.take k) L[k]=true:=by
 refine ⟨(wholeW.srt_eq (jF4 L) (hr.imp fun h=>by omega)).symm,?_,?_,?_⟩
 ·rw [List.any_eq_false];intro x hx;rw [good_unm (hg x hx)];simp
 ·rintro ⟨i,hi,e⟩;unfold adjB at e;simp only [jA3,jA4] at e;have:=zIe h (show i < L.length by omega) hi (by omega);rw [e.1,e.2] at this;exact zEg (hg _ (jAx hi)) this
 ·rintro ⟨k,hk,e⟩;unfold hitB at e;rw [jEp] at e;obtain ⟨y,hy,hb⟩:=e;have hy2:y∈L.take k:=by
   have:=jAq.1 hy;have sub:∀ (M o:List Wl) (z:Wl),z∈M.foldl (fun o x=>o.filter (fun y => !gone x y) ++ [x]) o→z∈o∨z∈M:=by
    intro M;induction M with
    | nil=>intro o z hz;exact .inl hz
    | cons x M ih=>
     intro o z hz;rcases ih _ z hz with h1 | h1
     ·rcases jAg.1 h1 with h1 | h1
      ·exact .inl (jAq.1 h1).1
      ·exact .inr (jA1.2 (.inl (by simpa using h1)))
     ·exact .inr (jA1.2 (.inr h1))
   rcases sub (L.take k) [] y this.1 with h1 | h1
   ·cases h1
   ·exact h1
  obtain ⟨j,hj,rfl⟩:=jDr.1 hy2;unfold bar1 at hb;simp only [jA3,jA4] at hb;exact hb.2 (zIe h (by omega) hk (by omega))
theorem new_none (w:World):Calls prog 31 #[.slice none 0 0] w fun e w'=>∃ sb v,e=.returned (.tuple #[pt0 sb,()])∧SetAt w' sb v []∧w.heap.size≤sb∧(∀ g,v.ownBlock=some g→w.heap.size≤g)∧Below w w w':=by
 have hs:srt cmpW ([]:List Wl)=[]:=by simp [srt]
 refine (new_ok none 0 [] (by simp) (fun _ h=>by cases h) (fun _=>rfl) [] hs false rfl (zNq fun ⟨i,h,_⟩=>by simp at h) false rfl (zNq fun ⟨k,h,_⟩=>by simp at h) rfl w RowAt.nil).mono ?_;rintro e w' ⟨sb,v,rfl,h1,h2,h3,h4,h5⟩;exact ⟨sb,v,rfl,⟨h1,h2.base (jAt _),h4,by simp,by simp [Ris,Rising],by simp⟩,h3,fun g e=>(h2.lt g e).1,h5⟩
theorem zO0 {a:Option Addr} {c:Nat} {L:List Wl} (hL:L.length < 1000000) (hf:Flat a) (hz:a=none→L=[]) (hr:Ris L) (h:Apart L) (hg:∀ x∈L,GoodW x) (w:World) (hrow:RowAt cW 5 w a L):Calls prog 31 #[.slice a L.length c] w fun e w'=>∃ sb v,e=.returned (.tuple #[pt0 sb,()])∧SetAt w' sb v L∧w.heap.size≤sb∧(∀ g,v.ownBlock=some g→w.heap.size≤g)∧Below w w w':=by
 obtain ⟨h1,h2,h3,h4⟩:=set_new hr h hg;refine (new_ok a c L hL hf hz L h1 false rfl (zNq h3) false rfl (zNq h4) h2 w hrow).mono ?_;rintro e w' ⟨sb,v,rfl,h1,h2,h3,h4,h5⟩;exact ⟨sb,v,rfl,⟨h1,h2.base (jAt _),h4,by omega,hr,hg⟩,h3,fun g e=>(h2.lt g e).1,h5⟩
end
theorem zEv {L M:List Wl} (hp:L.Perm M) (h:Apart L):Apart M:=(hp.pairwise_iff (fun {x y} e=>by rw [←zGb];exact e)).1 h
section
open Go.RowKit Go.Sort
attribute [local go_sem] rOper rAt rUpon cell_set sg_i64 sg_u64 alloc_cell alloc_frozen
attribute [local go_sem 10000] pt_eql pt_neq wal_eql wal_neq
attribute [local irreducible] rWalk
def hitD (a b:Pt) (x:Wl):Bool:=decide (meetR a b x.A x.B≠0)
def clashD (L:List Wl) (a b:Pt):Int:=if mkOk a b 1=true then (if kindD L a b=0 then (if L.any (hitD a b)=true then 7 else 0) else 5) else 2
theorem any_next {p:Wl→Bool} {L:List Wl} {k:Nat} (hk:k < L.length) (h0:(L.take k).any p=false) (h1:p L[k]=false):(L.take (k+1)).any p=false:=by
 rw [jAb hk,List.any_append,h0];simp [h1]
theorem any_at {p:Wl→Bool} {L:List Wl} {k:Nat} (hk:k < L.length) (h1:p L[k]=true):L.any p=true:=jEp.2 ⟨_,jAx hk,h1⟩
theorem any_all {p:Wl→Bool} {L:List Wl} (h0:(L.take L.length).any p=false):L.any p=false:=by rwa [jAe (jA9 _)] at h0
theorem rclash_0 (db:Nat) (L:List Wl) (a b:Pt) (ho:mkOk a b 1=false) (w:World):Calls prog 109 #[pt0 db,a,b] w (Rt w (.int .i64 (clashD L a b))):=by
 have cm:=zFb a b 1;rw [ho] at cm;generalize mkW a b 1=W0 at cm
 have HV:Hid (clashD L a b=2):=hdd (by unfold clashD;rw [ho];rfl);clear ho
 go_enter func109,ntmps109
 go_wp2_with fail;refine qE2 fun W1 Ba Bb hw=>?_;refine qC2 (cm _) Ba Bb hw fun w2 Ba Bb hw F_ab=>?_;go_wp2
 go_ret
 exact ⟨zAp HV.out.symm,by have hl:=hw.size;go_grown⟩
theorem rclash_1 (db:Nat) (a0:Option Addr) (c n:Nat) (L:List Wl) (a b:Pt) (ho:mkOk a b 1=true) (hk:(kindD L a b != 0)=true) (w:World) (D:DocRd w db a0 c n L):Calls prog 109 #[pt0 db,a,b] w (Rt w (.int .i64 (clashD L a b))):=by
 have cm:=zFb a b 1;rw [ho] at cm;generalize mkW a b 1=W0 at cm
 have ck:∀ W,Below w w W→Calls prog 40 #[pt0 db,a,b] W fun e w'=>e=.returned (.int .i64 (kindD L a b))∧Below W W w':=fun W hW=>zCu db a0 c n L a b W (D.ee hW);have HV:Hid (clashD L a b=5):=hdd (by unfold clashD;rw [jAc ho,jA0 (by simpa using hk)]);generalize kindD L a b=kd at *
 clear ho D
 go_enter func109,ntmps109
 go_wp2_with fail;refine qE2 fun W1 Ba Bb hw=>?_;refine qC2 (cm _) Ba Bb hw fun w2 Ba Bb hw F_ab=>?_;go_wp2_with fail;refine zA4 fun W3 hW=>?_;replace Ba:Box W3 w [a.x,a.y] 54:=by rw [hW];exact Ba.old _
 replace Bb:Box W3 (w+1) [b.x,b.y] 54:=by rw [hW];exact Bb.old _
 replace hw:Below w w W3:=by have hl:=hw.size;rw [hW];go_grown
 clear hW;clear F_ab;refine qC2 (ck _ hw) Ba Bb hw fun w4 Ba Bb hw F_ab=>?_;go_wp2
 go_ret
 exact ⟨zAp HV.out.symm,by have hl:=hw.size;go_grown⟩
def clashD2 (L:List Wl) (a b:Pt):Int:=if L.any (hitD a b)=true then 7 else 0
theorem rclash_2 (db:Nat) (a0:Option Addr) (c n:Nat) (L:List Wl) (a b:Pt) (ho:mkOk a b 1=true) (hk:(kindD L a b != 0)=false) (w:World) (D:DocRd w db a0 c n L):Calls prog 109 #[pt0 db,a,b] w (Rt w (.int .i64 (clashD L a b))):=by
 have cm:=zFb a b 1;rw [ho] at cm;generalize mkW a b 1=W0 at cm
 have ck:∀ W,Below w w W→Calls prog 40 #[pt0 db,a,b] W fun e w'=>e=.returned (.int .i64 (kindD L a b))∧Below W W w':=fun W hW=>zCu db a0 c n L a b W (D.ee hW);have HV:Hid (clashD L a b=clashD2 L a b):=hdd (by unfold clashD;rw [jAc ho,jAc (by simpa using hk)];rfl);have hdb:=D.box.lt;have HM:=hdd D.len;have hn:n≤1000000:=D.len▸D.le;have HD:=hdd D;generalize kindD L a b=kd at *
 clear ho D
 go_enter func109,ntmps109
 go_wp2_with fail;refine qE2 fun W1 Ba Bb hw=>?_;refine qC2 (cm _) Ba Bb hw fun w2 Ba Bb hw F_ab=>?_;go_wp2_with fail;refine zA4 fun W3 hW=>?_;replace Ba:Box W3 w [a.x,a.y] 54:=by rw [hW];exact Ba.old _
 replace Bb:Box W3 (w+1) [b.x,b.y] 54:=by rw [hW];exact Bb.old _
 replace hw:Below w w W3:=by have hl:=hw.size;rw [hW];go_grown
 clear hW;clear F_ab;refine qC2 (ck _ hw) Ba Bb hw fun w4 Ba Bb hw F_ab=>?_;go_wp2_with fail;clear F_ab;clear ck cm
 go_loopw [9] (fun vi wr=>∃ k:Nat,k≤n∧vi=.int .i64 k∧Hid ((L.take k).any (hitD a b)=false)∧Below w w wr∧Box wr w [a.x,a.y] 54∧Box wr (w+1) [b.x,b.y] 54) (fun vi _=>n - (intOf vi).toNat)
 case atStart=>exact ⟨0,jAt _,rfl,hdd rfl,hw,Ba,Bb⟩
 case round=>
  clear Ba Bb hw;obtain ⟨k,hk,rfl,HF,hwr,BA,BB⟩:=hrel;have BD:=(HD.out.ee hwr).box;by_cases hlt:k < n
  ·have hkL:k < L.length:=by rw [HM.out];exact hlt
   obtain ⟨ad,A,ea,eA,hA⟩:=(HD.out.ee hwr).row.five (j:=k) hkL;have HX:Hid (L[k]=L[k]):=hdd rfl;generalize hX:L[k]=X at hA HX
   clear HX;have HX:=hdd hX;clear hX;have c5:=zHm a b X.A X.B;have HI:Hid (hitD a b X=decide (meetR a b X.A X.B≠0)):=hdd rfl;generalize meetR a b X.A X.B=z at c5 HI
   obtain ⟨s0,s1,s2,s3,s4⟩:=hA.cells;have g_ABD:=J3 BA.cells BB.cells BD.cells;obtain ⟨d0,d1,d2,d3⟩:=BD.f;have q0:(k:Int) < (n:Int):=by omega
   subst ea;cases ez:(z != 0) with
   | true=>
    have HE:Hid (L.any (hitD a b)=true):=hdd (any_at hkL (by rw [HX.out,HI.out];simpa using ez));clear hA HX HI;go_wp2_with fail;refine (wp_region_tail 19 (by kernel_rfl) (by kernel_rfl) (C:=fun w'=>∃ p:Regrown,w'=grow (redrawn wr p.d) p.os) rgB ?_);simp only [tK1,tK0,dP1,dP0];refine wkx ?_;intro w2 hb;have hw2:=(upB hwr hb);clear s0 s1 s2 s3 s4 g_ABD hb d0 d1 d2 d3;go_wp2
    go_ret
    exact ⟨zAp (by rw [HV.out];unfold clashD2;rw [HE.out];rfl),hw2⟩
   | false=>
    have HE:Hid ((L.take (k+1)).any (hitD a b)=false):=hdd (any_next hkL HF.out (by rw [HX.out,HI.out];simpa using ez));clear hA HX HI;go_wp2_with fail;refine (wp_region_tail 19 (by kernel_rfl) (by kernel_rfl) (C:=fun w'=>∃ p:Regrown,w'=grow (redrawn wr p.d) p.os) rgB ?_);simp only [tK1,tK0,dP1,dP0];refine wkx ?_;intro w2 hb;have hw2:=(upB hwr hb);have BA2:=BA.ee hb;have BB2:=BB.ee hb;clear s0 s1 s2 s3 s4 g_ABD hb d0 d1 d2 d3;go_wp2
    go_roundw
    case rel=>exact ⟨k+1,hlt,by go_num,HE,hw2,BA2,BB2⟩
    case measure=>simp [intOf];omega
  ·obtain rfl:k=n:=by omega
   have HE:Hid (L.any (hitD a b)=false):=hdd (any_all (by rw [HM.out];exact HF.out));obtain ⟨d0,d1,d2,d3⟩:=BD.f;go_wp2
   go_ret
   exact ⟨zAp (by rw [HV.out];unfold clashD2;rw [HE.out];rfl),hwr⟩
theorem rclash_any (db:Nat) (a0:Option Addr) (c n:Nat) (L:List Wl) (a b:Pt) (w:World) (D:DocRd w db a0 c n L):Calls prog 109 #[pt0 db,a,b] w (Rt w (.int .i64 (clashD L a b))):=by
 cases ho:mkOk a b 1 with
 | false=>exact rclash_0 db L a b ho w
 | true=>
  cases hk:(kindD L a b != 0) with
  | true=>exact rclash_1 db a0 c n L a b ho hk w D
  | false=>exact rclash_2 db a0 c n L a b ho hk w D
def addDE (L:List Wl) (X:Wl):Int:=if unm X=true then 2 else clashD L X.A X.B
def AddAt (L:List Wl) (X:Wl) (r:Int) (L':List Wl):Prop:=r=addDE L X∧((r≠0∧L'=L)∨(r=0∧∃ k,PutAt L X k∧L'=L.take k ++ X :: L.drop k))
inductive AddsOk:List Wl→List Wl→Prop where
 | nil:AddsOk [] []
 | snoc {I S S':List Wl} {x:Wl}:AddsOk I S→AddAt S x 0 S'→AddsOk (I ++ [x]) S'
theorem AddsOk.len {I S:List Wl} (h:AddsOk I S):S.length=I.length:=by
 induction h with
 | nil=>rfl
 | snoc _ ha ih=>
  obtain ⟨_,⟨h0,_⟩ | ⟨_,k,hp,rfl⟩⟩:=ha
  ·exact absurd rfl h0
  ·have:=hp.1;simp only [jAa,jB3,jAm,jBm,jCy];omega
theorem AddsOk.sub {I S:List Wl} (h:AddsOk I S):∀ x∈S,x∈I:=by
 induction h with
 | nil=>exact fun x h=>h
 | snoc _ ha ih=>
  obtain ⟨_,⟨h0,_⟩ | ⟨_,k,hp,rfl⟩⟩:=ha
  ·exact absurd rfl h0
  ·intro x hx;rcases jAg.1 hx with hx | hx
   ·exact jB4 _ (ih x (jC7 hx))
   ·rcases jA1.1 hx with rfl | hx
    ·exact jBa _ jAo
    ·exact jB4 _ (ih x (jCq hx))
end
section
open Go.RowKit Go.Sort Go.Lib
theorem zJ3 {p q:Wl→Bool}:∀ {L:List Wl},(∀ x∈L,p x=q x)→L.find? p=L.find? q
 | [],_=>rfl
 | x :: L,h=>by
  rw [List.find?_cons,List.find?_cons,h x jAo,zJ3 fun y hy=>h y (jAi _ hy)]
theorem isE_lo {p q:Pt} {x:Wl} (hx:GoodW x):isE p q x=isW (lo2 p q) (hi2 p q) x:=by
 rw [jCs];simp only [isE,isW,jD6,jA3,jA4];have hab:=hx.ab;have hn:=zAv p q;unfold lo2 hi2;by_cases h:cmpP q p < 0
 ·rw [jAc h,jAc h];constructor
  ·rintro (⟨e1,e2⟩ | h2)
   ·rw [e1,e2] at hab;omega
   ·exact h2
  ·exact fun h2=>.inr h2
 ·rw [jA0 h,jA0 h];constructor
  ·rintro (h1 | ⟨e1,e2⟩)
   ·exact h1
   ·rw [e1,e2] at hab;exact absurd hab h
  ·exact fun h2=>.inl h2
theorem kindD_eq {L:List Wl} (hg:∀ x∈L,GoodW x) (p q:Pt):kindD L p q=kindW L (lo2 p q) (hi2 p q):=by
 unfold kindD kindW;rw [zJ3 (q:=isW (lo2 p q) (hi2 p q)) fun x hx=>isE_lo (hg x hx)];all_goals (cases L.find? (isW (lo2 p q) (hi2 p q)) <;> rfl)
theorem zMr {a b:Pt} {k:Int} (h:mkOk a b k=true):GoodW ⟨lo2 a b,hi2 a b,k⟩:=by
 unfold mkOk mkK at h;simp only [jA3,jD6,jA4,jDw,jC3] at h;obtain ⟨hk,hab,ha,hb⟩:=h;have hn:=zAv a b;have h0:cmpP a b≠0:=fun e=>hab (cmpP_eq0.1 e);unfold lo2 hi2;by_cases h:cmpP b a < 0
 ·rw [jAc h,jAc h];exact ⟨hb,ha,h,hk⟩
 ·rw [jA0 h,jA0 h];exact ⟨ha,hb,by show cmpP a b < 0;omega,hk⟩
theorem meet_lo (a b c d:Pt):meetS c d (lo2 a b) (hi2 a b)=meetS a b c d:=by
 rw [←zGb];unfold lo2 hi2;by_cases h:cmpP b a < 0
 ·rw [jAc h,jAc h,zMg]
 ·rw [jA0 h,jA0 h]
theorem zKx {y z:Wl} (hy:GoodW y) (hz:GoodW z) (h:cmpP y.B z.A≤0):meetS y.A y.B z.A z.B=0:=by
 have kY:key y.A < key y.B:=(zF8 hy.va hy.vb).1 hy.ab;have kZ:key z.A < key z.B:=(zF8 hz.va hz.vb).1 hz.ab;have fk:∀ p:Pt,ff 16777216 1 p=key p:=fun p=>by unfold ff key;omega
 by_cases h0:cmpP y.B z.A=0
 ·have e:=cmpP_eq0.1 h0;have e2:peqI y.B.x y.B.y z.A.x z.A.y=true:=by rw [zAz];simp [e]
  unfold meetS
  repeat' split
  all_goals first | rfl | skip
  ·unfold mil;have h1:¬ cmpP y.B y.A < 0:=by have:=hy.ab;rw [zAv];omega
   have h2:¬ cmpP z.B z.A < 0:=by have:=hz.ab;rw [zAv];omega
   rw [show lo2 z.A z.B=z.A by unfold lo2;rw [jA0 h2],show hi2 y.A y.B=y.B by unfold hi2;rw [jA0 h1],←e,cmpP_eq0.2 rfl];split <;> simp
 ·have h1:cmpP y.B z.A < 0:=by omega
  have hk:key y.B < key z.A:=(zF8 hy.vb hz.va).1 h1;exact meet_apart 16777216 1 (key z.A) (by rw [fk];omega) (by rw [fk];omega) (by rw [fk];omega) (by rw [fk];omega)
end
end Go.Proofs.YtogffkimgmlilaaGreat
