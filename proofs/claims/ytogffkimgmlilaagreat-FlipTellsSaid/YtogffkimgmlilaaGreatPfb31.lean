/- Put together: GeoD, GeoE. -/
import Derived.Test.YtogffkimgmlilaaGreatPfb28
import Derived.Test.YtogffkimgmlilaaGreatPfb30
set_option maxRecDepth 100000
set_option maxHeartbeats 8000000
set_option linter.all false
namespace Go.Proofs.YtogffkimgmlilaaGreat
section
open Go.RowKit
theorem zB2 {a b c:Pt} (va:vld a=true) (vb:vld b=true) (vc:vld c=true) (h:0 < det a b c):Cyc (mk a b c) a b c∧valT (mk a b c)=true:=by
 have o:ori a b c=1:=by rw [ori_v va vb vc,sgn_pos];exact h
 have h0:¬ ori a b c=0:=by omega
 obtain ⟨_,_,_,n1,n2,n3⟩:=zMc h0;have e0:mk a b c=mkT a b c:=by unfold mk;rw [jA0 h0,jAc o]
 refine ⟨?_,(mk_ok h0).1⟩;rw [e0];rcases zEf va vb vc n1 n2 n3 with ⟨_,_,e⟩ | ⟨_,_,e⟩ | ⟨_,_,e⟩ <;> rw [e]
 ·exact .inl ⟨rfl,rfl,rfl⟩
 ·exact .inr (.inr ⟨rfl,rfl,rfl⟩)
 ·exact .inr (.inl ⟨rfl,rfl,rfl⟩)
theorem zLs {T:Tri3} (h:valT T=true):key T.A < key T.B∧key T.A < key T.C:=by
 obtain ⟨va,vb,vc,hD⟩:=zFk h;obtain ⟨n1,n2,n3⟩:=zAb hD;rw [zJe] at h;unfold valS lds at h;rw [zC1 va vb,zC1 va vc] at h;simp only [jA3,jA4] at h;have k1:key T.A≠key T.B:=fun e=>n1 (zBo va vb e);have k2:key T.A≠key T.C:=fun e=>n3 (zBo va vc e).symm;omega
theorem val_cyc {S T:Tri3} (hS:valT S=true) (hT:valT T=true) (h:Cyc S T.A T.B T.C):S=T:=by
 have s:=zLs hS;have t:=zLs hT;rcases h with ⟨h1,h2,h3⟩ | ⟨h1,h2,h3⟩ | ⟨h1,h2,h3⟩
 ·cases S;cases T;simp_all
 ·rw [h1,h2,h3] at t;omega
 ·rw [h1,h2,h3] at t;omega
def part (p a b:Pt):List Tri3:=if ori a b p=0 then [] else [mk a b p]
def cutP (p:Pt) (T:Tri3):List Tri3:=part p T.A T.B ++ (part p T.B T.C ++ part p T.C T.A)
theorem zB3 {p a b:Pt} (va:vld a=true) (vb:vld b=true) (vp:vld p=true) (h:0 < det a b p):part p a b=[mk a b p]:=by
 unfold part;rw [jA0];rw [ori_v va vb vp,zBk];omega
theorem zDt {p a b:Pt} (va:vld a=true) (vb:vld b=true) (vp:vld p=true) (h:det a b p=0):part p a b=[]:=by
 unfold part;rw [jAc];rw [ori_v va vb vp,h];rfl
theorem zD0 {T:Tri3} {a b c:Pt} (h:Cyc T a b c) (p:Pt):(cutP p T).Perm (part p a b ++ (part p b c ++ part p c a)):=by
 unfold cutP;rcases h with ⟨rfl,rfl,rfl⟩ | ⟨rfl,rfl,rfl⟩ | ⟨rfl,rfl,rfl⟩
 ·exact .refl _
 ·exact List.perm_append_comm.trans (by rw [jAr])
 ·rw [←jAr];exact jB5
theorem zJ1 {L:List Tri3} (h:(L.flatMap ways).Nodup):L.Nodup:=by
 induction L with
 | nil=>exact List.nodup_nil
 | cons T L ih=>
  rw [jA5,jAz] at h;rw [jAu];refine ⟨fun hT=>?_,ih h.2.1⟩;exact h.2.2 (T.A,T.B) (by simp [ways]) (T.A,T.B) (jAh.2 ⟨T,hT,by simp [ways]⟩) rfl
theorem zJ4 {α:Type} [DecidableEq α] {L:List α} (hn:L.Nodup) {p:α→Bool} {a:α} (ha:a∈L) (h:∀ x∈L,p x=true↔x=a):(L.filter p).Perm [a]∧L.Perm (a :: L.filter fun x => !p x):=by
 have h1:(L.filter p).Perm [a]:=by
  refine (jEb (hn.sublist List.filter_sublist) (by simp)).2 fun x=>?_;simp only [jAq,jC5];exact ⟨fun ⟨k1,k2⟩=>(h x k1).1 k2,fun k=>by subst k;exact ⟨ha,(h x ha).2 rfl⟩⟩
 refine ⟨h1,?_⟩;have:=List.filter_append_perm p L;exact this.symm.trans (h1.append_right _)
theorem filter_two {α:Type} [DecidableEq α] {L:List α} (hn:L.Nodup) {p:α→Bool} {a b:α} (ha:a∈L) (hb:b∈L) (hab:a≠b) (h:∀ x∈L,p x=true↔(x=a∨x=b)):(L.filter p).Perm [a,b]∧L.Perm (a :: b :: L.filter fun x => !p x):=by
 have h1:(L.filter p).Perm [a,b]:=by
  refine (jEb (hn.sublist List.filter_sublist) (by simp [hab])).2 fun x=>?_;simp only [jAq,jA1,jA6,jAw];refine ⟨fun ⟨k1,k2⟩=>(h x k1).1 k2,fun k=>?_⟩;rcases k with rfl | rfl
  ·exact ⟨ha,(h x ha).2 (.inl rfl)⟩
  ·exact ⟨hb,(h x hb).2 (.inr rfl)⟩
 refine ⟨h1,?_⟩;have:=List.filter_append_perm p L;exact this.symm.trans (h1.append_right _)
inductive Spots (W H:Int) (L:List Tri3) (p:Pt):List Tri3→Prop
 | within (T:Tri3):T∈L→insT T p→Spots W H L p [T]
 | rim (T:Tri3) (a b c:Pt):T∈L→Cyc T a b c→edg a b c p→onRim W H a b→Spots W H L p [T]
 | edge (T S:Tri3) (a b c d:Pt):T∈L→S∈L→Cyc T a b c→Cyc S b a d→edg a b c p→¬ onRim W H a b→Spots W H L p [T,S]
section
variable {W H:Int} {L:List Tri3} (h:Tiles W H L)
include h
theorem Tiles.spots (hW:0 < W) (hH:0 < H) {p:Pt} (hp:inBox W H p) (hn:∀ T∈L,¬ isCnr T p) {f:Tri3→Bool} (hf:∀ T∈L,f T=true↔hasT T p):∃ F,Spots W H L p F∧(L.filter f).Perm F∧L.Perm (F ++ L.filter fun x => !f x):=by
 obtain ⟨T,hT,k⟩:=h.covers hW hH hp;have nd:=zJ1 h.once;rcases zHw (h.pos T hT) k with g | g | ⟨a,b,c,hc,g⟩
 ·exact absurd g (hn T hT)
 ·have := zJ4 nd hT (p := f) (fun x hx => by
    rw [hf x hx];exact ⟨fun q=>(h.ins_one hT hx g q).symm,fun e=>by rw [e];exact k⟩)
  exact ⟨_,.within T hT g,this⟩
 ·have two:=fun x hx (q:hasT x p)=>h.edg_two hT hx hc g q (hn x hx);by_cases hr:onRim W H a b
  ·have := zJ4 nd hT (p := f) (fun x hx => by
     rw [hf x hx];refine ⟨fun q=>?_,fun e=>by rw [e];exact k⟩;rcases two x hx q with e | ⟨_,e⟩
     ·exact e
     ·exact absurd hr e)
   exact ⟨_,.rim T a b c hT hc g hr,this⟩
  ·have hm:=(h.rim (a,b) (mem_flat hT hc.way)).resolve_right hr;obtain ⟨S,hS,hw⟩:=jAh.1 hm;have hw:(b,a)∈ways S:=hw;obtain ⟨d,hd⟩:=zBd hw;have pT:=h.cyc_pos hT hc;have pS:=h.cyc_pos hS hd;have ho:=zDv pT pS g;have hne:T≠S:=by
    rintro rfl;have e1:=(hd.cnr_iff c).1 hc.turn.turn.cnr;obtain ⟨n1,n2,n3⟩:=zAb pT;rcases e1 with e | e | e
    ·exact n2 e.symm
    ·exact n3 e
    ·rw [←e,zAd] at pS;omega
   have hasS:hasT S p:=by
    obtain ⟨o1,o2,o3⟩:=ho;have:0≤det b a p∧0≤det a d p∧0≤det d b p:=⟨by omega,by omega,by omega⟩;unfold hasT;rcases hd with ⟨rfl,rfl,rfl⟩ | ⟨rfl,rfl,rfl⟩ | ⟨rfl,rfl,rfl⟩
    ·exact this
    ·exact ⟨this.2.2,this.1,this.2.1⟩
    ·exact ⟨this.2.1,this.2.2,this.1⟩
   have:=filter_two nd hT hS hne (p:=f) (fun x hx=>by
    rw [hf x hx];refine ⟨fun q=>?_,fun e=>?_⟩
    ·rcases two x hx q with e | ⟨e,_⟩
     ·exact .inl e
     ·exact .inr (zBu h.once hx hS e hw)
    ·rcases e with rfl | rfl
     ·exact k
     ·exact hasS)
   exact ⟨_,.edge T S a b c d hT hS hc hd g hr,this⟩
theorem zK4 (hW:0 < W) (hH:0 < H) (hW':W < 16777216) (hH':H < 16777216) {p:Pt} (hp:inBox W H p) (hn:∀ T∈L,¬ isCnr T p) {F M:List Tri3} (hF:Spots W H L p F) (hL:L.Perm (F ++ M)):Tiles W H (F.flatMap (cutP p) ++ M)∧(∀ T∈F.flatMap (cutP p),valT T=true∧isCnr T p):=by
 have vb:∀ q,inBox W H q→vld q=true:=fun q hq=>by rw [zAm];unfold inBox at hq;omega
 have vp:=vb p hp;cases hF with
 | within T hT hi=>
  have hc:=Cyc.refl T;have va:=vb _ (h.cyc_box hT hc);have vb':=vb _ (h.cyc_box hT hc.turn);have vc:=vb _ (h.cyc_box hT hc.turn.turn);obtain ⟨i1,i2,i3⟩:=hi;have e:[T].flatMap (cutP p)=[mk T.A T.B p,mk T.B T.C p,mk T.C T.A p]:=by
   simp only [jA5,jBx,jAs];unfold cutP;rw [zB3 va vb' vp i1,zB3 vb' vc vp i2,zB3 vc va vp i3];rfl
  rw [e];have m1:=zB2 va vb' vp i1;have m2:=zB2 vb' vc vp i2;have m3:=zB2 vc va vp i3;refine ⟨h.cut3 hn hp hL hc ⟨i1,i2,i3⟩ m1.1 m2.1 m3.1,fun X hX=>?_⟩;simp only [jA1,jA6,jAw] at hX;rcases hX with rfl | rfl | rfl
  ·exact ⟨m1.2,m1.1.turn.turn.cnr⟩
  ·exact ⟨m2.2,m2.1.turn.turn.cnr⟩
  ·exact ⟨m3.2,m3.1.turn.turn.cnr⟩
 | rim T a b c hT hc hi hr=>
  have va:=vb _ (h.cyc_box hT hc);have vb':=vb _ (h.cyc_box hT hc.turn);have vc:=vb _ (h.cyc_box hT hc.turn.turn);obtain ⟨i1,i2,i3⟩:=hi;have e:([T].flatMap (cutP p)).Perm [mk b c p,mk c a p]:=by
   simp only [jA5,jBx,jAs];have:=zD0 hc p;rw [zDt va vb' vp i1,zB3 vb' vc vp i2,zB3 vc va vp i3] at this;exact this
  have m2:=zB2 vb' vc vp i2;have m3:=zB2 vc va vp i3;refine ⟨(h.cut2r hn hp hL hc ⟨i1,i2,i3⟩ hr m2.1 m3.1).perm (e.symm.append_right M),fun X hX=>?_⟩;rw [e.mem_iff] at hX;simp only [jA1,jA6,jAw] at hX;rcases hX with rfl | rfl
  ·exact ⟨m2.2,m2.1.turn.turn.cnr⟩
  ·exact ⟨m3.2,m3.1.turn.turn.cnr⟩
 | edge T S a b c d hT hS hc hd hi hr=>
  have va:=vb _ (h.cyc_box hT hc);have vb':=vb _ (h.cyc_box hT hc.turn);have vc:=vb _ (h.cyc_box hT hc.turn.turn);have vd:=vb _ (h.cyc_box hS hd.turn.turn);have ho:=zDv (h.cyc_pos hT hc) (h.cyc_pos hS hd) hi;obtain ⟨i1,i2,i3⟩:=hi;obtain ⟨o1,o2,o3⟩:=ho;have e:([T,S].flatMap (cutP p)).Perm [mk b c p,mk c a p,mk a d p,mk d b p]:=by
   simp only [jA5,jBx,jAs];have e1:=zD0 hc p;rw [zDt va vb' vp i1,zB3 vb' vc vp i2,zB3 vc va vp i3] at e1;have e2:=zD0 hd p;rw [zDt vb' va vp o1,zB3 va vd vp o2,zB3 vd vb' vp o3] at e2;exact e1.append e2
  have m1:=zB2 vb' vc vp i2;have m2:=zB2 vc va vp i3;have m3:=zB2 va vd vp o2;have m4:=zB2 vd vb' vp o3;refine ⟨(h.cut4 hn hp hL hc hd ⟨i1,i2,i3⟩ m1.1 m2.1 m3.1 m4.1).perm (e.symm.append_right M),fun X hX=>?_⟩;rw [e.mem_iff] at hX;simp only [jA1,jA6,jAw] at hX;rcases hX with rfl | rfl | rfl | rfl
  ·exact ⟨m1.2,m1.1.turn.turn.cnr⟩
  ·exact ⟨m2.2,m2.1.turn.turn.cnr⟩
  ·exact ⟨m3.2,m3.1.turn.turn.cnr⟩
  ·exact ⟨m4.2,m4.1.turn.turn.cnr⟩
end
theorem zFy (L:List Tri3):(L.flatMap wys).map (·.1)=L.flatMap ways:=by
 induction L with
 | nil=>rfl
 | cons T L ih=>rw [jA5,jA5,jBn,ih];rfl
theorem wys_mem {L:List Tri3} {w:Pt×Pt} {T:Tri3}:(w,T)∈L.flatMap wys↔T∈L∧w∈ways T:=by
 rw [jAh];constructor
 ·rintro ⟨S,hS,h⟩;simp only [wys,jA1,jB6,jA6,jAw] at h;rcases h with ⟨rfl,rfl⟩ | ⟨rfl,rfl⟩ | ⟨rfl,rfl⟩ <;> exact ⟨hS,by simp [ways]⟩
 ·rintro ⟨hS,h⟩;refine ⟨T,hS,?_⟩;simp only [ways,jA1,jA6,jAw] at h;rcases h with rfl | rfl | rfl <;> simp [wys]
section
variable {E:Es} {L:List Tri3} (h:Good E L)
include h
theorem Good.once:(L.flatMap ways).Nodup:=by
 rw [←zFy];have hn:=h.nodup;unfold KeysNodup at hn;exact (h.perm.map (·.1)).nodup_iff.1 hn
theorem Good.get {a b:Pt} {T:Tri3}:getE E (a,b)=some T↔T∈L∧(a,b)∈ways T:=by
 rw [getE_iff h.nodup,h.perm.mem_iff,wys_mem]
theorem Good.get_none {a b:Pt}:getE E (a,b)=none↔(a,b) ∉ L.flatMap ways:=by
 rw [zDk];constructor
 ·intro k hm;rw [←zFy,jAk] at hm;obtain ⟨p,hp,e⟩:=hm;exact k p (h.perm.mem_iff.2 hp) e
 ·intro k p hp e;apply k;rw [←zFy,jAk];exact ⟨p,h.perm.mem_iff.1 hp,e⟩
theorem Good.has {T:Tri3}:hasE E T=true↔T∈L:=by
 unfold hasE;constructor
 ·intro k;cases hg:getE E (T.A,T.B) with
  | none=>rw [hg] at k;cases k
  | some S=>
   rw [hg] at k;have e:=zE8.1 k;rw [←e];exact (h.get.1 hg).1
 ·intro k;rw [h.get.2 ⟨k,by simp [ways]⟩];exact zE8.2 rfl
theorem Good.order {M:List Tri3} (p:L.Perm M):Good E M:=⟨h.perm.trans (p.flatMap_right _),h.nodup,fun T hT=>h.val T (p.mem_iff.2 hT)⟩
end
theorem takeT_nodup {E:Es} (h:KeysNodup E) (T:Tri3):KeysNodup (takeT E T):=zCo (zCo (zCo h _) _) _
theorem Good.take {E:Es} {T:Tri3} {M:List Tri3} (h:Good E (T :: M)):hasE E T=true∧Good (takeT E T) M:=by
 refine ⟨h.has.2 (by simp),?_,takeT_nodup h.nodup T,fun S hS=>h.val S (by simp [hS])⟩;have hT:=h.val T (by simp);have ho:=h.once;rw [jA5,jAz] at ho
 -- what is taken: the three pairs of T
 have hp:E.Perm (wys T ++ M.flatMap wys):=by have:=h.perm;rwa [jA5] at this
 have e1:takeT E T=E.filter (fun p=>decide (p.1 ∉ ways T)):=by
  unfold takeT delE;rw [jF2,jF2];refine List.filter_congr fun p _=>?_;simp only [ways,jA1,jA6,jAw];by_cases a1:p.1=(T.A,T.B) <;> by_cases a2:p.1=(T.B,T.C) <;> by_cases a3:p.1=(T.C,T.A) <;> simp [a1,a2,a3]
 rw [e1];refine (hp.filter _).trans ?_;rw [jC9];have f1:(wys T).filter (fun p=>decide (p.1 ∉ ways T))=[]:=by
  rw [jDm];intro p hp';have:p.1∈ways T:=by
   have:p∈[T].flatMap wys:=by simpa using hp'
   obtain ⟨q,S⟩:=p;have:=wys_mem.1 this;simp only [jC5] at this;rw [←this.1];exact this.2
  simpa using this
 have f2:(M.flatMap wys).filter (fun p=>decide (p.1 ∉ ways T))=M.flatMap wys:=by
  rw [jCw];intro p hp';have:p.1 ∉ ways T:=fun k=>ho.2.2 p.1 k p.1 (by rw [←zFy];exact List.mem_map_of_mem hp') rfl
  simpa using this
 rw [f1,f2,jBd]
theorem Good.put {E:Es} {T:Tri3} {M:List Tri3} (h:Good E M) (hv:valT T=true) (hn:∀ w∈ways T,w ∉ M.flatMap ways):fitsE E T=true∧Good (putT E T) (T :: M):=by
 have hf:fitsE E T=true:=by
  unfold fitsE;simp only [jA3,jEd];exact ⟨h.get_none.2 (hn _ (by simp [ways])),h.get_none.2 (hn _ (by simp [ways])),h.get_none.2 (hn _ (by simp [ways])),hv⟩
 refine ⟨hf,?_,zDc (zDc (zDc h.nodup _ _) _ _) _ _,fun S hS=>?_⟩
 ·refine (putT_eq hf).trans ?_;rw [jA5];exact (h.perm.append_right _).trans jB5
 ·rcases jA1.1 hS with rfl | hS
  ·exact hv
  ·exact h.val S hS
theorem Good.takes:∀ {F:List Tri3} {E:Es} {M:List Tri3},Good E (F ++ M)→(takeRun E F).1=F.length∧Good (takeRun E F).2 M
 | [],E,M,h=>⟨rfl,h⟩
 | T :: F,E,M,h=>by
  obtain ⟨h1,h2⟩:=Good.take (E:=E) (T:=T) (M:=F ++ M) h;obtain ⟨k1,k2⟩:=Good.takes h2;unfold takeRun;rw [jAc h1];exact ⟨by simp [k1],k2⟩
theorem Good.puts:∀ {I:List Tri3} {E:Es} {M:List Tri3},Good E M→(∀ T∈I,valT T=true)→((I ++ M).flatMap ways).Nodup→(putRun E I).1=I.length∧Good (putRun E I).2 (I ++ M)
 | [],E,M,h,_,_=>⟨rfl,h⟩
 | T :: I,E,M,h,hv,hn=>by
  have hn':(ways T ++ (I ++ M).flatMap ways).Nodup:=by rw [←jA5];exact hn
  rw [jAz] at hn';obtain ⟨h1,h2⟩:=Good.put (E:=E) (T:=T) (M:=M) h (hv T (by simp)) (fun w hw k=>hn'.2.2 w hw w (by rw [jBe];exact jBa _ k) rfl);obtain ⟨k1,k2⟩:=Good.puts (I:=I) h2 (fun S hS=>hv S (by simp [hS])) ((flat_perm (jC2 (a:=T) (l₁:=I) (l₂:=M))).nodup_iff.2 hn);unfold putRun;rw [jAc h1];exact ⟨by simp [k1],k2.order jC2⟩
def someC (L:List Tri3) (p:Pt):Prop:=∃ T∈L,isCnr T p
structure Kept (K:Pt→Pt→Prop) (L L':List Tri3):Prop where
 len:L'.length=L.length
 cnr:∀ p,someC L' p↔someC L p
 wall:∀ a b,K a b→(a,b)∈L.flatMap ways→(a,b)∈L'.flatMap ways
theorem Kept.refl (K:Pt→Pt→Prop) (L:List Tri3):Kept K L L:=⟨rfl,fun _=>jEh,fun _ _ _ h=>h⟩
theorem Kept.trans {K:Pt→Pt→Prop} {A B C:List Tri3} (h:Kept K A B) (k:Kept K B C):Kept K A C:=
 ⟨k.len.trans h.len,fun p=>(k.cnr p).trans (h.cnr p),fun a b w m=>k.wall a b w (h.wall a b w m)⟩
theorem Kept.perm {K:Pt→Pt→Prop} {L M:List Tri3} (p:L.Perm M):Kept K L M:=
 ⟨p.length_eq.symm,fun q=>by unfold someC;simp only [p.mem_iff],fun _ _ _ h=>(flat_perm p).mem_iff.1 h⟩
structure Flp (K:Pt→Pt→Prop) (L:List Tri3) (S R:Tri3) (M:List Tri3) (a b c d:Pt):Prop where
 make ::
 perm:L.Perm (S :: R :: M)
 one:Cyc S a b c
 two:Cyc R b a d
 free:¬ K a b∧¬ K b a
 left:0 < det c a d
 right:0 < det d b c
section
variable {W H:Int} {K:Pt→Pt→Prop} {L:List Tri3} {S R:Tri3} {M:List Tri3} {a b c d:Pt}
theorem Flp.pts (f:Flp K L S R M a b c d) (h:Tiles W H L):inBox W H a∧inBox W H b∧inBox W H c∧inBox W H d:=by
 have mS:S∈L:=f.perm.mem_iff.2 (by simp);have mR:R∈L:=f.perm.mem_iff.2 (by simp);exact ⟨h.cyc_box mS f.one,h.cyc_box mS f.one.turn,h.cyc_box mS f.one.turn.turn,h.cyc_box mR f.two.turn.turn⟩
theorem Flp.news (f:Flp K L S R M a b c d) (h:Tiles W H L) (hW:W < 16777216) (hH:H < 16777216):(Cyc (mk c a d) c a d∧valT (mk c a d)=true)∧(Cyc (mk d b c) d b c∧valT (mk d b c)=true):=by
 have vb:∀ q,inBox W H q→vld q=true:=fun q hq=>by rw [zAm];unfold inBox at hq;omega
 obtain ⟨ba,bb,bc,bd⟩:=f.pts h;exact ⟨zB2 (vb _ bc) (vb _ ba) (vb _ bd) f.left,zB2 (vb _ bd) (vb _ bb) (vb _ bc) f.right⟩
theorem Flp.tiles (f:Flp K L S R M a b c d) (h:Tiles W H L) (hW:W < 16777216) (hH:H < 16777216):Tiles W H (mk c a d :: mk d b c :: M):=by
 obtain ⟨u,v⟩:=f.news h hW hH;exact h.flip f.perm f.one f.two f.left f.right u.1 v.1
theorem Flp.kept (f:Flp K L S R M a b c d) (h:Tiles W H L) (hW:W < 16777216) (hH:H < 16777216):Kept K L (mk c a d :: mk d b c :: M):=by
 obtain ⟨⟨u,_⟩,v,_⟩:=f.news h hW hH;refine (Kept.perm f.perm).trans ⟨rfl,fun p=>?_,fun x y hk hm=>?_⟩
 ·unfold someC;simp only [jA1];constructor
  ·rintro ⟨T,rfl | rfl | hT,hp⟩
   ·rcases (u.cnr_iff p).1 hp with rfl | rfl | rfl
    ·exact ⟨S,.inl rfl,f.one.turn.turn.cnr⟩
    ·exact ⟨S,.inl rfl,f.one.cnr⟩
    ·exact ⟨R,.inr (.inl rfl),f.two.turn.turn.cnr⟩
   ·rcases (v.cnr_iff p).1 hp with rfl | rfl | rfl
    ·exact ⟨R,.inr (.inl rfl),f.two.turn.turn.cnr⟩
    ·exact ⟨S,.inl rfl,f.one.turn.cnr⟩
    ·exact ⟨S,.inl rfl,f.one.turn.turn.cnr⟩
   ·exact ⟨T,.inr (.inr hT),hp⟩
  ·rintro ⟨T,rfl | rfl | hT,hp⟩
   ·rcases (f.one.cnr_iff p).1 hp with rfl | rfl | rfl
    ·exact ⟨_,.inl rfl,u.turn.cnr⟩
    ·exact ⟨_,.inr (.inl rfl),v.turn.cnr⟩
    ·exact ⟨_,.inl rfl,u.cnr⟩
   ·rcases (f.two.cnr_iff p).1 hp with rfl | rfl | rfl
    ·exact ⟨_,.inr (.inl rfl),v.turn.cnr⟩
    ·exact ⟨_,.inl rfl,u.turn.cnr⟩
    ·exact ⟨_,.inr (.inl rfl),v.cnr⟩
   ·exact ⟨T,.inr (.inr hT),hp⟩
 ·rw [jA5,jA5] at hm ⊢;simp only [jAg] at hm ⊢;rw [f.one.ways.mem_iff,f.two.ways.mem_iff] at hm;rw [u.ways.mem_iff,v.ways.mem_iff];simp only [jA1,jB6,jA6,jAw] at hm ⊢;obtain ⟨f1,f2⟩:=f.free;rcases hm with (⟨rfl,rfl⟩ | h | h) | (⟨rfl,rfl⟩ | h | h) | h
  ·exact absurd hk f1
  ·exact .inr (.inl (.inr (.inl h)))
  ·exact .inl (.inl h)
  ·exact absurd hk f2
  ·exact .inl (.inr (.inl h))
  ·exact .inr (.inl (.inl h))
  ·exact .inr (.inr h)
theorem Flp.good {E:Es} (f:Flp K L S R M a b c d) (g:Good E L) (h:Tiles W H L) (hW:W < 16777216) (hH:H < 16777216):((takeRun E [S,R]).1=2∧(putRun (takeRun E [S,R]).2 [mk c a d,mk d b c]).1=2)∧Good (putRun (takeRun E [S,R]).2 [mk c a d,mk d b c]).2 (mk c a d :: mk d b c :: M):=by
 have k:=Good.takes (F:=[S,R]) (M:=M) (g.order f.perm);obtain ⟨u,v⟩:=f.news h hW hH;have t:=f.tiles h hW hH;have p:=Good.puts (I:=[mk c a d,mk d b c]) k.2 (fun T hT=>by
  simp only [jA1,jA6,jAw] at hT;rcases hT with rfl | rfl
  ·exact u.2
  ·exact v.2) t.once
 exact ⟨⟨k.1,p.1⟩,p.2⟩
theorem Flp.less {h:Pt→Int} (f:Flp K L S R M a b c d) (t:Tiles W H L) (hW:W < 16777216) (hH:H < 16777216) (hp:0 < PH h a b c d):volS h (mk c a d :: mk d b c :: M) < volS h L:=by
 obtain ⟨u,v⟩:=f.news t hW hH;rw [zK1 f.perm,vol_flip h M f.one f.two u.1 v.1];omega
end
theorem Tiles.vols {W H:Int} {L:List Tri3} (h:Tiles W H L) (hW:W < 16777216) (hH:H < 16777216) {ht:Pt→Int} (hh:Hts ht):0≤volS ht L:=by
 have vb:∀ q,inBox W H q→vld q=true:=fun q hq=>by rw [zAm];unfold inBox at hq;omega
 refine zNu hh fun T hT=>⟨h.pos T hT,vb _ (h.box T hT).1,vb _ (h.box T hT).2.1,vb _ (h.box T hT).2.2⟩
theorem Tiles.flip_bad {W H:Int} {K:Pt→Pt→Prop} {L:List Tri3} (h:Tiles W H L) (hW:W < 16777216) (hH:H < 16777216) {ht:Pt→Int} (hh:Hts ht) {S R:Tri3} (hS:S∈L) (hR:R∈L) {a b c d:Pt} (cS:Cyc S a b c) (cR:Cyc R b a d) (hk:¬ K a b∧¬ K b a) (hb:circ a b c d=1):0 < PH ht a b c d∧∃ M,Flp K L S R M a b c d:=by
 have vb:∀ q,inBox W H q→vld q=true:=fun q hq=>by rw [zAm];unfold inBox at hq;omega
 have p1:=h.cyc_pos hS cS;have p2:=h.cyc_pos hR cR;obtain ⟨q1,q2,q3⟩:=zAb p2;have dc:d≠c:=by
  rintro rfl;rw [zAd] at p2;omega
 have sg:=hh.sign a b c d (vb _ (h.cyc_box hS cS)) (vb _ (h.cyc_box hS cS.turn)) (vb _ (h.cyc_box hS cS.turn.turn)) (vb _ (h.cyc_box hR cR.turn.turn)) p1 (Ne.symm q2) q3 dc;have hne:S≠R:=by
  rintro rfl;obtain ⟨n1,n2,n3⟩:=zAb p1;rcases (cR.cnr_iff c).1 cS.turn.turn.cnr with e | e | e
  ·exact n2 e.symm
  ·exact n3 e
  ·exact dc e.symm
 rcases sg with ⟨_,s2,s3⟩ | ⟨s1,_⟩
 ·obtain ⟨x,y⟩:=convex p1 p2 s3;obtain ⟨M,hM⟩:=zE7 hS hR hne;exact ⟨s2,M,hM,cS,cR,hk,x,y⟩
 ·omega
end
section
open Go.RowKit
def allBack (L:List Tri3) (p:Pt):Prop:=∀ w∈L.flatMap ways,w.1=p∨w.2=p→(w.2,w.1)∈L.flatMap ways
def atRim (W H:Int) (p:Pt):Prop:=p.x=0∨p.y=0∨p.x=W∨p.y=H
theorem Tiles.back {W H:Int} {L:List Tri3} (h:Tiles W H L) {p:Pt} (hp:¬ atRim W H p):allBack L p:=by
 intro w hw hx;rcases h.rim w hw with k | k
 ·exact k
 ·exfalso;apply hp
  unfold onRim at k;unfold atRim;rcases hx with e | e <;> rw [e] at k <;> omega
theorem zFl {L:List Tri3} (hpos:∀ T∈L,0 < det T.A T.B T.C) {al be ga:Int} (hu:al * al+be * be=1) (hf:∀ T∈L,∀ q,isCnr T q→0≤al * q.x+be * q.y+ga) {p:Pt} (hp:al * p.x+be * p.y+ga=0) (hc:someC L p):¬ allBack L p:=by
 intro hb;have cycpos:∀ {T:Tri3} {a b c:Pt},T∈L→Cyc T a b c→0 < det a b c:=fun hT hc=>by rw [hc.det];exact hpos _ hT
 obtain ⟨f,ef⟩:∃ f:Pt→Int,∀ q,f q=al * q.x+be * q.y+ga:=⟨_,fun _=>rfl⟩;obtain ⟨g,eg⟩:∃ g:Pt→Int,∀ q,g q=be * (q.x - p.x) - al * (q.y - p.y):=⟨_,fun _=>rfl⟩;have hf:∀ T∈L,∀ q,isCnr T q→0≤f q:=fun T hT q hq=>by rw [ef];exact hf T hT q hq
 have hp:f p=0:=by rw [ef];exact hp
 have hd:∀ x y,det p x y=g x * f y - f x * g y:=by
  intro x y;have e1:g x * f y - f x * g y=(al * al+be * be) * det p x y+(g x - g y) * f p:=by
   rw [eg,eg,ef,ef,ef];unfold det;grind
  rw [e1,hu,hp,jD5,jAy,jD1]
 clear ef eg hu
 -- the first ways of those that stand around
 let F:List Pt:=(L.flatMap ways).filterMap fun w=>if w.1=p then some w.2 else none
 have mF:∀ x,x∈F↔(p,x)∈L.flatMap ways:=by
  intro x;simp only [F,jDc];constructor
  ·rintro ⟨⟨a,b⟩,hw,e⟩;split at e
   ·rename_i e1
    simp only [jCh] at e;simp only at e1;rw [←e,←e1];exact hw
   ·cases e
  ·intro hw;exact ⟨_,hw,by simp⟩
 have tri:∀ x,x∈F→∃ T∈L,∃ y,Cyc T p x y:=by
  intro x hx;obtain ⟨T,hT,hw⟩:=jAh.1 ((mF x).1 hx);obtain ⟨y,hy⟩:=zBd hw;exact ⟨T,hT,y,hy⟩
 -- of each the triangle on its right
 have right:∀ x,x∈F→∃ T∈L,∃ z,Cyc T p z x:=by
  intro x hx;have:=hb (p,x) ((mF x).1 hx) (.inl rfl);obtain ⟨T,hT,hw⟩:=jAh.1 this;have hw:(x,p)∈ways T:=hw;obtain ⟨z,hz⟩:=zBd hw;exact ⟨T,hT,z,hz.turn⟩
 have fpos:∀ x∈F,0 < f x:=by
  intro x hx;obtain ⟨T,hT,z,hz⟩:=right x hx;obtain ⟨S,hS,y,hy⟩:=tri x hx;have p1:=cycpos hT hz;have p2:=cycpos hS hy;have a1:=hf T hT x hz.turn.turn.cnr;have a2:=hf T hT z hz.turn.cnr;have a3:=hf S hS y hy.turn.turn.cnr;refine jAd fun k=>?_;have z0:f x=0:=by omega
  rw [hd,z0] at p1 p2;simp only [jAy,jB1,jDh,jCi] at p1 p2;have n1:g x < 0:=by
   refine jAd fun k=>?_;have:=jA2 a2 (show 0≤g x by omega);omega
  have:=jA2 (show 0 ≤ - g x by omega) a3;rw [jE1] at this;omega
 obtain ⟨T,hT,hp'⟩:=hc;obtain ⟨x0,y0,h0⟩:=zCf hp';have hx0:x0∈F:=(mF x0).2 (mem_flat hT h0.way);obtain ⟨x,hx,hmax⟩:=zEj g f F (jEi hx0) fpos;obtain ⟨R,hR,z,hz⟩:=right x hx;have hzF:z∈F:=(mF z).2 (mem_flat hR hz.way);have p1:=cycpos hR hz;rw [hd] at p1;have:=hmax z hzF;have e:f z * g x=g x * f z:=jD2 _ _;omega
theorem Tiles.open {W H:Int} {L:List Tri3} (h:Tiles W H L) {p:Pt} (hp:atRim W H p) (hc:someC L p):¬ allBack L p:=by
 have bx:∀ T∈L,∀ q,isCnr T q→inBox W H q:=by
  intro T hT q hq;have:=h.box T hT;rcases hq with rfl | rfl | rfl
  ·exact this.1
  ·exact this.2.1
  ·exact this.2.2
 rcases hp with k | k | k | k
 ·exact zFl h.pos (al:=1) (be:=0) (ga:=0) (by omega) (fun T hT q hq=>by have:=bx T hT q hq;unfold inBox at this;omega) (by omega) hc
 ·exact zFl h.pos (al:=0) (be:=1) (ga:=0) (by omega) (fun T hT q hq=>by have:=bx T hT q hq;unfold inBox at this;omega) (by omega) hc
 ·exact zFl h.pos (al := -1) (be:=0) (ga:=W) (by omega) (fun T hT q hq=>by have:=bx T hT q hq;unfold inBox at this;omega) (by omega) hc
 ·exact zFl h.pos (al:=0) (be := -1) (ga:=H) (by omega) (fun T hT q hq=>by have:=bx T hT q hq;unfold inBox at this;omega) (by omega) hc
theorem zOe {W H:Int} {a b c p:Pt} (h1:0 < det a b c) (ba:inBox W H a) (bb:inBox W H b) (he:edg a b c p):atRim W H p↔onRim W H a b:=by
 obtain ⟨z,q1,q2⟩:=he;have s:=zEo a b c p;have ex:det a b c * p.x=det b c p * a.x+det c a p * b.x+det a b p * c.x:=by unfold det;grind
 have ey:det a b c * p.y=det b c p * a.y+det c a p * b.y+det a b p * c.y:=by unfold det;grind
 rw [z,jB1] at ex ey;rw [z] at s;have key:∀ u v t:Int,0≤u→0≤v→det a b c * t=det b c p * u+det c a p * v→(t=0↔u=0∧v=0):=by
  intro u v t hu hv e;have m1:=jA2 (jAn q1) hu;have m2:=jA2 (jAn q2) hv;constructor
  ·intro h;rw [h,jAy] at e;have z1:det b c p * u=0:=by omega
   have z2:det c a p * v=0:=by omega
   rcases jA7.1 z1 with k | k <;> rcases jA7.1 z2 with k' | k' <;> omega
  ·rintro ⟨rfl,rfl⟩;rw [jAy,jAy] at e;rcases jA7.1 (show det a b c * t=0 by omega) with k | k <;> omega
 unfold inBox at ba bb;have k1:=key a.x b.x p.x ba.1.1 bb.1.1 (by omega);have k2:=key a.y b.y p.y ba.2.1 bb.2.1 (by omega);have s':det b c p+det c a p=det a b c:=by omega
 have w1:det a b c * W=det b c p * W+det c a p * W:=by rw [←s',jEk]
 have w2:det a b c * H=det b c p * H+det c a p * H:=by rw [←s',jEk]
 have k3:=key (W - a.x) (W - b.x) (W - p.x) (by omega) (by omega) (by rw [jDd,jDd,jDd];omega);have k4:=key (H - a.y) (H - b.y) (H - p.y) (by omega) (by omega) (by rw [jDd,jDd,jDd];omega);unfold atRim onRim;omega
theorem ins_norim {W H:Int} {T:Tri3} {p:Pt} (hp:0 < det T.A T.B T.C) (hb:inBox W H T.A∧inBox W H T.B∧inBox W H T.C) (hi:insT T p):¬ atRim W H p:=by
 obtain ⟨q1,q2,q3⟩:=hi;have s:=zEo T.A T.B T.C p;have ex:det T.A T.B T.C * p.x=det T.B T.C p * T.A.x+det T.C T.A p * T.B.x+det T.A T.B p * T.C.x:=by unfold det;grind
 have ey:det T.A T.B T.C * p.y=det T.B T.C p * T.A.y+det T.C T.A p * T.B.y+det T.A T.B p * T.C.y:=by unfold det;grind
 have flat:∀ al be ga:Int,al * T.A.x+be * T.A.y+ga=0→al * T.B.x+be * T.B.y+ga=0→al * T.C.x+be * T.C.y+ga=0→(al≠0∨be≠0)→False:=by
  intro al be ga e1 e2 e3 hn;have i1:al * det T.A T.B T.C=((al * T.B.x+be * T.B.y+ga) - (al * T.A.x+be * T.A.y+ga)) * (T.C.y - T.A.y) - ((al * T.C.x+be * T.C.y+ga) - (al * T.A.x+be * T.A.y+ga)) * (T.B.y - T.A.y):=by unfold det;grind
  have i2:be * det T.A T.B T.C=((al * T.C.x+be * T.C.y+ga) - (al * T.A.x+be * T.A.y+ga)) * (T.B.x - T.A.x) - ((al * T.B.x+be * T.B.y+ga) - (al * T.A.x+be * T.A.y+ga)) * (T.C.x - T.A.x):=by unfold det;grind
  rw [e1,e2,e3] at i1 i2;simp only [jDg,jB1] at i1 i2;rcases jA7.1 i1 with k | k <;> rcases jA7.1 i2 with k' | k' <;> omega
 have key:∀ al be ga:Int,(al≠0∨be≠0)→0≤al * T.A.x+be * T.A.y+ga→0≤al * T.B.x+be * T.B.y+ga→0≤al * T.C.x+be * T.C.y+ga→al * p.x+be * p.y+ga≠0:=by
  intro al be ga hn h1 h2 h3 e;have i:det T.A T.B T.C * (al * p.x+be * p.y+ga)=det T.B T.C p * (al * T.A.x+be * T.A.y+ga)+det T.C T.A p * (al * T.B.x+be * T.B.y+ga)+det T.A T.B p * (al * T.C.x+be * T.C.y+ga):=by unfold det;grind
  rw [e,jAy] at i;have m1:=jA2 (jAn q2) h1;have m2:=jA2 (jAn q3) h2;have m3:=jA2 (jAn q1) h3;have z1:=(jA7.1 (show det T.B T.C p * (al * T.A.x+be * T.A.y+ga)=0 by omega)).resolve_left (by omega);have z2:=(jA7.1 (show det T.C T.A p * (al * T.B.x+be * T.B.y+ga)=0 by omega)).resolve_left (by omega);have z3:=(jA7.1 (show det T.A T.B p * (al * T.C.x+be * T.C.y+ga)=0 by omega)).resolve_left (by omega);exact flat al be ga z1 z2 z3 hn
 unfold inBox at hb;have k1:=key 1 0 0 (by omega) (by omega) (by omega) (by omega);have k2:=key 0 1 0 (by omega) (by omega) (by omega) (by omega);have k3:=key (-1) 0 W (by omega) (by omega) (by omega) (by omega);have k4:=key 0 (-1) H (by omega) (by omega) (by omega) (by omega);unfold atRim;omega
theorem has_box {W H:Int} {T:Tri3} {p:Pt} (hp:0 < det T.A T.B T.C) (hb:inBox W H T.A∧inBox W H T.B∧inBox W H T.C) (hi:hasT T p):inBox W H p:=by
 obtain ⟨q1,q2,q3⟩:=hi;have key:∀ al be ga:Int,0≤al * T.A.x+be * T.A.y+ga→0≤al * T.B.x+be * T.B.y+ga→0≤al * T.C.x+be * T.C.y+ga→0≤al * p.x+be * p.y+ga:=by
  intro al be ga h1 h2 h3;have i:det T.A T.B T.C * (al * p.x+be * p.y+ga)=det T.B T.C p * (al * T.A.x+be * T.A.y+ga)+det T.C T.A p * (al * T.B.x+be * T.B.y+ga)+det T.A T.B p * (al * T.C.x+be * T.C.y+ga):=by unfold det;grind
  have m1:=jA2 q2 h1;have m2:=jA2 q3 h2;have m3:=jA2 q1 h3;exact (zAk hp).1 (by omega)
 unfold inBox at *;have k1:=key 1 0 0 (by omega) (by omega) (by omega);have k2:=key 0 1 0 (by omega) (by omega) (by omega);have k3:=key (-1) 0 W (by omega) (by omega) (by omega);have k4:=key 0 (-1) H (by omega) (by omega) (by omega);omega
theorem Tiles.cone {W H:Int} {L:List Tri3} (h:Tiles W H L) (hW:0 < W) (hH:0 < H) {p q:Pt} (hp:inBox W H p) (hq:inBox W H q) (hc:someC L p):∃ T∈L,∃ b c,Cyc T p b c∧0≤det p b q∧0≤det c p q:=by
 obtain ⟨v,ev⟩:∃ v:Pt,v=⟨q.x - p.x,q.y - p.y⟩:=⟨_,rfl⟩;have evx:v.x=q.x - p.x:=by rw [ev]
 have evy:v.y=q.y - p.y:=by rw [ev]
 let M:Int:=1+bigs 1 v L
 have p0:∀ l:List Tri3,0≤bigs 1 v l:=fun l=>by
  induction l with
  | nil=>exact jE5 0
  | cons U l ih=>unfold bigs big;omega
 have hM:1≤M:=by have:=p0 L;omega
 have bx:inBox (M * W) (M * H) ⟨M * p.x+v.x,M * p.y+v.y⟩:=by
  obtain ⟨⟨h1,h2⟩,h3,h4⟩:=hp;obtain ⟨⟨k1,k2⟩,k3,k4⟩:=hq;have j1:=jA2 (a:=M - 1) (b:=p.x) (by omega) h1;have j2:=jA2 (a:=M - 1) (b:=p.y) (by omega) h3;have j3:=jBs (c:=M - 1) h2 (by omega);have j4:=jBs (c:=M - 1) h4 (by omega);rw [jE7,jD5] at j1 j2;rw [jE7,jE7,jD5,jD5] at j3 j4;unfold inBox;simp only;omega
 obtain ⟨T,hT,hh⟩:=h.covM hW hH (M:=M) (by omega) bx;have sd:∀ a b:Pt,det (sc M a) (sc M b) ⟨M * p.x+v.x,M * p.y+v.y⟩=M * (M * det a b p+crd a b v):=by
  intro a b;have:=zCg 1 M a b p v
  rwa [Int.mul_one,zGq,zGq,jD5] at this
 unfold hasM at hh;rw [sd,sd,sd] at hh;have hb:=zNb 1 v hT;unfold big at hb;rw [jD5,jD5,jD5] at hb;have s1:=zGv (M:=1) (K:=M) (d:=det T.A T.B p) (c:=crd T.A T.B v) (by omega) (by rw [jD5];omega) (by rw [jD5];exact hh.1);have s2:=zGv (M:=1) (K:=M) (d:=det T.B T.C p) (c:=crd T.B T.C v) (by omega) (by rw [jD5];omega) (by rw [jD5];exact hh.2.1);have s3:=zGv (M:=1) (K:=M) (d:=det T.C T.A p) (c:=crd T.C T.A v) (by omega) (by rw [jD5];omega) (by rw [jD5];exact hh.2.2);obtain ⟨S,hS,hp'⟩:=hc;have hcT:=h.cnr_all hS hT hp' ⟨s1,s2,s3⟩;obtain ⟨b,c,hcy⟩:=zCf hcT;have hM0:0 < M:=by omega
 have hh':0≤M * (M * det p b p+crd p b v)∧0≤M * (M * det c p p+crd c p v):=by
  rcases hcy with ⟨rfl,rfl,rfl⟩ | ⟨rfl,rfl,rfl⟩ | ⟨rfl,rfl,rfl⟩
  ·exact ⟨hh.1,hh.2.2⟩
  ·exact ⟨hh.2.1,hh.1⟩
  ·exact ⟨hh.2.2,hh.2.1⟩
 refine ⟨T,hT,b,c,hcy,?_,?_⟩
 ·have e : M * det p b p + crd p b v = det p b q := by
    have z:det p b p=0:=by unfold det;grind
    rw [z,jAy,jE4];unfold crd det;rw [evx,evy]
  have:=(zAk hM0).1 hh'.1;omega
 ·have e : M * det c p p + crd c p v = det c p q := by
    have z:det c p p=0:=by unfold det;grind
    rw [z,jAy,jE4];unfold crd det;rw [evx,evy];grind
  have:=(zAk hM0).1 hh'.2;omega
theorem zBw (T:Tri3) (L:List Tri3) (q:Pt):someC (T :: L) q↔isCnr T q∨someC L q:=by
 unfold someC;simp
theorem zE9 {L M:List Tri3} (p:L.Perm M) (q:Pt):someC L q↔someC M q:=by
 unfold someC;simp only [p.mem_iff]
theorem zG1 (L M:List Tri3) (q:Pt):someC (L ++ M) q↔someC L q∨someC M q:=by
 unfold someC;simp only [jAg];constructor
 ·rintro ⟨T,h | h,k⟩
  ·exact .inl ⟨T,h,k⟩
  ·exact .inr ⟨T,h,k⟩
 ·rintro (⟨T,h,k⟩ | ⟨T,h,k⟩)
  ·exact ⟨T,.inl h,k⟩
  ·exact ⟨T,.inr h,k⟩
theorem zDp (q:Pt):¬ someC [] q:=by unfold someC;simp
theorem cut_counts {W H:Int} {L:List Tri3} (h:Tiles W H L) (hW':W < 16777216) (hH':H < 16777216) {p:Pt} (hp:inBox W H p) {F:List Tri3} (hF:Spots W H L p F):(∀ q,someC (F.flatMap (cutP p)) q↔someC F q∨q=p)∧((F.flatMap (cutP p)).length=F.length+2∧¬ atRim W H p∨(F.flatMap (cutP p)).length=F.length+1∧atRim W H p):=by
 have vb:∀ q,inBox W H q→vld q=true:=fun q hq=>by rw [zAm];unfold inBox at hq;omega
 have vp:=vb p hp;cases hF with
 | within T hT hi=>
  have hc:=Cyc.refl T;have va:=vb _ (h.cyc_box hT hc);have vb':=vb _ (h.cyc_box hT hc.turn);have vc:=vb _ (h.cyc_box hT hc.turn.turn);obtain ⟨i1,i2,i3⟩:=hi;have e:[T].flatMap (cutP p)=[mk T.A T.B p,mk T.B T.C p,mk T.C T.A p]:=by
   simp only [jA5,jBx,jAs];unfold cutP;rw [zB3 va vb' vp i1,zB3 vb' vc vp i2,zB3 vc va vp i3];rfl
  rw [e];have m1:=(zB2 va vb' vp i1).1;have m2:=(zB2 vb' vc vp i2).1;have m3:=(zB2 vc va vp i3).1;refine ⟨fun q=>?_,.inl ⟨rfl,ins_norim (h.pos T hT) (h.box T hT) ⟨i1,i2,i3⟩⟩⟩;simp only [zBw,m1.cnr_iff,m2.cnr_iff,m3.cnr_iff,hc.cnr_iff,jEv (zDp q),jAw];constructor
  ·rintro ((k | k | k) | (k | k | k) | (k | k | k)) <;> simp [k]
  ·rintro ((k | k | k) | k) <;> simp [k]
 | rim T a b c hT hc hi hr=>
  have va:=vb _ (h.cyc_box hT hc);have vb':=vb _ (h.cyc_box hT hc.turn);have vc:=vb _ (h.cyc_box hT hc.turn.turn);have hrim:=(zOe (h.cyc_pos hT hc) (h.cyc_box hT hc) (h.cyc_box hT hc.turn) hi).2 hr;obtain ⟨i1,i2,i3⟩:=hi;have e:([T].flatMap (cutP p)).Perm [mk b c p,mk c a p]:=by
   simp only [jA5,jBx,jAs];have:=zD0 hc p;rw [zDt va vb' vp i1,zB3 vb' vc vp i2,zB3 vc va vp i3] at this;exact this
  have m2:=(zB2 vb' vc vp i2).1;have m3:=(zB2 vc va vp i3).1;refine ⟨fun q=>?_,.inr ⟨by rw [e.length_eq];rfl,hrim⟩⟩;rw [zE9 e];simp only [zBw,m2.cnr_iff,m3.cnr_iff,hc.cnr_iff,jEv (zDp q),jAw];constructor
  ·rintro ((k | k | k) | (k | k | k)) <;> simp [k]
  ·rintro ((k | k | k) | k) <;> simp [k]
 | edge T S a b c d hT hS hc hd hi hr=>
  have va:=vb _ (h.cyc_box hT hc);have vb':=vb _ (h.cyc_box hT hc.turn);have vc:=vb _ (h.cyc_box hT hc.turn.turn);have vd:=vb _ (h.cyc_box hS hd.turn.turn);have ho:=zDv (h.cyc_pos hT hc) (h.cyc_pos hS hd) hi;have hrim:¬ atRim W H p:=fun k=>hr ((zOe (h.cyc_pos hT hc) (h.cyc_box hT hc) (h.cyc_box hT hc.turn) hi).1 k);obtain ⟨i1,i2,i3⟩:=hi;obtain ⟨o1,o2,o3⟩:=ho;have e:([T,S].flatMap (cutP p)).Perm [mk b c p,mk c a p,mk a d p,mk d b p]:=by
   simp only [jA5,jBx,jAs];have e1:=zD0 hc p;rw [zDt va vb' vp i1,zB3 vb' vc vp i2,zB3 vc va vp i3] at e1;have e2:=zD0 hd p;rw [zDt vb' va vp o1,zB3 va vd vp o2,zB3 vd vb' vp o3] at e2;exact e1.append e2
  have m1:=(zB2 vb' vc vp i2).1;have m2:=(zB2 vc va vp i3).1;have m3:=(zB2 va vd vp o2).1;have m4:=(zB2 vd vb' vp o3).1;refine ⟨fun q=>?_,.inl ⟨by rw [e.length_eq];rfl,hrim⟩⟩;rw [zE9 e];simp only [zBw,m1.cnr_iff,m2.cnr_iff,m3.cnr_iff,m4.cnr_iff,hc.cnr_iff,hd.cnr_iff,jEv (zDp q),jAw];constructor
  ·rintro ((k | k | k) | (k | k | k) | (k | k | k) | (k | k | k)) <;> simp [k]
  ·rintro (((k | k | k) | (k | k | k)) | k) <;> simp [k]
theorem Good.takesF:∀ {F:List Tri3} {E:Es} {M:List Tri3},Good E (F ++ M)→Good (F.foldl takeT E) M
 | [],_,_,h=>h
 | T :: F,E,M,h=>by
  obtain ⟨_,h2⟩:=Good.take (E:=E) (T:=T) (M:=F ++ M) h;exact Good.takesF (F:=F) h2
end
end Go.Proofs.YtogffkimgmlilaaGreat
