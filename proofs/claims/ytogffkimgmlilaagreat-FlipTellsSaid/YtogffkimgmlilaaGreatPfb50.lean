/- Put together: Blt8, RowP, Cpts, Stx. -/
import Derived.Test.YtogffkimgmlilaaGreatPfb49
import Derived.OpenShut
set_option maxRecDepth 100000
set_option maxHeartbeats 8000000
set_option linter.all false
namespace Go.Proofs.YtogffkimgmlilaaGreat
open _root_.Go.Proofs.Tryz
section
open Go.RowKit Go.Sort
attribute [local go_sem] rOper rAt rUpon cell_set sg_i64 sg_u64 alloc_cell alloc_frozen
attribute [local go_sem 10000] pt_eql pt_neq tri_eql
attribute [local irreducible] rWalk
def Built8Post (s:Int) (P:List Int) (m0:Nat) (w:World) (e:Ending) (w':World):Prop:=
 ∃ m2 b2 sb a0 c0 cb mb b db v E2 E L D,e=.returned (.tuple #[pt0 m2,pt0 sb,pt0 cb])∧Box w' m2 [.map (some b2)] 81∧HoldsMap eW eT okW w' b2 E2∧Good E2 L∧SetRd w' sb a0 c0 D.length D ∧
  CdtAt w' cb mb b db v s s E D∧CInvW s s E L D∧(∀ q,someC L q↔PutPt s P q)∧L.length≤2+2 * P.length∧D.length≤100000∧(m0=0→∀ x∈D,x.K=2)∧Below w w w'∧w.heap.size≤m2∧w.heap.size≤b2∧(w.heap.size≤b∧w.heap.size≤db)∧m2≠b∧m2≠db∧b2≠b∧b2≠db
theorem built8_any (s:Int) (hs:0 < s) (hs2:s≤60) (a0 a1:Option Addr) (n m0 c0 c1:Nat) (P:List Int) (hP:Hid (P.length=n)) (hn:n≤30) (Q:List Pt) (hQ:Hid (Q.length=m0)) (hm0:m0≤30) (w:World) (h0:RowAt cI 1 w a0 P) (hq0:RowAt cP 2 w a1 Q):Calls prog 9 #[s,.slice a0 n c0,.slice a1 m0 c1] w (Built8Post s P m0 w):=by
 have cn:=zG5 s s hs hs (by omega) (by omega);have csp:=fun x=>zHi s x hs hs2
 go_enter func9,ntmps9
 go_wp2_with fail;refine (cn _).mono ?_;rintro e w1 ⟨cb,mb,b,db,v,E,L,D,rfl,S,hI,hL,hC,hD,hw,hb1,hb2,hb3,hb4⟩;have hC':=hdd (show ∀ q,someC L q↔PutPt s [] q from fun q=>by rw [hC q];simp [PutPt]);have hI':=hdd hI;have hL':=hdd (show L.length≤2+2 * 0 by omega);have hD':=hdd (show D.length≤4+2 * 0 by rw [hD.length_eq];simp);have hK':=hdd (show ∀ x∈D,x.K=2 from fun x hx=>by
  obtain ⟨a,b,e,_⟩:=zG0 hs hs (by omega) (by omega) 0;have hm:=hD.mem_iff.1 hx;simp only [jA1,jA6,jAw] at hm;have hk:∀ i,(sqW s s i).K=2:=fun i=>by
   obtain ⟨a,b,e,_⟩:=zG0 hs hs (by omega) (by omega) i;rw [e]
  rcases hm with rfl | rfl | rfl | rfl <;> exact hk _)
 replace hb1:=hdd hb1;replace hb2:=hdd hb2;clear cn hI hL hC hD;go_wp2_with fail
 go_loopw [10] (fun vi wr=>∃ (k:Nat) (v:Value) (E:Es) (L:List Tri3) (D:List Wl),vi=.int .i64 k∧k≤n∧CdtAt wr cb mb b db v s s E D∧Hid (CInvW s s E L D)∧Hid (∀ q,someC L q↔PutPt s (P.take k) q)∧Hid (L.length≤2+2 * k)∧Hid (D.length≤4+2 * k)∧Hid (∀ x∈D,x.K=2)∧Below w w wr) (fun vi _=>n - (intOf vi).toNat)
 case atStart=>exact ⟨0,v,E,L,D,rfl,jAt _,S,hI',by simpa using hC',hL',hD',hK',hw⟩
 case round=>
  clear S hI' hC' hL' hD' hK' hw;obtain ⟨k,v,E,L,D,rfl,hk,S,hI,hC,hL,hD,hK,hw⟩:=hrel;by_cases hlt:k < n
  case neg=>
   obtain rfl:n=k:=by omega
   have hC2:=hdd (show ∀ q,someC L q↔PutPt s P q from fun q=>by rw [hC.out q,jAe (by rw [hP.out];omega)]);clear hC hlt hk;have hDQ:=hdd (show D.length≤64+186 * 0 by have:=hD.out;omega);have hKQ:=hK;clear hK;have hLQ:=hdd (show L.length≤2+2 * n from hL.out);clear hD hL;go_wp2
   go_loopw [11] (fun vi wr=>∃ (k:Nat) (v:Value) (E:Es) (L:List Tri3) (D:List Wl),vi=.int .i64 k∧k≤m0∧CdtAt wr cb mb b db v s s E D∧Hid (CInvW s s E L D)∧Hid (∀ q,someC L q↔PutPt s P q)∧Hid (L.length≤2+2 * n)∧Hid (D.length≤64+186 * k)∧Hid (k=0→∀ x∈D,x.K=2)∧Below w w wr) (fun vi _=>m0 - (intOf vi).toNat)
   case atStart=>exact ⟨0,v,E,L,D,rfl,jAt _,S,hI,hC2,hLQ,hDQ,hdd (fun _=>hKQ.out),hw⟩
   case round=>
    clear S hI hC2 hLQ hDQ hKQ hw;obtain ⟨k,v,E,L,D,rfl,hk,S,hI,hC2,hL,hD,hKQ,hw⟩:=hrel;by_cases hlt:k < m0
    case neg=>
     have hkn:¬ (k:Int) < (m0:Int):=by omega
     clear hlt;have hG:=hI.out.good;have hLk:=hL.out;have hE:E.length≤1000000:=by rw [hG.len];omega
     have ht:=fun W B H=>rtris_any mb b E hE W B H;have hp0:(srt cmpT (heads (fun _=>true) E)).Perm L:=(srt_perm _).trans hG.heads;generalize srt cmpT (heads (fun _=>true) E)=I at *
     obtain ⟨m,hm⟩:∃ m,I.length=m:=⟨_,rfl⟩;rw [hm] at ht;have hm1:m≤1000000:=by rw [←hm,hp0.length_eq];omega
     have hv:∀ T∈I,valT T=true:=fun T h=>hG.val T (hp0.mem_iff.1 h);have hgo:=Good.puts (I:=I) (E:=[]) (M:=[]) ⟨by simp,by simp [KeysNodup],by simp⟩ hv (by
      rw [jAs];exact ((hp0.flatMap_right ways).nodup_iff).2 hG.once)
     rw [jAs,hm] at hgo;obtain ⟨hg1,hg2⟩:=hgo;have hG2:=hdd (show Good (putRun [] I).2 L from ⟨hg2.perm.trans (hp0.flatMap_right wys),hg2.nodup,hG.val⟩);have hn2:=fun a cap W H=>mnew_1 a cap m I (hdd hm) hm1 (fun T h=>zB7 (hv T h)) hg1 W H;clear hg1 hg2 hv hp0 hm1 hE hG hLk hm;have Fs:=S.box.f;go_wp2_with fail;clear Fs;refine (ht _ S.mesh S.map).mono ?_;rintro e w5 ⟨a5,c5,rfl,hr5,hb⟩;replace S:=S.ee hb;have hw5:=(upB hw hb);clear hb ht hw;go_wp2_with fail;refine (hn2 _ _ _ hr5).mono ?_;rintro e w6 ⟨m2,b2,rfl,B2,H2,h1,h2,hb⟩;have S6:=S.ee hb;have hw6:=(upB hw5 hb);have hbl:=S.map.lt;have hdl:=S.doc.box.lt;clear hb hn2 hr5;obtain ⟨a9,c9,rfl,Dr,hz⟩:=S6.doc.rd;have hD9:D.length < 1000000:=by have:=hD.out;omega
     have cw:=fun W R=>zO0 (a:=a9) (c:=c9) hD9 Dr.flat (fun e=>(hz e).1) hI.out.wal.ris hI.out.wal.apart hI.out.wal.good W R;have Fs:=S6.box.f;have Fd:=Dr.box.f;go_wp2_with fail;clear Fs Fd;refine (cw _ Dr.row).mono ?_;rintro e w7 ⟨sb,v7,rfl,A7,hs7,_,hb⟩;obtain ⟨a7,c7,rfl,R7⟩:=A7.rd;have S7:=S6.ee hb;have hw7:=(upB hw6 hb);have B7:=B2.ee hb;have H7:=H2.ee hb;clear hb cw A7;go_wp2;refine bodyPost_ret (v:=.tuple #[pt0 m2,pt0 sb,pt0 cb]) (by simp [results,results9,go_sem]) rfl ?_;exact ⟨m2,b2,sb,a7,c7,cb,mb,b,db,_,_,E,L,D,rfl,B7,H7,hG2.out,R7,S7,hI.out,hC2.out,by rw [hP.out];exact hL.out,by have:=hD.out;omega,fun e=>hKQ.out (by omega),hw7,jAp hw5.size h2,jAp hw5.size h1,⟨hb1.out,hb2.out⟩,by omega,by omega,by omega,by omega⟩
    case pos=>
     have hlk:k < Q.length:=hQ.out▸hlt;obtain ⟨ad,A,ea,eA,hA0⟩:=hq0.two hlk;have hA:=hA0.ee hw;generalize Q[k]=x at *
     have cs1:=fun w0=>zHi s x.x hs hs2 w0;have cs2:=fun w0=>zHi s x.y hs hs2 w0;have hLk:=hL.out;have hDk:=hD.out;have ca:=fun p q W0 S0=>rcaddwX_any cb mb b db v s s hs hs (by omega) (by omega) E L D hI.out (by omega) (by omega) p q W0 S0;subst ea;obtain ⟨s0,s1⟩:=hA.cells;have q0:(k:Int) < (m0:Int):=by omega
     clear hA hA0 hLk hDk;go_wp2_with fail;refine wrt 15 (by kernel_rfl) (by kernel_rfl) ?_;simp only [tK1,tK0,dP1,dP0];refine wkx ?_;intro w3 hb;clear s0 s1 cs1 cs2;replace S:=S.ee hb;replace hw:=upB hw hb;clear hb;go_wp2_with fail;refine (ca _ _ w3 S).mono ?_;rintro e w4 ⟨r,v',E1,E',L',D',rfl,S',hI2,_,_,_,hC3,hL2,hD2,hf⟩;have hw4:Below w w w4:=hw.trans (hf.below (fun j hj=>by have:=hb1.out;have:=hb2.out;rcases hj with rfl | rfl <;> omega) hw.size);have hC4:=hdd (show ∀ q,someC L' q↔PutPt s P q from fun q=>(hC3 q).trans (hC2.out q));have hL3:=hdd (show L'.length≤2+2 * n by rw [hL2];exact hL.out);have hD3:=hdd (show D'.length≤64+186 * (k+1) by have:=hL.out;have:=hD.out;omega);have hI3:=hdd hI2;clear hC3 hL2 hD2 hf hI2 S hw ca hC2 hL hD hI;go_wp2_with fail
     go_roundw
     case rel=>exact ⟨k+1,v',E',L',D',by go_num,by omega,S',hI3,hC4,hL3,hD3,hdd (fun e=>absurd e (Nat.succ_ne_zero k)),hw4⟩
     case measure=>simp [intOf];omega
  case pos=>
   have hlk:k < P.length:=hP.out▸hlt;have HN:=hdd (show P.take (k+1)=P.take k ++ [P[k]] from jAb hlk);obtain ⟨ad,ea,hab0,hA0⟩:=h0.num hlk;have hA:=(h0.ee hw).num hlk;obtain ⟨ad2,ea2,hab,hA⟩:=hA;obtain rfl:ad=ad2:=by rw [ea] at ea2;exact jAl ea2
   clear hA0 ea2;generalize P[k]=x at *
   go_wp2_with fail;refine (csp x _).mono ?_;rintro e w3 ⟨rfl,hb⟩;replace S:=S.ee hb;replace hw:=upB hw hb;clear hb hA;go_wp2_with fail;have hLk:=hL.out;have hDk:=hD.out;refine (zIn cb mb b db v s s hs hs (by omega) (by omega) E L D hI.out (by omega) (by omega) (spt s x) _ S).mono ?_;rintro e w4 ⟨r,v',E',L',D',rfl,S',hI2,hr,hC2,hL2,hD2,hkk,hf⟩;have hw4:Below w w w4:=hw.trans (hf.below (fun j hj=>by have:=hb1.out;have:=hb2.out;rcases hj with rfl | rfl <;> omega) hw.size);have hC3:=hdd (show ∀ q,someC L' q↔PutPt s (P.take (k+1)) q from fun q=>by
    rw [hC2 q,hC.out q,HN.out];have hin:inBox s s (spt s x):=zLv hs x;unfold PutPt;constructor
    ·rintro ((h | ⟨y,h1,h2⟩) | ⟨h,_⟩)
     ·exact .inl h
     ·exact .inr ⟨y,jB4 _ h1,h2⟩
     ·exact .inr ⟨x,by simp,h⟩
    ·rintro (h | ⟨y,h1,h2⟩)
     ·exact .inl (.inl h)
     ·rcases jAg.1 h1 with h1 | h1
      ·exact .inl (.inr ⟨y,h1,h2⟩)
      ·rw [jC5] at h1;rw [h1] at h2;exact .inr ⟨h2,hin⟩)
   have hL3:=hdd (show L'.length≤2+2 * (k+1) by omega);have hD3:=hdd (show D'.length≤4+2 * (k+1) by omega);have hI3:=hdd hI2;have hK3:=hdd (show ∀ x∈D',x.K=2 from fun x hx=>by obtain ⟨y,hy,e⟩:=hkk x hx;rw [e];exact hK.out y hy);clear hkk hK;clear hC2 hL2 hD2 hf hr hLk hDk hI2 S hw;go_wp2_with fail;rw [←ea]
   go_roundw
   case rel=>exact ⟨k+1,v',E',L',D',by go_num,by omega,S',hI3,hC3,hL3,hD3,hK3,hw4⟩
   case measure=>simp [intOf];omega
end
section
open Go.RowKit Go.Sort Go.ChangeShapes Go.WideShapes Go.ChangeAt
section
variable {H:Type} {enc:TypeId×Value→H} {w:World} {base:Nat→Bool} {spare:Bool}
theorem trod_two {b0:Nat} {fuel:Nat} {cs:List Value} {y:DataW H×List MemPlace} (hl:cs.length=2) (hf:DataW.trod enc prog w b0 base spare fuel 78 cs=some y):∃ x:Pt,cs=cP x:=by
 match cs,hl with
 | [v0,v1],_=>
  obtain ⟨xs,m,rfl,_,_,hx,hi⟩:=DataW.trod_array underlying78 hf;have e1:prog.cellsOf 3=1:=by kernel_rfl
  have h0:=hi 0 (by omega);have h1:=hi 1 (by omega);rw [e1] at h0 h1;simp at h0 h1;rw [jA8 (by omega)] at h0 h1;obtain ⟨a0,k0,_⟩:=DataW.trod_int underlying3 h0;obtain ⟨a1,k1,_⟩:=DataW.trod_int underlying3 h1;simp at k0 k1;exact ⟨⟨a0,a1⟩,by unfold cP;rw [k0,k1]⟩
theorem open_rowP2 {r:Reach} {b0 b1:Nat} {v:Value} {d:DataW H} {p:List MemPlace} (hv:Value.okWide prog w r b1 23 v) (h:DataW.Trod enc prog w b0 base spare 23 v d p):∃ (a:Option Addr) (n cap:Nat) (L:List Pt),v=.slice a n cap∧L.length=n∧RowAt cP 2 w a L:=by
 obtain ⟨a0,n0,k0,rfl⟩:=okWide_slice underlying23 hv;obtain ⟨fuel,hf⟩:=h;simp only [Value.cells] at hf;rcases Deep.open_slice underlying23 hf with ⟨hcs,_⟩ | ⟨a,len,cap,m,n,D,Pl,hcs,hb,hl,hm,hmm,hx,hi⟩
 ·simp only [jDy,Value.slice.injEq,jE8] at hcs;obtain ⟨rfl,rfl,rfl⟩:=hcs;exact ⟨none,0,0,[],rfl,rfl,fun j x hx=>(by simp at hx)⟩
 ·simp only [jDy,Value.slice.injEq,jE8] at hcs;obtain ⟨rfl,rfl,rfl⟩:=hcs;have hlm:n0≤m:=by rw [hmm];split <;> omega
  have each:∀ i,i < n0→∃ T:Pt,∀ j u,(cP T)[j]? = some u→w.cell? ((a.add (i * 2)).add j)=some u:=fun i hin=>by
   obtain ⟨cs',h1,h2⟩:=hi i (by omega);rw [show prog.cellsOf 78=2 by kernel_rfl] at h1;obtain ⟨_,hlen,hcell⟩:=World.cells?_some h1;obtain ⟨T,rfl⟩:=trod_two hlen h2;refine ⟨T,fun j u hu=>?_⟩;rw [hcell j (by have:=(jAj.1 hu).1;rwa [hlen] at this)];exact hu
  obtain ⟨f,hf2⟩:=Deep.choose_lt each;refine ⟨some a,n0,k0,(List.range n0).map f,rfl,by simp,fun j x hx=>?_⟩;rw [jDj] at hx;obtain ⟨i,hi1,rfl⟩:=Option.map_eq_some_iff.1 hx;have hj:j < n0∧i=j:=by
   obtain ⟨h1,h2⟩:=jAj.1 hi1;simp at h1 h2;exact ⟨h1,h2.symm⟩
  obtain ⟨hj,rfl⟩:=hj;have hc:=hf2 i hj;refine ⟨a,rfl,?_,hc⟩;have h4:=hc 0 _ rfl;unfold World.cell? at h4;rw [zAo,zAo] at h4;rcases jCm a.block w.heap.size with h' | h'
  ·exact h'
  ·simp [jE2 h'] at h4
end
end
section
open Go.RowKit Go.Sort
attribute [local go_sem] rOper rAt rUpon cell_set sg_i64 sg_u64 alloc_cell alloc_frozen
attribute [local go_sem 10000] pt_eql pt_neq tri_eql
attribute [local irreducible] rWalk
theorem rising_nodup {M:List Pt} (h:Rising cmpP M):M.Nodup:=h.imp fun {a b} hab e=>by
 subst e;have h0:=wholeP.eq0.2 (rfl:a=a);omega
theorem cpoints_any (cb mb b db:Nat) (v:Value) (W H:Int) (E:Es) (D:List Wl) (hE:E.length≤100000) (w:World) (S:CdtAt w cb mb b db v W H E D):Calls prog 25 #[pt0 cb] w fun e w'=>∃ (M:List Pt) (a:Option Addr) (cap:Nat),e=.returned (.slice a M.length cap)∧RowAt cP 2 w' a M∧Rising cmpP M∧(∀ p,p∈M↔p∈cnrs (srt cmpT (heads (fun _=>true) E)))∧Below w w w':=by
 have ht:=fun W B H=>rtris_any mb b E (by omega) W B H;have hl:=hdd (show (srt cmpT (heads (fun _=>true) E)).length≤100000 from by rw [(srt_perm _).length_eq];exact jAp (heads_len _ _) hE);generalize srt cmpT (heads (fun _=>true) E)=I at *
 obtain ⟨m,hm⟩:∃ m,I.length=m:=⟨_,rfl⟩;have HI:=hdd hm;rw [hm] at ht;clear hm hE;have BC:=S.box;have BM:=S.mesh;have HM:=hdd S.map;clear S;have Fc:=BC.f
 go_enter func25,ntmps25
 go_wp2_with fail;refine (ht _ BM HM.out).mono ?_;rintro e w1 ⟨a1,c1,rfl,hr1,hb1⟩;go_wp2_with fail;refine (rcorners_any a1 c1 m I HI (by have:=hl.out;have:=HI.out;omega) _ hr1).mono ?_;rintro e w2 ⟨M,a2,c2,rfl,hr2,hR,hM,hb2⟩;have hP:=hdd hM;clear hM;go_wp2;refine bodyPost_ret (v:=.slice a2 M.length c2) (by simp [results,results25,go_sem]) rfl ?_;exact ⟨M,a2,c2,rfl,hr2,hR,hP.out,(upB hb1 hb2)⟩
end
section
open Go.RowKit Go.Sort
theorem rgx {P : Program} {id : Nat} {Q : Exit → Act → World → Prop} {a A : Act} {w : World} {l r : List Oper} (n : Nat)
    (k:∀ w',Below w w w'→wpList P l.toArray Q r A w')
    (hm:P.follows .mixedOrders=true:=by kernel_rfl) (hB:plainB .any l.toArray n=true:=by kernel_rfl)
    (hr:l.drop n=r:=by (simp only [dP1,dP0];try rfl))
    (h:rWalk P l.toArray (fun w'=>∃ p:Regrown,w'=grow (redrawn w p.d) p.os) (fun a'=>a'=A) (l.take n) a:=by
     simp only [jBf,jCg];repeat (first | (refine zA7 (Eq.refl false) ?_;simp only [Act.put,sT2,sT1,sT0]) | (refine rWalk_step (fun K hK=>?_);go_simp;first | (refine hK _ ?_;clear hK K) | (apply Exists.intro;refine ⟨fun _=>?_,hK _ ?_⟩;(first | with_reducible exact toExt (by assumption) _ | with_reducible exact toExt2 (by assumption) _ _);clear hK K)))
     exact rWalk_nil rfl):(Code.region id l.toArray true).wp P Q a w:=by
 refine wp_region_tail n hm hB rgB ?_;rw [hr];have aux:∀ (L:List Oper) (b:Act) (C:World→Prop),rWalk P l.toArray C (fun a'=>a'=A) L b→rWalk P l.toArray C (fun a'=>∀ w',Below w w w'→wpList P l.toArray Q r a' w') L b:=by
  intro L;induction L with
  | nil=>intro b C h;simp only [rWalk] at h ⊢;rw [h];exact k
  | cons o rest ih=>
   intro b C h;simp only [rWalk] at h ⊢;split
   ·rename_i hw
    rw [jAc hw] at h;obtain ⟨v,h1,h2⟩:=h;exact ⟨v,h1,ih _ _ h2⟩
   ·rename_i hw
    rw [jA0 hw] at h;exact ih _ _ h
 exact aux _ _ _ h
theorem rlx {P : Program} {id : Nat} {Q : Exit → Act → World → Prop} {a A : Act} {w : World} {l r : List Oper} {c0 c1 c2 c3 c4 c5 : Value} {T : TypeId} {oj os : Oper} (m : Nat) (d t : Tmp)
    (k:∀ w' b,Below w w w'→w.heap.size≤b→b < w'.heap.size→Box w' b [c0,c1,c2,c3,c4,c5] T→wpList P l.toArray Q r (A.put (some d) (.pointer (some ⟨b,0,none⟩))) w')
    (hoj:l.toArray[m]? = some oj:=by rfl) (hos:l.toArray[m+1]? = some os:=by rfl) (hjd:oj.dst=some d:=by rfl) (hafter:oj.after=#[]:=by rfl) (hguard:oj.guard=none:=by rfl) (hsd:os.dst=none:=by rfl) (hsg:os.guard=none:=by rfl)
    (hdsz:d < a.tmps.size:=by simp)
    (hrun:∀ (ρ:Operand→Value) (w:World),(execOp ρ oj).run P w=.ok (.value (.pointer (some ⟨w,0,none⟩))) (w.alloc (.cells #[(),(),(),(),(),()] T)):=by (intro ρ W;simp [execOp,go_sem];rfl))
    (hm:P.follows .mixedOrders=true:=by kernel_rfl) (hB:lateB .any l.toArray (m+2) m (m+1) d t=true:=by as_aux_lemma=>kernel_rfl)
    (hr:l.drop (m+2)=r:=by (simp only [dP1,dP0];try rfl))
    (h:rWalk P l.toArray (fun w'=>∃ p:Regrown,w'=grow (redrawn w p.d) p.os) (fun a'=>a'=A) (l.take m) a:=by
     simp only [jBf,jCg];repeat (first | (refine zA7 (Eq.refl false) ?_;simp only [Act.put,sT2,sT1,sT0]) | (refine rWalk_step (fun K hK=>?_);go_simp;first | (refine hK _ ?_;clear hK K) | (apply Exists.intro;refine ⟨fun _=>?_,hK _ ?_⟩;(first | with_reducible exact toExt (by assumption) _ | with_reducible exact toExt2 (by assumption) _ _);clear hK K)))
     exact rWalk_nil rfl)
    (he:A.eval (.tmp t)=.agg #[c0,c1,c2,c3,c4,c5]:=by rfl)
    (hst:∀ (ρ:Operand→Value) (w:World) (b:Nat),ρ (.tmp d)=.pointer (some ⟨b,0,none⟩)→ρ (.tmp t)=.agg #[c0,c1,c2,c3,c4,c5]→Box w b [(),(),(),(),(),()] T→(execOp ρ os).run P w=.ok .skip (eff6 c0 c1 c2 c3 c4 c5 b w):=by
     (intro ρ W b e1 e2 hB;obtain ⟨x,y,_,_⟩:=hB.f;simp [execOp,go_sem,e1,e2,x,y,eff6])):(Code.region id l.toArray true).wp P Q a w:=
 zC7 m d t [c0,c1,c2,c3,c4,c5] (zs:=[(),(),(),(),(),()]) (eff:=eff6 c0 c1 c2 c3 c4 c5) zI4 hoj hos hjd hafter hguard hsd hsg hdsz hrun hm hB rgB
  (walk_to (A:=A) ⟨he,fun w' b h1 h2 h3 h4=>by rw [hr];exact k w' b h1 h2 h3 h4⟩ _ _ _ h) hst
end
end Go.Proofs.YtogffkimgmlilaaGreat
