/- Put together: FenC, FenD, FenE, FenR, FenEw. -/
import Derived.Test.YtogffkimgmlilaaGreatPfb41
set_option maxRecDepth 100000
set_option maxHeartbeats 8000000
set_option linter.all false
namespace Go.Proofs.YtogffkimgmlilaaGreat
open _root_.Go.Proofs.Tryz
section
open Go.RowKit Go.Sort
attribute [local go_sem] rOper rAt rUpon cell_set sg_i64 sg_u64 alloc_cell alloc_frozen
attribute [local go_sem 10000] pt_eql pt_neq tri_eql
attribute [local irreducible] rWalk
def addsW (k:Int):List Pt→Es→List Wl→Es→List Wl→Prop
 | x :: y :: M,E,D,E2,D2=>∃ Q0 j,Q0.Perm (crossD x y E)∧PutAt D (mkW x y k) j∧addsW k (y :: M) (forceR x y capN E Q0).1 (insW D (mkW x y k) j) E2 D2
 | _,E,D,E2,D2=>E2=E∧D2=D
def calm (D:List Wl) (M:List Pt):Prop:=∀ (i:Nat) (h:i+1 < M.length),clashD D M[i] M[i+1]=0
def AddWR (E:Es) (D:List Wl) (p q:Pt) (k r:Int) (E2:Es) (D2:List Wl):Prop:=
 (r≠0∧E2=E∧D2=D)∨(r=0∧(k=1∨k=2)∧p≠q∧vld p=true∧vld q=true∧starE p E≠[]∧starE q E≠[]∧∃ M,PartsL E p q M∧calm D M∧addsW k M E D E2 D2)
def AddWPost (b db:Nat) (E:Es) (D:List Wl) (p q:Pt) (k:Int) (w:World) (e:Ending) (w':World):Prop:=
 ∃ r E2 D2 v2,e=.returned (.int .i64 r)∧AddWR E D p q k r E2 D2∧HoldsMap eW eT okW w' b E2∧DocAt w' db v2 D2∧Frm w w' (fun x=>x=b∨x=db)
theorem raddw_b0_1 (mb b db:Nat) (E:Es) (p q:Pt) (k:Int) (h1:(k != 1)=false) (e0:peqI p.x p.y q.x q.y=true) (w:World) (Bm:Box w mb [.map (some b)] 90) (Hm:HoldsMap eW eT okW w b E):Calls prog 74 #[pt0 mb,pt0 db,p,q,k] w (Rt w (.int .i64 2)):=by
 have cp:=fun w0 B1 H1=>rparts_b0 mb b E p q e0 w0 B1 H1;clear e0
 go_enter func74,ntmps74
 go_wp2_with fail;refine qE2 fun W1 Bp Bq hw=>?_;refine qC2 (cp _ (Bm.ee hw) (Hm.ee hw)) Bp Bq hw fun w2 Bp Bq hw F_pq=>?_;go_wp2
 go_ret
 exact ⟨rfl,by have hl:=hw.size;go_grown⟩
theorem raddw_b1_1 (mb b db:Nat) (E:Es) (p q:Pt) (k:Int) (h1:(k != 1)=false) (e0:peqI p.x p.y q.x q.y=false) (e1:vld p=false) (w:World) (Bm:Box w mb [.map (some b)] 90) (Hm:HoldsMap eW eT okW w b E):Calls prog 74 #[pt0 mb,pt0 db,p,q,k] w (Rt w (.int .i64 2)):=by
 have cp:=fun w0 B1 H1=>rparts_b1 mb b E p q e0 e1 w0 B1 H1;clear e0
 go_enter func74,ntmps74
 go_wp2_with fail;refine qE2 fun W1 Bp Bq hw=>?_;refine qC2 (cp _ (Bm.ee hw) (Hm.ee hw)) Bp Bq hw fun w2 Bp Bq hw F_pq=>?_;go_wp2
 go_ret
 exact ⟨rfl,by have hl:=hw.size;go_grown⟩
theorem raddw_b2_1 (mb b db:Nat) (E:Es) (p q:Pt) (k:Int) (h1:(k != 1)=false) (e0:peqI p.x p.y q.x q.y=false) (e1:vld p=true) (e2:vld q=false) (w:World) (Bm:Box w mb [.map (some b)] 90) (Hm:HoldsMap eW eT okW w b E):Calls prog 74 #[pt0 mb,pt0 db,p,q,k] w (Rt w (.int .i64 2)):=by
 have cp:=fun w0 B1 H1=>rparts_b2 mb b E p q e0 e1 e2 w0 B1 H1;clear e0
 go_enter func74,ntmps74
 go_wp2_with fail;refine qE2 fun W1 Bp Bq hw=>?_;refine qC2 (cp _ (Bm.ee hw) (Hm.ee hw)) Bp Bq hw fun w2 Bp Bq hw F_pq=>?_;go_wp2
 go_ret
 exact ⟨rfl,by have hl:=hw.size;go_grown⟩
theorem raddw_n1_1 (mb b db:Nat) (E:Es) (p q:Pt) (k:Int) (h1:(k != 1)=false) (hE:E.length≤500000) (e0:peqI p.x p.y q.x q.y=false) (e1:vld p=true) (e2:vld q=true) (s1:starE p E=[]) (w:World) (Bm:Box w mb [.map (some b)] 90) (Hm:HoldsMap eW eT okW w b E):Calls prog 74 #[pt0 mb,pt0 db,p,q,k] w (Rt w (.int .i64 16)):=by
 have cp:=fun w0 B1 H1=>rparts_n1 mb b E p q hE e0 e1 e2 s1 w0 B1 H1;clear e0
 go_enter func74,ntmps74
 go_wp2_with fail;refine qE2 fun W1 Bp Bq hw=>?_;refine qC2 (cp _ (Bm.ee hw) (Hm.ee hw)) Bp Bq hw fun w2 Bp Bq hw F_pq=>?_;go_wp2
 go_ret
 exact ⟨rfl,by have hl:=hw.size;go_grown⟩
theorem raddw_n2_1 (mb b db:Nat) (E:Es) (p q:Pt) (k:Int) (h1:(k != 1)=false) (hE:E.length≤500000) (e0:peqI p.x p.y q.x q.y=false) (e1:vld p=true) (e2:vld q=true) (s1:starE p E≠[]) (s2:starE q E=[]) (w:World) (Bm:Box w mb [.map (some b)] 90) (Hm:HoldsMap eW eT okW w b E):Calls prog 74 #[pt0 mb,pt0 db,p,q,k] w (Rt w (.int .i64 16)):=by
 have cp:=fun w0 B1 H1=>rparts_n2 mb b E p q hE e0 e1 e2 s1 s2 w0 B1 H1;clear e0
 go_enter func74,ntmps74
 go_wp2_with fail;refine qE2 fun W1 Bp Bq hw=>?_;refine qC2 (cp _ (Bm.ee hw) (Hm.ee hw)) Bp Bq hw fun w2 Bp Bq hw F_pq=>?_;go_wp2
 go_ret
 exact ⟨rfl,by have hl:=hw.size;go_grown⟩
theorem RowAt.ne_slice {w:World} {ad:Addr} {M:List Pt} {db:Nat} {x:Option Addr} {n c:Nat} {T:TypeId} (h:RowAt cP 2 w (some ad) M) (hM:0 < M.length) (hB:Box w db [.slice x n c] T):ad.block≠db:=by
 intro e;obtain ⟨ad2,A,e2,e3,hA⟩:=h.two hM;obtain rfl:ad=ad2:=jAl e2;have hb:A.block=db:=by rw [←e3,zAo];exact e
 have h1:=hA.2.1;unfold Box at hB;unfold World.cell? at h1;rw [hb,hB] at h1;simp only at h1;split at h1
 ·cases h1
 ·cases ho:A.off with
  | zero=>rw [ho] at h1;simp at h1
  | succ m=>rw [ho] at h1;simp at h1
theorem zKq (x y:Pt) {k:Int} (hk:k=1∨k=2):0≤(mkW x y k).K∧(mkW x y k).K≤2:=by
 unfold mkW;split <;> simp;omega
theorem zKl {E:Es} {p q:Pt} {M:List Pt} (h:PartsL E p q M) (hp:p∈onE E p q):0 < M.length∧M.length≤E.length:=by
 refine ⟨jDn ((h.1 p).2 hp),?_⟩;have nd:∀ {L:List Pt},Rising cmpP L→L.Nodup:=fun h=>h.imp fun {x y} h e=>by subst e;have:=(cmpP_eq0 (p:=x) (q:=x)).2 rfl;omega
 have hn:M.Nodup:=by
  rcases h.2 with h | h
  ·exact nd h.1
  ·exact (List.reverse_perm M).nodup_iff.1 (nd h.1)
 exact jAp (zDi M (onE E p q) hn (fun x hx=>(h.1 x).1 hx)) (zM9 E p q)
theorem raddw_ok_1 (mb b db:Nat) (E:Es) (L:List Tri3) (hE:E.length≤90000) (g:Good E L) (v:Value) (D:List Wl) (hD:D.length≤100000) (hgk:∀ x∈D,0≤x.K∧x.K≤2) (p q:Pt) (k:Int) (h1:(k != 1)=false) (e0:peqI p.x p.y q.x q.y=false) (e1:vld p=true) (e2:vld q=true) (s1:starE p E≠[]) (s2:starE q E≠[]) (w:World) (Bm:Box w mb [.map (some b)] 90) (Hm:HoldsMap eW eT okW w b E) (Dw:DocAt w db v D) (hmd:mb≠db):Calls prog 74 #[pt0 mb,pt0 db,p,q,k] w (AddWPost b db E D p q k w):=by
 have HPE:∀ {M:List Pt},PartsL E p q M→p∈onE E p q:=fun {M} _=>by
  obtain ⟨T,hT⟩:=jDt _ s1;unfold starE at hT;obtain ⟨e,he,_⟩:=jAk.1 hT;obtain ⟨he,hp⟩:=jAq.1 he;have hp:e.1.1=p:=by simpa using hp
  unfold onE froms;refine jAq.2 ⟨jAk.2 ⟨e,he,hp⟩,?_⟩;unfold onR btw;have z:det p q p=0:=by unfold det;grind
  have k1:min p.x q.x≤p.x∧p.x≤max p.x q.x:=by omega
  have k2:min p.y q.y≤p.y∧p.y≤max p.y q.y:=by omega
  rw [e1,e2,z,jCo k1,jCo k2];rfl
 have cp:=fun w0 B1 H1=>rparts_ok mb b E p q (by omega) e0 e1 e2 s1 s2 w0 B1 H1
 change ∀ (w0:World) B1 H1,Calls _ _ _ _ (PartsPost E p q w0) at cp
 have HG:=hdd (And.intro e0 (And.intro s1 s2));clear e0 s1 s2
 go_enter func74,ntmps74
 go_wp2_with fail;refine qE2 fun W1 Bp Bq hw=>?_;refine (cp _ (Bm.ee hw) (Hm.ee hw)).mono ?_;rintro e w2 ⟨M,aM,cM,rfl,hrM,hPM,hb⟩;obtain ⟨Bp,Bq,hw,-⟩:=qX2 Bp Bq hw hb;clear hb;have HPM:=hdd hPM;have hMl:=zKl hPM (HPE hPM);have hM0:=hdd hMl.1;have hM1:=hdd (show M.length≤90000 from jAp hMl.2 hE);have S2:=Dw.ee hw;clear hMl hPM;obtain ⟨n,hn⟩:∃ n,M.length=n:=⟨_,rfl⟩;have HN:=hdd hn;rw [hn] at hM0 hM1;rw [hn];clear hn;have HC0:=hdd (show ∀ (j:Nat) (h:j+1 < M.length),j < 0→clashD D M[j] M[j+1]=0 from fun j h h0=>by omega);clear cp Bp Bq;go_wp2
 go_loopw [13] (fun v13 wr=>∃ i:Nat,v13=.int .i64 i∧i≤n∧Hid (∀ (j:Nat) (h:j+1 < M.length),j < i→clashD D M[j] M[j+1]=0)∧RowAt cP 2 wr aM M∧DocAt wr db v D∧Below w w wr) (fun v13 _=>n - (intOf v13).toNat)
 case atStart=>exact ⟨0,rfl,jAt _,HC0,hrM,S2,hw⟩
 case round=>
  clear HC0 hrM S2 hw;obtain ⟨i,rfl,hi,HC,hrM,S2,hw⟩:=hrel;have hn9:n≤90000:=hM1.out;by_cases hlt:i+1 < n
  case neg=>
   have HCL:=hdd (show calm D M from fun j h=>HC.out j h (by rw [HN.out] at h;omega));have q0:decide ((i:Int)+1 < (n:Int))=false:=by simp;omega
   have hiw:i≤90000:=by omega
   have Hb:=Hm.ee hw;have F0:Frm w wr (fun x=>x=b∨x=db):=Frm.of_below hw;have HG0:=hdd (show ∃ Li,Good E Li∧Li.length=L.length from ⟨L,g,rfl⟩);have HK0:=hdd hgk;have HL0:=hdd (show D.length≤D.length+0 from jA9 _);have HS0:=hdd (show ∀ E2 D2,addsW k (M.drop 0) E D E2 D2→addsW k M E D E2 D2 from fun E2 D2 h=>by rw [jC0] at h;exact h);have HDL:=hdd hD;have HEL:=hdd (show 3 * L.length≤90000 by rw [←g.len];exact hE);clear HC hw g hgk hD hlt;go_wp2
   go_loopw [15] (fun v15 wr=>∃ (i:Nat) (Ei:Es) (Di:List Wl) (vi:Value),v15=.int .i64 i∧i≤n∧HoldsMap eW eT okW wr b Ei∧Hid (∃ Li,Good Ei Li∧Li.length=L.length)∧DocAt wr db vi Di∧Hid (∀ x∈Di,0≤x.K∧x.K≤2)∧Hid (Di.length≤D.length+i)∧Hid (∀ E2 D2,addsW k (M.drop i) Ei Di E2 D2→addsW k M E D E2 D2)∧RowAt cP 2 wr aM M∧Frm w wr (fun x=>x=b∨x=db)) (fun v15 _=>n - (intOf v15).toNat)
   case atStart=>exact ⟨0,E,D,_,rfl,jAt _,Hb,HG0,S2,HK0,HL0,HS0,hrM,F0⟩
   case round=>
    clear Hb HG0 S2 HK0 HL0 HS0 hrM F0 q0;obtain ⟨i,Ei,Di,vi,rfl,hi,Hb,HGi,Si,HKi,HLi,HSi,hrM,Fi⟩:=hrel;by_cases hlt:i+1 < n
    case neg=>
     have HR:=hdd (show AddWR E D p q k 0 Ei Di from by
      have hlast:addsW k (M.drop i) Ei Di Ei Di:=by
       have hl:(M.drop i).length≤1:=by rw [jBm,HN.out];omega
       match hm:M.drop i,hl with
       | [],_=>exact ⟨rfl,rfl⟩
       | [_],_=>exact ⟨rfl,rfl⟩
       | _ :: _ :: _,hl=>simp at hl
      obtain ⟨f0,f1,f2⟩:=HG.out;exact .inr ⟨rfl,.inl (by simpa using h1),(fun e=>by rw [e,zBe.2 rfl] at f0;cases f0),e1,e2,f1,f2,M,HPM.out,HCL.out,HSi.out _ _ hlast⟩)
     have q0:decide ((i:Int)+1 < (n:Int))=false:=by simp;omega
     have hiw:i≤90000:=by omega
     clear hlt;go_wp2;refine bodyPost_ret (v:=.int .i64 0) (by simp [results,results74,go_sem]) rfl ?_;exact ⟨0,Ei,Di,vi,rfl,HR.out,Hb,Si,Fi⟩
    case pos=>
     have q0:(i:Int)+1 < (n:Int):=by omega
     have q1:(i:Int) < (n:Int):=by omega
     have hi1:i < M.length:=by rw [HN.out];omega
     have hi2:i+1 < M.length:=by rw [HN.out];omega
     obtain ⟨ad,A,ea,eA,hA⟩:=hrM.two hi1;obtain ⟨ad2,A2,ea2,eA2,hA2⟩:=hrM.two hi2;have HDR:=hdd (show M.drop i=M[i] :: M[i+1] :: M.drop (i+2)∧M.drop (i+1)=M[i+1] :: M.drop (i+2) from ⟨by rw [jBi hi1,jBi hi2],jBi hi2⟩);obtain ⟨x,hx⟩:∃ x,M[i]=x:=⟨_,rfl⟩;obtain ⟨y,hy⟩:∃ y,M[i+1]=y:=⟨_,rfl⟩;rw [hx] at hA HDR;rw [hy] at hA2 HDR;have HX1:=hdd hx;have HY1:=hdd hy;clear hx hy;rw [ea] at ea2;obtain rfl:ad=ad2:=jAl ea2;subst ea;obtain ⟨i1,hj1⟩:∃ i1,i1=i+1:=⟨_,rfl⟩;rw [←hj1] at eA2;have q2:(i1:Int) < (n:Int):=by omega
     have HLT:=hdd hlt;have hq1:IntKind.i64.wrap ((i:Int)+1)=(i1:Int):=by rw [IntKind.wrap_i64];omega
     replace hj1:=hdd hj1;obtain ⟨s0,s1⟩:=hA.cells;obtain ⟨s2,s3⟩:=hA2.cells;have hn9:n≤90000:=hM1.out;clear ea2;go_wp2_with fail;refine rgn 10 (fun w4 hb=>?_);clear s0 s1 s2 s3;have hmb:mb≠b:=Bm.ne_map Hm;have Bm4:=(Fi.box Bm (fun k=>by rcases k with k | k;exact hmb k;exact hmd k)).ee hb;have Hb4:=Hb.ee hb;have Si4:=Si.ee hb;have r4:=hrM.ee hb;have F4:Frm w w4 (fun x=>x=b∨x=db):=Fi.trans (Frm.of_below hb);obtain ⟨Li,gi,hli⟩:=HGi.out;have cf:=rforce_any mb b Ei Li (by rw [gi.len,hli];have:=HEL.out;omega) gi x y w4 Bm4 Hb4;have HGN:=hdd (fun Q0=>show ∃ L',Good (forceR x y capN Ei Q0).1 L'∧L'.length=L.length from by
      obtain ⟨L2,g2,h2⟩:=zIy capN (a:=x) (b:=y) (Q:=Q0) gi;exact ⟨L2,g2,h2.trans hli⟩)
     clear gi hli HGi Hb Si hrM Fi Bm4 hA hA2 hb hmb;go_wp2_with fail;refine cf.mono ?_;rintro e w5 ⟨rfl,Q0,hQ0,hg5,H5⟩;have S5:=Si4.turn Hb4 hg5;have r5:=r4.turn cP_ne Hb4 hg5;have F5:Frm w w5 (fun x=>x=b∨x=db):=F4.trans (Frm.of_grown hg5 (fun g e=>.inl (jAl e).symm));have HGN:=hdd (HGN.out Q0);have HQ:=hdd hQ0;have cw:=zFb x y k;have HW:=hdd (zKq x y (.inl (by simpa using h1)));have HST:=hdd (fun j (hj:PutAt Di (mkW x y k) j)=>show ∀ E2 D2,addsW k (M.drop (i+1)) (forceR x y capN Ei Q0).1 (insW Di (mkW x y k) j) E2 D2→addsW k M E D E2 D2 from fun E2 D2 h=>HSi.out E2 D2 (by
      obtain ⟨d1,d2⟩:=HDR.out;rw [d2] at h;rw [d1];exact ⟨Q0,j,HQ.out,hj,h⟩))
     clear cf hQ0 Hb4 Si4 r4 F4 hg5 HSi;generalize (forceR x y capN Ei Q0).1=E5 at *
     generalize mkW x y k=Z at *
     generalize mkOk x y k=zk at *
     obtain ⟨ad3,A3,ea3,eA3,hA3⟩:=r5.two hi1;obtain ⟨ad4,A4,ea4,eA4,hA4⟩:=r5.two hi2;rw [HX1.out] at hA3;rw [HY1.out] at hA4;obtain rfl:ad=ad3:=jAl ea3;obtain rfl:ad=ad4:=jAl ea4;obtain rfl:A3=A:=by rw [←eA3,eA]
     obtain rfl:A4=A2:=by rw [←eA4,←eA2,hj1.out]
     clear ea3 ea4 eA3 eA4 HX1 HY1 hi1 hi2 HDR;obtain ⟨s0,s1⟩:=hA3.cells;obtain ⟨s2,s3⟩:=hA4.cells;have hw:Below w5 w5 w5:=Below.refl _ _;have hn9:n≤90000:=hM1.out;go_wp2_with fail;refine rgl5 14 16 85 (fun w41 bkz hb h1b h2b Bz=>?_);have hw0z:=hw.size;replace hw:=upB hw hb;have fz:=h1b;have hwz:w5.heap.size≤w5.heap.size:=hw0z;have S6:=S5.ee hb;have H6:=H5.ee hb;have r6:=r5.ee hb;have F6:Frm w w41 (fun x=>x=b∨x=db):=F5.trans (Frm.of_below hb);clear s0 s1 s2 s3 S5 H5 r5 F5 hA3 hA4 cw;clear hb h1b h2b hw0z;simp only [Act.put];have Fz:=Bz.f;have cp:=zCt db vi Di Z (by have:=HLi.out;have:=HDL.out;omega) HKi.out HW.out w41 S6;go_wp2_with fail;refine cp.mono ?_;rintro e w60 ⟨j,v6,rfl,hj,S7,f7,_⟩;have hw6:=hw.size;have hdb:db < w41.heap.size:=S6.box.lt;have H7:HoldsMap eW eT okW w60 b E5:=H6.kept f7.grown (fun e=>S6.box.ne_map H6 (jAl e).symm);obtain ⟨a6,c6,e6,_,_⟩:=S6.rd;have hMp:0 < M.length:=by have:=HN.out;have:=hM0.out;omega
     have hbd:ad.block≠db:=r6.ne_slice (x:=a6) (n:=Di.length) (c:=c6) (T:=50) hMp (by have:=S6.box;rw [e6] at this;exact this);have r7:RowAt cP 2 w60 (some ad) M:=r6.kept f7.grown (fun ad' e k=>hbd (by cases e;exact jAl k));have F7:Frm w w60 (fun x=>x=b∨x=db):=F6.trans2 f7 (fun k hk _=>.inr hk);have HK7:=hdd (show ∀ x∈Di.take j ++ Z :: Di.drop j,0≤x.K∧x.K≤2 from fun x hx=>by
      rcases jAg.1 hx with hx | hx
      ·exact HKi.out x (jC7 hx)
      ·rcases jA1.1 hx with rfl | hx
       ·exact HW.out
       ·exact HKi.out x (jCq hx))
     have HL7:=hdd (show (Di.take j ++ Z :: Di.drop j).length≤D.length+(i+1) by
      have e:=(zCh (L:=Di) (X:=Z) j).length_eq;rw [jAm] at e;have:=HLi.out;omega)
     have HS7:=hdd (HST.out j hj);clear cp f7 S6 H6 r6 F6 hbd hMp hj HST e6 hw hw6 hdb;go_wp2
     go_roundw
     case rel=>exact ⟨i+1,E5,_,v6,by have hjj:=hj1.out;go_num,by have:=HLT.out;omega,H7,HGN,S7,HK7,HL7,HS7,r7,F7⟩
     case measure=>have:=HLT.out;have hjj:=hj1.out;simp [intOf];omega
  case pos=>
   have q0:(i:Int)+1 < (n:Int):=by omega
   have q1:(i:Int) < (n:Int):=by omega
   have hi1:i < M.length:=by rw [HN.out];omega
   have hi2:i+1 < M.length:=by rw [HN.out];omega
   obtain ⟨ad,A,ea,eA,hA⟩:=hrM.two hi1;obtain ⟨ad2,A2,ea2,eA2,hA2⟩:=hrM.two hi2;have HX:=hdd (fun (k0:clashD D M[i] M[i+1]=0)=>show ∀ (j:Nat) (h:j+1 < M.length),j < i+1→clashD D M[j] M[j+1]=0 from fun j h h0=>by
    rcases Nat.lt_or_eq_of_le (Nat.le_of_lt_succ h0) with h1 | h1
    ·exact HC.out j h h1
    ·subst h1;exact k0)
   generalize M[i]=x at *
   generalize M[i+1]=y at *
   rw [ea] at ea2;obtain rfl:ad=ad2:=jAl ea2;subst ea;obtain ⟨a1,c1,rfl,Dr,_⟩:=S2.rd;have cc:∀ d os,Calls prog 109 #[pt0 db,x,y] (grow (redrawn wr d) os) fun e w'=>e=.returned (.int .i64 (clashD D x y))∧Below (grow (redrawn wr d) os).heap.size (grow (redrawn wr d) os) w':=fun d os=>rclash_any db a1 c1 D.length D x y _ (Dr.ext (below_regrown wr d os) rfl);obtain ⟨i1,hj1⟩:∃ i1,i1=i+1:=⟨_,rfl⟩;rw [←hj1] at eA2;have q2:(i1:Int) < (n:Int):=by omega
   have hq1:IntKind.i64.wrap ((i:Int)+1)=(i1:Int):=by rw [IntKind.wrap_i64];omega
   replace hj1:=hdd hj1;obtain ⟨s0,s1⟩:=hA.cells;obtain ⟨s2,s3⟩:=hA2.cells;clear ea2 hA hA2;go_wp2_with fail;refine wrt 11 (by kernel_rfl) (by kernel_rfl) ?_;simp only [tK1,tK0,dP1,dP0];refine wkx ?_;intro w4 hb;clear s0 s1 s2 s3 cc Dr;have r4:=hrM.ee hb;have S4:=S2.ee hb;have hw4:=(upB hw hb);clear hb hrM S2 hw;by_cases hc:clashD D x y=0
   ·have HX:=hdd (HX.out hc);rw [hc];go_wp2
    go_roundw
    case rel=>exact ⟨i+1,by have hjj:=hj1.out;go_num,by omega,HX,r4,S4,hw4⟩
    case measure=>have hjj:=hj1.out;simp [intOf];omega
   ·have hc1:(clashD D x y != 0)=true:=by simp;exact hc
    have HC0:=hdd hc;generalize clashD D x y=r at *
    clear hc HX;go_wp2;refine bodyPost_ret (v:=.int .i64 r) (by simp [results,results74,go_sem]) rfl ?_;exact ⟨r,E,D,_,rfl,.inl ⟨HC0.out,rfl,rfl⟩,Hm.ee hw4,S4,Frm.of_below hw4⟩
theorem zJc {W H:Int} (hW:W < 16777216) (hH:H < 16777216) {k:Int} (hk:k=1∨k=2):∀ (M:List Pt) {E E2:Es} {D D2:List Wl} {L:List Tri3},Good E L→Tiles W H L→(∀ x∈D,0≤x.K∧x.K≤2)→addsW k M E D E2 D2→∃ L2,Good E2 L2∧Tiles W H L2∧L2.length=L.length∧(∀ q,someC L2 q↔someC L q)∧(∀ x∈D2,0≤x.K∧x.K≤2)∧D2.length≤D.length+M.length
 | [],E,E2,D,D2,L,g,t,hD,h=>by obtain ⟨rfl,rfl⟩:=h;exact ⟨L,g,t,rfl,fun _=>jEh,hD,by simp⟩
 | [_],E,E2,D,D2,L,g,t,hD,h=>by obtain ⟨rfl,rfl⟩:=h;exact ⟨L,g,t,rfl,fun _=>jEh,hD,by simp⟩
 | x :: y :: M,E,E2,D,D2,L,g,t,hD,h=>by
  obtain ⟨Q0,j,hQ,hj,h⟩:=h;obtain ⟨L1,g1,t1,k1⟩:=zBt hW hH capN (a:=x) (b:=y) (Q:=Q0) g t (fun z hz=>(zDl (hQ.mem_iff.1 hz)).2.2.1);have hD1:∀ z∈insW D (mkW x y k) j,0≤z.K∧z.K≤2:=fun z hz=>by
   unfold insW at hz;rcases jAg.1 hz with hz | hz
   ·exact hD z (jC7 hz)
   ·rcases jA1.1 hz with rfl | hz
    ·exact zKq x y hk
    ·exact hD z (jCq hz)
  obtain ⟨L2,g2,t2,l2,c2,d2,n2⟩:=zJc hW hH hk (y :: M) g1 t1 hD1 h;have e:(insW D (mkW x y k) j).length=D.length+1:=by unfold insW;rw [(zCh (L:=D) (X:=mkW x y k) j).length_eq,jAm]
  exact ⟨L2,g2,t2,l2.trans k1.len,fun q=>(c2 q).trans (k1.cnr q),d2,by rw [e] at n2;simp at n2 ⊢;omega⟩
theorem raddw_any (mb b db:Nat) (E:Es) (L:List Tri3) (hE:E.length≤90000) (g:Good E L) (v:Value) (D:List Wl) (hD:D.length≤100000) (hgk:∀ x∈D,0≤x.K∧x.K≤2) (p q:Pt) (w:World) (Bm:Box w mb [.map (some b)] 90) (Hm:HoldsMap eW eT okW w b E) (Dw:DocAt w db v D) (hmd:mb≠db):Calls prog 74 #[pt0 mb,pt0 db,p,q,.int .i64 1] w (AddWPost b db E D p q 1 w):=by
 have no:∀ {r:Int} {e:Ending} {w':World},r≠0→e=.returned (.int .i64 r)∧Below w w w'→AddWPost b db E D p q 1 w e w':=fun hr ⟨k1,k2⟩=>⟨_,E,D,v,k1,.inl ⟨hr,rfl,rfl⟩,Hm.ee k2,Dw.ee k2,Frm.of_below k2⟩;have h1:((1:Int) != 1)=false:=rfl;cases e0:peqI p.x p.y q.x q.y with
 | true=>exact (raddw_b0_1 mb b db E p q 1 h1 e0 w Bm Hm).mono fun e w' h=>no (by decide) h
 | false=>
  cases e1:vld p with
  | false=>exact (raddw_b1_1 mb b db E p q 1 h1 e0 e1 w Bm Hm).mono fun e w' h=>no (by decide) h
  | true=>
   cases e2:vld q with
   | false=>exact (raddw_b2_1 mb b db E p q 1 h1 e0 e1 e2 w Bm Hm).mono fun e w' h=>no (by decide) h
   | true=>
    by_cases s1:starE p E=[]
    ·exact (raddw_n1_1 mb b db E p q 1 h1 (by omega) e0 e1 e2 s1 w Bm Hm).mono fun e w' h=>no (by decide) h
    ·by_cases s2:starE q E=[]
     ·exact (raddw_n2_1 mb b db E p q 1 h1 (by omega) e0 e1 e2 s1 s2 w Bm Hm).mono fun e w' h=>no (by decide) h
     ·exact raddw_ok_1 mb b db E L hE g v D hD hgk p q 1 h1 e0 e1 e2 s1 s2 w Bm Hm Dw hmd
theorem onE_first {E:Es} {p q:Pt} (s1:starE p E≠[]) (e1:vld p=true) (e2:vld q=true):p∈onE E p q:=by
 obtain ⟨T,hT⟩:=jDt _ s1;unfold starE at hT;obtain ⟨e,he,_⟩:=jAk.1 hT;obtain ⟨he,hp⟩:=jAq.1 he;have hp:e.1.1=p:=by simpa using hp
 unfold onE froms;refine jAq.2 ⟨jAk.2 ⟨e,he,hp⟩,?_⟩;unfold onR btw;have z:det p q p=0:=by unfold det;grind
 have k1:min p.x q.x≤p.x∧p.x≤max p.x q.x:=by omega
 have k2:min p.y q.y≤p.y∧p.y≤max p.y q.y:=by omega
 rw [e1,e2,z,jCo k1,jCo k2];rfl
end
section
open Go.RowKit
theorem calm_no {D:List Wl} {a b:Pt} (h:clashD D a b=0):∀ z∈D,meetS a b z.A z.B=0:=by
 unfold clashD at h;split at h
 ·split at h
  ·split at h
   ·cases h
   ·rename_i hn
    intro z hz;have:=List.any_eq_false.1 (by simpa using hn:D.any (hitD a b)=false) z hz;unfold hitD at this;rw [zH9]
    simpa using this
  ·cases h
 ·cases h
theorem zO3 (x y a b:Pt):meetS (lo2 x y) (hi2 x y) a b=meetS x y a b:=by rw [zGb,meet_lo]
theorem mkOk_of {x y:Pt} {k:Int} (hk:k=1∨k=2) (h:x≠y) (vx:vld x=true) (vy:vld y=true):mkOk x y k=true:=by
 unfold mkOk mkK;rcases hk with rfl | rfl <;> simp [h,vx,vy]
theorem zNh {W H : Int} (hW0 : 0 < W) (hH0 : 0 < H) (hW : W < 16777216) (hH : H < 16777216) {k : Int} (hk : k = 1 ∨ k = 2) : ∀ (M : List Pt) {E E2 : Es} {D D2 : List Wl} {L : List Tri3}, Good E L → Tiles W H L → L.length ≤ 94 → WInv L D → (∀ x ∈ M, someC L x) → (M.Pairwise (fun x y => cmpP x y < 0) ∨ M.Pairwise (fun x y => cmpP y x < 0)) → (∀ (i : Nat) (h : i + 1 < M.length), Bare L M[i] M[i + 1]) → (∀ (i : Nat) (h : i + 1 < M.length), ∀ z ∈ D, meetS M[i] M[i + 1] z.A z.B = 0) → addsW k M E D E2 D2 →
    ∃ L2,Good E2 L2∧Tiles W H L2∧WInv L2 D2∧L2.length=L.length∧∀ q,someC L2 q↔someC L q
 | [],E,E2,D,D2,L,g,t,_,hI,_,_,_,_,h=>by obtain ⟨rfl,rfl⟩:=h;exact ⟨L,g,t,hI,rfl,fun _=>jEh⟩
 | [_],E,E2,D,D2,L,g,t,_,hI,_,_,_,_,h=>by obtain ⟨rfl,rfl⟩:=h;exact ⟨L,g,t,hI,rfl,fun _=>jEh⟩
 | x :: y :: M,E,E2,D,D2,L,g,t,hn,hI,hc,hm,hb,hno,h=>by
  have vb:∀ q,inBox W H q→vld q=true:=fun q hq=>by rw [zAm];unfold inBox at hq;omega
  have vc:∀ q,someC L q→vld q=true:=fun q ⟨T,hT,hcn⟩=>by
   obtain ⟨b,c,hk⟩:=zCf hcn;exact vb _ (t.cyc_box hT hk)
  obtain ⟨Q0,j,hQ,hj,h⟩:=h;have vx:=vc x (hc x (by simp));have vy:=vc y (hc y (by simp));have hxy:x≠y:=by
   rintro rfl;rcases hm with hm | hm
   ·have:=(jBk.1 hm).1 x (by simp);rw [cmpP_eq0.2 rfl] at this;omega
   ·have:=(jBk.1 hm).1 x (by simp);rw [cmpP_eq0.2 rfl] at this;omega
  have hB:Bare L x y:=hb 0 (by simp);have h0:∀ z∈D,meetS x y z.A z.B=0:=hno 0 (by simp);obtain ⟨L',g',_,he⟩:=force_edge hW0 hH0 hW hH hxy g t hn hB (hc x (by simp)) (hc y (by simp)) hQ;obtain ⟨L1,g1,t1,k1⟩:=zBt hW hH capN (a:=x) (b:=y) (Q:=Q0) g t (fun z hz=>(zDl (hQ.mem_iff.1 hz)).2.2.1);have he1:edgeL L1 x y:=edgeL.perm he (zFr g' g1);have hmk:=mkOk_of hk hxy vx vy;have eZ:mkW x y k=⟨lo2 x y,hi2 x y,k⟩:=by unfold mkW;rw [jAc hmk]
  have gZ:=zMr hmk;have hlh:(lo2 x y=x∧hi2 x y=y)∨(lo2 x y=y∧hi2 x y=x):=by
   unfold lo2 hi2;split
   ·exact .inr ⟨rfl,rfl⟩
   ·exact .inl ⟨rfl,rfl⟩
  have hZe:edgeL L1 (lo2 x y) (hi2 x y):=by
   rcases hlh with ⟨e1,e2⟩ | ⟨e1,e2⟩ <;> rw [e1,e2]
   ·exact he1
   ·exact he1.turn
  have q:=zF5 D (mkW x y k) j;have hI1:WInv L1 (insW D (mkW x y k) j):=by
   refine ⟨fun z hz=>?_,put_ris hI.ris hj (fun z hz e=>?_),?_,fun z hz=>?_⟩
   ·rcases jA1.1 (q.mem_iff.1 hz) with e | hz
    ·rw [e,eZ];exact gZ
    ·exact hI.good z hz
   ·have k2:=h0 z hz;rw [e,eZ,←zO3] at k2;exact zEg gZ k2
   ·refine zEv q.symm (jBk.2 ⟨fun z hz=>?_,hI.apart⟩);rw [eZ];show meetS (lo2 x y) (hi2 x y) z.A z.B=0;rw [zO3];exact h0 z hz
   ·rcases jA1.1 (q.mem_iff.1 hz) with e | hz
    ·rw [e,eZ];exact hZe
    ·rcases hI.edge z hz with e | e
     ·exact .inl (k1.wall _ _ (by show ¬ meetR x y z.A z.B=1;rw [←zH9,h0 z hz];decide) e)
     ·exact .inr (k1.wall _ _ (by show ¬ meetR x y z.B z.A=1;rw [←zH9,zMf,h0 z hz];decide) e)
  have hm2:(y :: M).Pairwise (fun x y=>cmpP x y < 0)∨(y :: M).Pairwise (fun x y=>cmpP y x < 0):=hm.imp (fun h=>(jBk.1 h).2) (fun h=>(jBk.1 h).2);have hno2:∀ (i:Nat) (h:i+1 < (y :: M).length),∀ z∈insW D (mkW x y k) j,meetS (y :: M)[i] (y :: M)[i+1] z.A z.B=0:=by
   intro i hi z hz;rcases jA1.1 (q.mem_iff.1 hz) with e | hz
   ·rw [e,eZ];have m1:(y :: M)[i]∈y :: M:=jAx _;have m2:(y :: M)[i+1]∈y :: M:=jAx _;have va:=vc _ (hc _ (jAi _ m1));have vb2:=vc _ (hc _ (jAi _ m2));rcases hm with hm | hm
    ·obtain ⟨n1,n2⟩:=jBk.1 hm;have lt:=(jB0.1 n2) i (i+1) (by omega) hi (by omega);have le:cmpP y (y :: M)[i]≤0:=by
      rcases jE3 i with e | e
      ·subst e;show cmpP y y≤0;rw [cmpP_eq0.2 rfl];omega
      ·have:=(jB0.1 n2) 0 i (by simp) (by omega) e;exact jAn this
     have hl:¬ cmpP y x < 0:=by have:=n1 y (by simp);have:=zAv x y;omega
     have e1:hi2 x y=y:=by unfold hi2;rw [jA0 hl]
     have:=zKx (y:=⟨lo2 x y,hi2 x y,k⟩) (z:=⟨(y :: M)[i],(y :: M)[i+1],1⟩) gZ ⟨va,vb2,lt,.inl rfl⟩ (by show cmpP (hi2 x y) _≤0;rw [e1];exact le);rw [zGb];exact this
    ·obtain ⟨n1,n2⟩:=jBk.1 hm;have lt:=(jB0.1 n2) i (i+1) (by omega) hi (by omega);have le:cmpP (y :: M)[i] y≤0:=by
      rcases jE3 i with e | e
      ·subst e;show cmpP y y≤0;rw [cmpP_eq0.2 rfl];omega
      ·have:=(jB0.1 n2) 0 i (by simp) (by omega) e;exact jAn this
     have hl:cmpP y x < 0:=n1 y (by simp);have e1:lo2 x y=y:=by unfold lo2;rw [jAc hl]
     have:=zKx (y:=⟨(y :: M)[i+1],(y :: M)[i],1⟩) (z:=⟨lo2 x y,hi2 x y,k⟩) ⟨vb2,va,lt,.inl rfl⟩ gZ (by show cmpP _ (lo2 x y)≤0;rw [e1];exact le);rw [←zMg];exact this
   ·exact hno (i+1) (by simpa using hi) z hz
  obtain ⟨L2,g2,t2,i2,l2,c2⟩:=zNh hW0 hH0 hW hH hk (y :: M) g1 t1 (by rw [k1.len];exact hn) hI1 (fun z hz=>(k1.cnr z).2 (hc z (jAi _ hz))) hm2 (fun i hi z hz=>hb (i+1) (by simpa using hi) z ((k1.cnr z).1 hz)) hno2 h;exact ⟨L2,g2,t2,i2,l2.trans k1.len,fun z=>(c2 z).trans (k1.cnr z)⟩
theorem onE_mem {E:Es} {L:List Tri3} (g:Good E L) {p q z:Pt}:z∈onE E p q↔someC L z∧onR z p q=true:=by
 unfold onE froms;rw [jAq,jAk];refine and_congr_left fun _=>⟨?_,?_⟩
 ·rintro ⟨⟨w,T⟩,he,rfl⟩;obtain ⟨hT,hw⟩:=wys_mem.1 (g.perm.mem_iff.1 he);obtain ⟨c,hc⟩:=zBd (a:=w.1) (b:=w.2) hw;exact ⟨T,hT,hc.cnr⟩
 ·rintro ⟨T,hT,hcn⟩;obtain ⟨b,c,hc⟩:=zCf hcn;exact ⟨((z,b),T),g.perm.mem_iff.2 (wys_mem.2 ⟨hT,hc.way⟩),rfl⟩
theorem addw_inv {W H:Int} (hW0:0 < W) (hH0:0 < H) (hW:W < 16777216) (hH:H < 16777216) {E E2:Es} {D D2:List Wl} {L:List Tri3} {p q:Pt} {k:Int} (g:Good E L) (t:Tiles W H L) (hn:L.length≤94) (hI:WInv L D) (hA:AddWR E D p q k 0 E2 D2):∃ L2,Good E2 L2∧Tiles W H L2∧WInv L2 D2∧L2.length=L.length∧∀ q,someC L2 q↔someC L q:=by
 have vb:∀ q,inBox W H q→vld q=true:=fun q hq=>by rw [zAm];unfold inBox at hq;omega
 have vc:∀ q,someC L q→vld q=true:=fun q ⟨T,hT,hcn⟩=>by
  obtain ⟨b,c,hk⟩:=zCf hcn;exact vb _ (t.cyc_box hT hk)
 rcases hA with ⟨h,_⟩ | ⟨_,hk,hpq,vp,vq,s1,s2,M,⟨hM,hord⟩,hcalm,ha⟩
 ·exact absurd rfl h
 have mono:M.Pairwise (fun x y=>cmpP x y < 0)∨M.Pairwise (fun x y=>cmpP y x < 0):=by
  rcases hord with ⟨h,_⟩ | ⟨h,_⟩
  ·exact .inl h
  ·exact .inr (List.pairwise_reverse.1 h)
 have inM:∀ z,z∈M↔someC L z∧onR z p q=true:=fun z=>(hM z).trans (onE_mem g);refine zNh hW0 hH0 hW hH hk M g t hn hI (fun x hx=>((inM x).1 hx).1) mono ?_ (fun i hi=>calm_no (hcalm i hi)) ha;intro i hi z hz hd hx hy;have ma:M[i]∈M:=jAx _;have mb:M[i+1]∈M:=jAx _;obtain ⟨ca,oa⟩:=(inM _).1 ma;obtain ⟨cb,ob⟩:=(inM _).1 mb;have lt2:cmpP M[i] M[i+1] < 0∨cmpP M[i+1] M[i] < 0:=mono.imp (fun h=>(jB0.1 h) i (i+1) (by omega) hi (by omega)) (fun h=>(jB0.1 h) i (i+1) (by omega) hi (by omega));have hzab:onR z M[i] M[i+1]=true:=by
  unfold onR btw;simp only [jA3,jA4];exact ⟨vc z hz,vc _ ca,vc _ cb,hd,by omega,by omega⟩
 have hzS:onS z M[i] M[i+1]=true:=by rw [on_eq];exact hzab
 have hne:M[i]≠M[i+1]:=fun e=>by rw [e,cmpP_eq0.2 rfl] at lt2;omega
 have hzM:z∈M:=by
  refine (inM z).2 ⟨hz,?_⟩;have oa':=oa;have ob':=ob;unfold onR btw at oa' ob' ⊢;simp only [jA3,jA4] at oa' ob' ⊢;obtain ⟨_,_,_,a1,a2,a3⟩:=oa';obtain ⟨_,_,_,b1,b2,b3⟩:=ob';have f1:=zI5 p q M[i];have f2:=zI5 p q M[i+1];have f3:=zI5 p q z;have on:=fun m=>on_ff (-(q.y - p.y)) (q.x - p.x) hne hzS (m:=m);have u1:=(on (ff (-(q.y - p.y)) (q.x - p.x) p+1)).1 (by omega) (by omega);have u2:=(on (ff (-(q.y - p.y)) (q.x - p.x) p)).2 (by omega) (by omega);exact ⟨vc z hz,vp,vq,by omega,by omega,by omega⟩
 obtain ⟨j,hj,ej⟩:=jDe.1 hzM;refine jBq fun hno=>?_;have n1:z≠M[i]:=fun e=>hno (.inl e);have n2:z≠M[i+1]:=fun e=>hno (.inr e);have nj:j≠i∧j≠i+1:=⟨fun e=>by subst e;exact n1 ej.symm,fun e=>by subst e;exact n2 ej.symm⟩;rcases mono with h | h
 ·have hp:=jB0.1 h;have lt:=hp i (i+1) (by omega) hi (by omega);obtain ⟨c1,c2⟩:=zG7 (X:=⟨M[i],M[i+1],1⟩) ⟨vc _ ca,vc _ cb,lt,.inl rfl⟩ hzab n1 n2;simp only at c1 c2;rcases jCm j i with k | k
  ·have:=hp j i hj (by omega) k;rw [ej] at this;have:=zAv z M[i];omega
  ·have:=hp (i+1) j hi hj (by omega);rw [ej] at this;have:=zAv z M[i+1];omega
 ·have hp:=jB0.1 h;have lt:=hp i (i+1) (by omega) hi (by omega);have hzba:onR z M[i+1] M[i]=true:=by rw [←on_eq,zH7,on_eq];exact hzab
  obtain ⟨c1,c2⟩:=zG7 (X:=⟨M[i+1],M[i],1⟩) ⟨vc _ cb,vc _ ca,lt,.inl rfl⟩ hzba n2 n1;simp only at c1 c2;rcases jCm j i with k | k
  ·have:=hp j i hj (by omega) k;rw [ej] at this;have:=zAv z M[i];omega
  ·have:=hp (i+1) j hi hj (by omega);rw [ej] at this;have:=zAv z M[i+1];omega
end
section
open Go.RowKit Go.Sort
attribute [local go_sem] rOper rAt rUpon cell_set sg_i64 sg_u64 alloc_cell alloc_frozen
attribute [local go_sem 10000] pt_eql pt_neq tri_eql
attribute [local irreducible] rWalk
theorem zNg {W H:Int} {k:Int} (hk:k=1):∀ (M:List Pt) {E E2:Es} {D D2:List Wl},(∀ x∈D,x.K=2→onRim W H x.A x.B)→addsW k M E D E2 D2→∀ x∈D2,x.K=2→onRim W H x.A x.B
 | [],E,E2,D,D2,hD,h=>by obtain ⟨rfl,rfl⟩:=h;exact hD
 | [_],E,E2,D,D2,hD,h=>by obtain ⟨rfl,rfl⟩:=h;exact hD
 | x :: y :: M,E,E2,D,D2,hD,h=>by
  obtain ⟨Q0,j,_,_,h⟩:=h;refine zNg hk (y :: M) (fun z hz hz2=>?_) h;rcases jA1.1 ((zF5 _ _ _).mem_iff.1 hz) with rfl | hz
  ·exfalso
   unfold mkW at hz2;split at hz2
   ·rw [hk] at hz2;cases hz2
   ·cases hz2
  ·exact hD z hz hz2
theorem addw_rim {W H:Int} {E E2:Es} {D D2:List Wl} {p q:Pt} {r:Int} (hD:∀ x∈D,x.K=2→onRim W H x.A x.B) (h:AddWR E D p q 1 r E2 D2):∀ x∈D2,x.K=2→onRim W H x.A x.B:=by
 rcases h with ⟨_,_,rfl⟩ | ⟨_,_,_,_,_,_,_,M,_,_,h⟩
 ·exact hD
 ·exact zNg rfl M hD h
def CAddWPostW (cb mb b db:Nat) (W H:Int) (E:Es) (L:List Tri3) (D:List Wl) (p q:Pt) (w:World) (e:Ending) (w':World):Prop:=
 ∃ r v' E1 E' L' D',e=.returned (.int .i64 r)∧CdtAt w' cb mb b db v' W H E' D'∧CInvW W H E' L' D'∧AddWR E D p q 1 r E1 D'∧(r≠0→E'=E)∧(r=0→∃ L1,Good E1 L1∧Tiles W H L1∧Kept (wll D') L1 L')∧(∀ x,someC L' x↔someC L x)∧L'.length=L.length∧D'.length≤D.length+3 * L.length∧Frm w w' (fun k=>k=b∨k=db)
theorem rcaddwX_any (cb mb b db:Nat) (v:Value) (W H:Int) (hW0:0 < W) (hH0:0 < H) (hW:W < 16777216) (hH:H < 16777216) (E:Es) (L:List Tri3) (D:List Wl) (hI:CInvW W H E L D) (hL:L.length≤94) (hD:D.length≤20000) (p q:Pt) (w:World) (S:CdtAt w cb mb b db v W H E D):Calls prog 36 #[pt0 cb,p,q,.int .i64 1] w (CAddWPostW cb mb b db W H E L D p q w):=by
 have hE:E.length≤90000:=by rw [hI.good.len];omega
 have ca:=fun w0 B1 H1 D1=>raddw_any mb b db E L hE hI.good v D (by omega) hI.kinds p q w0 B1 H1 D1 S.mdb
 change ∀ (w0:World) B1 H1 D1,Calls _ _ _ _ (AddWPost b db E D p q 1 w0) at ca
 have HI:=hdd hI;have HL:=hdd hL;clear hI hE hL hD
 go_enter func36,ntmps36
 go_wp2_with fail;refine zA1 fun w1 hW'=>?_;have Bp:Box w1 w [p.x,p.y] 54:=by rw [hW'];exact (Box.new rfl).old _
 have Bq:Box w1 (w+1) [q.x,q.y] 54:=by rw [hW'];exact Box.new (by simp)
 have hw:Below w w w1:=by rw [hW'];go_grown
 clear hW';have S1:=S.ee hw;have g1:=Bp.cells;have g3:=Bq.cells;have g2:=S1.box.cells;refine rgn 11 (fun w2 hb=>?_);clear g1 g2 g3;have hw2:=(upB hw hb);clear hb Bp Bq S1 hw;go_wp2_with fail;have S2:=S.ee hw2;refine (ca _ S2.mesh S2.map S2.doc).mono ?_;rintro e w3 ⟨r,E1,D1,v1,rfl,hR,H3,D3,f3⟩;have nb:∀ {x:Nat} {cs:List Value} {T:TypeId},Box w2 x cs T→x≠b:=fun h=>h.ne_map S2.map;have S3:CdtAt w3 cb mb b db v1 W H E1 D1:=⟨f3.box S2.box (fun k=>by rcases k with k | k;exact nb S2.box k;exact S.cdb k),f3.box S2.mesh (fun k=>by rcases k with k | k;exact nb S2.mesh k;exact S.mdb k),H3,D3,S.cdb,S.mdb⟩;have F3:Frm w w3 (fun k=>k=b∨k=db):=(Frm.of_below hw2).trans f3;have HR:=hdd hR;clear nb ca H3 D3 hR f3 S2 hw2;by_cases hr:r=0
 ·subst hr;have HWI:=hdd (addw_inv hW0 hH0 hW hH HI.out.good HI.out.fix.tiles HL.out HI.out.wal HR.out);obtain ⟨L1,g1',t1',l1,c1,d1,n1⟩:∃ L2,Good E1 L2∧Tiles W H L2∧L2.length=L.length∧(∀ q,someC L2 q↔someC L q)∧(∀ x∈D1,0≤x.K∧x.K≤2)∧D1.length≤D.length+3 * L.length:=by
   rcases HR.out with ⟨k,_⟩ | ⟨_,hk,_,vp,vq,s1,_,M,hM,_,ha⟩
   ·exact absurd rfl k
   ·obtain ⟨L2,x1,x2,x3,x4,x5,x6⟩:=zJc hW hH hk M HI.out.good HI.out.fix.tiles HI.out.kinds ha;have:=(zKl hM (onE_first s1 vp vq)).2;rw [HI.out.good.len] at this;exact ⟨L2,x1,x2,x3,x4,x5,by omega⟩
  have HK:=hdd (show Good E1 L1∧Tiles W H L1∧L1.length=L.length∧(∀ q,someC L1 q↔someC L q)∧(∀ x∈D1,0≤x.K∧x.K≤2)∧D1.length≤D.length+3 * L.length from ⟨g1',t1',l1,c1,d1,n1⟩);have HW1:=hdd (show WInv L1 D1 from by
   obtain ⟨L3,y1,_,y3,_⟩:=HWI.out;exact y3.perm (zFr y1 g1'))
  clear HWI;have HRM:=hdd (addw_rim HI.out.rim HR.out);have cr:=fun a0 c n w0 B1 H1 R1=>rrepair_any mb b db a0 c n E1 L1 D1 W H hW hH (by have:=HL.out;omega) g1' t1' w0 B1 H1 R1;clear g1' t1' l1 c1 d1 n1;have g2:=S3.box.cells;go_wp2_with fail;refine rgn 8 (fun w4 hb=>?_);clear g2;have S4:=S3.ee hb;have F4:=F3.trans (Frm.of_below hb);clear hb S3 F3;obtain ⟨a4,c4,rfl,R4,_⟩:=S4.doc.rd;go_wp2_with fail;refine (cr a4 c4 D1.length _ S4.mesh S4.map R4).mono ?_;rintro e w5 ⟨rfl,E5,L5,hg5,H5,hS5,hF5⟩;have S5:CdtAt w5 cb mb b db (.slice a4 D1.length c4) W H E5 D1:=⟨S4.box.turn S4.map hg5,S4.mesh.turn S4.map hg5,H5,S4.doc.turn S4.map hg5,S4.cdb,S4.mdb⟩;have F5:Frm w w5 (fun k=>k=b∨k=db):=F4.trans (Frm.of_grown hg5 (fun g e=>.inl (jAl e).symm));clear cr R4 hg5 H5 S4 F4;go_wp2
  go_ret
  obtain ⟨x1,x2,x3,x4,x5,x6⟩:=HK.out;exact ⟨0,_,E1,E5,L5,D1,rfl,S5,⟨hS5.good,hF5,x5,HW1.out.kept hS5.kept,HRM.out⟩,HR.out,fun h=>absurd rfl h,fun _=>⟨L1,x1,x2,hS5.kept⟩,fun y=>(hS5.kept.cnr y).trans (x4 y),hS5.kept.len.trans x3,x6,F5⟩
 ·have hr1:(r == 0)=false:=by simp;exact hr
  obtain ⟨rfl,rfl⟩:E1=E∧D1=D:=by
   rcases HR.out with ⟨_,k1,k2⟩ | ⟨k,_⟩
   ·exact ⟨k1,k2⟩
   ·exact absurd k hr
  have HR2:=hdd hr;clear hr;go_wp2;refine bodyPost_ret (v:=.int .i64 r) (by simp [results,results36,go_sem]) rfl ?_;exact ⟨r,v1,E1,E1,L,D1,rfl,S3,HI.out,HR.out,fun _=>rfl,fun h=>absurd h HR2.out,fun _=>jEh,rfl,by omega,F3⟩
end
end Go.Proofs.YtogffkimgmlilaaGreat
