/- Put together: MesS, FenA, FenB, FenP. -/
import Derived.Test.YtogffkimgmlilaaGreatPfb35
set_option maxRecDepth 100000
set_option maxHeartbeats 8000000
set_option linter.all false
namespace Go.Proofs.YtogffkimgmlilaaGreat
open _root_.Go.Proofs.Tryz
section
open Go.RowKit Go.Sort
attribute [local go_sem] rOper rAt rUpon cell_set sg_i64 sg_u64 alloc_cell alloc_frozen
attribute [local go_sem 10000] pt_eql pt_neq tri_eql
attribute [local irreducible] rWalk
attribute [local go_sem 10000] tri_neq
theorem zDi:∀ (M N:List Pt),M.Nodup→(∀ p∈M,p∈N)→M.length≤N.length
 | [],_,_,_=>jAt _
 | p :: M,N,hn,h=>by
  have hp:=h p (by simp);have ih:=zDi M (N.erase p) (jAu.1 hn).2 (fun q hq=>(jEt (fun e=>(jAu.1 hn).1 (by rw [←e];exact hq))).2 (h q (by simp [hq])));rw [List.length_erase_of_mem hp] at ih;have:=jDn hp;simp only [jAm];omega
theorem alloc_cellA (w:World) (o:Obj) (A:Addr) (h:(A.block=w.heap.size)=False):(w.alloc o).cell? A=w.cell? A:=by
 have h':A.block≠w.heap.size:=fun e=>h.mp e;unfold World.alloc World.cell?;simp only [jEx,jA0 h']
attribute [local go_sem] alloc_cellA
end
section
open Go.RowKit Go.Sort
attribute [local go_sem] rOper rAt rUpon cell_set sg_i64 sg_u64 alloc_cell alloc_frozen
attribute [local go_sem 10000] pt_eql pt_neq tri_eql
attribute [local irreducible] rWalk
def onE (E:Es) (p q:Pt):List Pt:=(froms E).filter fun x=>onR x p q
theorem zIs (E F:Es) (p q:Pt):onE (E ++ F) p q=onE E p q ++ onE F p q:=by unfold onE froms;rw [jBn,jC9]
theorem onE_yes {u x p q:Pt} {T:Tri3} (h:onR u p q=true):onE [((u,x),T)] p q=[u]:=by simp [onE,froms,h]
theorem onE_no {u x p q:Pt} {T:Tri3} (h:onR u p q=false):onE [((u,x),T)] p q=[]:=by simp [onE,froms,h]
theorem zM9 (E:Es) (p q:Pt):(onE E p q).length≤E.length:=by unfold onE froms;exact jAp (jCk _ _) (by simp)
theorem onE_perm {E F:Es} (h:E.Perm F) (p q:Pt):(onE E p q).Perm (onE F p q):=(h.map _).filter _
def PartsL (E:Es) (p q:Pt) (M:List Pt):Prop:=(∀ x,x∈M↔x∈onE E p q)∧((Rising cmpP M∧M.head? = some p)∨(Rising cmpP M.reverse∧M.reverse.head? ≠ some p))
def PartsPost (E:Es) (p q:Pt) (w:World) (e:Ending) (w':World):Prop:=
 ∃ M a cap,e=.returned (.tuple #[.slice a M.length cap,()])∧RowAt cP 2 w' a M∧PartsL E p q M∧Below w w w'
theorem rparts_b0 (mb b:Nat) (E:Es) (p q:Pt) (h0:peqI p.x p.y q.x q.y=true) (w:World) (_Bm:Box w mb [.map (some b)] 90) (_Hm:HoldsMap eW eT okW w b E):Calls prog 108 #[pt0 mb,p,q] w (Rt w (.tuple #[.slice none 0 0,.int .i64 2])):=by
 go_enter func108,ntmps108
 go_wp2;refine bodyPost_ret (v:=.tuple #[.slice none 0 0,.int .i64 2]) (by simp [results,results108,go_sem]) rfl ⟨rfl,by go_grown⟩
theorem rparts_b1 (mb b:Nat) (E:Es) (p q:Pt) (h0:peqI p.x p.y q.x q.y=false) (h1:vld p=false) (w:World) (_Bm:Box w mb [.map (some b)] 90) (_Hm:HoldsMap eW eT okW w b E):Calls prog 108 #[pt0 mb,p,q] w (Rt w (.tuple #[.slice none 0 0,.int .i64 2])):=by
 have kp:=zA0 p;rw [h1] at kp
 go_enter func108,ntmps108
 go_wp2_with fail;refine qE2 fun W1 Bp Bq hw=>?_;refine qC2 (kp _) Bp Bq hw fun w2 Bp Bq hw F_pq=>?_;go_wp2;refine bodyPost_ret (v:=.tuple #[.slice none 0 0,.int .i64 2]) (by simp [results,results108,go_sem]) rfl ⟨rfl,by have hl:=hw.size;go_grown⟩
theorem rparts_b2 (mb b:Nat) (E:Es) (p q:Pt) (h0:peqI p.x p.y q.x q.y=false) (h1:vld p=true) (h2:vld q=false) (w:World) (_Bm:Box w mb [.map (some b)] 90) (_Hm:HoldsMap eW eT okW w b E):Calls prog 108 #[pt0 mb,p,q] w (Rt w (.tuple #[.slice none 0 0,.int .i64 2])):=by
 have kp:=zA0 p;rw [h1] at kp;have kq:=zA0 q;rw [h2] at kq
 go_enter func108,ntmps108
 go_wp2_with fail;refine qE2 fun W1 Bp Bq hw=>?_;refine qC2 (kp _) Bp Bq hw fun w2 Bp Bq hw F_pq=>?_;go_wp2_with fail;clear F_pq;refine qC2 (kq _) Bp Bq hw fun w3 Bp Bq hw F_pq=>?_;go_wp2;refine bodyPost_ret (v:=.tuple #[.slice none 0 0,.int .i64 2]) (by simp [results,results108,go_sem]) rfl ⟨rfl,by have hl:=hw.size;go_grown⟩
theorem rparts_n1 (mb b:Nat) (E:Es) (p q:Pt) (hE:E.length≤500000) (h0:peqI p.x p.y q.x q.y=false) (h1:vld p=true) (h2:vld q=true) (s1:starE p E=[]) (w:World) (Bm:Box w mb [.map (some b)] 90) (Hm:HoldsMap eW eT okW w b E):Calls prog 108 #[pt0 mb,p,q] w (Rt w (.tuple #[.slice none 0 0,.int .i64 16])):=by
 have kp:=zA0 p;rw [h1] at kp;have kq:=zA0 q;rw [h2] at kq;have cS:=fun w0 B1 H1=>zCe mb b E p (by omega) w0 B1 H1;have cT:=fun w0 B1 H1=>zCe mb b E q (by omega) w0 B1 H1;obtain ⟨n,hn⟩:∃ n,(srt cmpT (starE p E)).length=n:=⟨_,rfl⟩;obtain ⟨m,hm⟩:∃ m,(srt cmpT (starE q E)).length=m:=⟨_,rfl⟩;rw [hn] at cS;rw [hm] at cT;have hn0:n=0:=by rw [←hn,(srt_perm _).length_eq,s1];rfl
 subst hn0
 go_enter func108,ntmps108
 go_wp2_with fail;refine qE2 fun W1 Bp Bq hw=>?_;refine qC2 (kp _) Bp Bq hw fun w2 Bp Bq hw F_pq=>?_;go_wp2_with fail;clear F_pq;refine qC2 (kq _) Bp Bq hw fun w3 Bp Bq hw F_pq=>?_;go_wp2_with fail;refine (cS _ (Bm.ee hw) (Hm.ee hw)).mono ?_;rintro e w4 ⟨as1,cs1,rfl,hr1,hb⟩;clear F_pq;obtain ⟨Bp,Bq,hw,-⟩:=qX2 Bp Bq hw hb;clear hb hr1;have F_pq:=J2 Bp.f Bq.f;go_wp2;refine bodyPost_ret (v:=.tuple #[.slice none 0 0,.int .i64 16]) (by simp [results,results108,go_sem]) rfl ⟨rfl,by have hl:=hw.size;go_grown⟩
theorem rparts_n2 (mb b:Nat) (E:Es) (p q:Pt) (hE:E.length≤500000) (h0:peqI p.x p.y q.x q.y=false) (h1:vld p=true) (h2:vld q=true) (s1:starE p E≠[]) (s2:starE q E=[]) (w:World) (Bm:Box w mb [.map (some b)] 90) (Hm:HoldsMap eW eT okW w b E):Calls prog 108 #[pt0 mb,p,q] w (Rt w (.tuple #[.slice none 0 0,.int .i64 16])):=by
 have kp:=zA0 p;rw [h1] at kp;have kq:=zA0 q;rw [h2] at kq;have cS:=fun w0 B1 H1=>zCe mb b E p (by omega) w0 B1 H1;have cT:=fun w0 B1 H1=>zCe mb b E q (by omega) w0 B1 H1;obtain ⟨n,hn⟩:∃ n,(srt cmpT (starE p E)).length=n:=⟨_,rfl⟩;obtain ⟨m,hm⟩:∃ m,(srt cmpT (starE q E)).length=m:=⟨_,rfl⟩;rw [hn] at cS;rw [hm] at cT;have hn0:((n:Int) == 0)=false:=by
  have:n≠0:=fun e=>s1 (jB8.1 (by rw [←(srt_perm (c:=cmpT) (starE p E)).length_eq,hn,e]));simp;omega
 have hm0:m=0:=by rw [←hm,(srt_perm _).length_eq,s2];rfl
 subst hm0
 go_enter func108,ntmps108
 go_wp2_with fail;refine qE2 fun W1 Bp Bq hw=>?_;refine qC2 (kp _) Bp Bq hw fun w2 Bp Bq hw F_pq=>?_;go_wp2_with fail;clear F_pq;refine qC2 (kq _) Bp Bq hw fun w3 Bp Bq hw F_pq=>?_;go_wp2_with fail;refine (cS _ (Bm.ee hw) (Hm.ee hw)).mono ?_;rintro e w4 ⟨as1,cs1,rfl,hr1,hb⟩;clear F_pq;obtain ⟨Bp,Bq,hw,-⟩:=qX2 Bp Bq hw hb;clear hb hr1;have F_pq:=J2 Bp.f Bq.f;go_wp2_with fail;refine (cT _ (Bm.ee hw) (Hm.ee hw)).mono ?_;rintro e w5 ⟨as2,cs2,rfl,hr2,hb⟩;clear F_pq;obtain ⟨Bp,Bq,hw,-⟩:=qX2 Bp Bq hw hb;clear hb hr2;have F_pq:=J2 Bp.f Bq.f;go_wp2;refine bodyPost_ret (v:=.tuple #[.slice none 0 0,.int .i64 16]) (by simp [results,results108,go_sem]) rfl ⟨rfl,by have hl:=hw.size;go_grown⟩
theorem rparts_ok (mb b:Nat) (E:Es) (p q:Pt) (hE:E.length≤500000) (h0:peqI p.x p.y q.x q.y=false) (h1:vld p=true) (h2:vld q=true) (s1:starE p E≠[]) (s2:starE q E≠[]) (w:World) (Bm:Box w mb [.map (some b)] 90) (Hm:HoldsMap eW eT okW w b E):Calls prog 108 #[pt0 mb,p,q] w (PartsPost E p q w):=by
 have kp:=zA0 p;rw [h1] at kp;have kq:=zA0 q;rw [h2] at kq;have cS:=fun w0 B1 H1=>zCe mb b E p (by omega) w0 B1 H1;have cT:=fun w0 B1 H1=>zCe mb b E q (by omega) w0 B1 H1;obtain ⟨n,hn⟩:∃ n,(srt cmpT (starE p E)).length=n:=⟨_,rfl⟩;obtain ⟨m,hm⟩:∃ m,(srt cmpT (starE q E)).length=m:=⟨_,rfl⟩;rw [hn] at cS;rw [hm] at cT;have hn0:((n:Int) == 0)=false:=by
  have:n≠0:=fun e=>s1 (jB8.1 (by rw [←(srt_perm (c:=cmpT) (starE p E)).length_eq,hn,e]));simp;omega
 have hm0:((m:Int) == 0)=false:=by
  have:m≠0:=fun e=>s2 (jB8.1 (by rw [←(srt_perm (c:=cmpT) (starE q E)).length_eq,hm,e]));simp;omega
 go_enter func108,ntmps108
 go_wp2_with fail;refine qE2 fun W1 Bp Bq hw=>?_;refine qK2 (kp _) Bp Bq hw fun w2 Bp Bq hw=>?_;have Fp:=Bp.f;have Fq:=Bq.f;go_wp2_with fail;clear Fp Fq;refine qK2 (kq _) Bp Bq hw fun w3 Bp Bq hw=>?_;have Fp:=Bp.f;have Fq:=Bq.f;go_wp2_with fail;refine (cS _ (Bm.ee hw) (Hm.ee hw)).mono ?_;rintro e w4 ⟨as1,cs1,rfl,hr1,hb⟩;clear Fp Fq;obtain ⟨Bp,Bq,hw,-⟩:=qX2 Bp Bq hw hb;clear hb hr1;have Fp:=Bp.f;have Fq:=Bq.f;go_wp2_with fail;refine (cT _ (Bm.ee hw) (Hm.ee hw)).mono ?_;rintro e w5 ⟨as2,cs2,rfl,hr2,hb⟩;clear Fp Fq;obtain ⟨Bp,Bq,hw,-⟩:=qX2 Bp Bq hw hb;clear hb hr2;have B1:=Bm.ee hw;have H1:=Hm.ee hw;have Fm:=B1.f;have Fp:=Bp.f;have Fq:=Bq.f;have HPE:=hdd (show p∈onE E p q by
  have:starE p E≠[]:=s1;obtain ⟨T,hT⟩:=jDt _ this;unfold starE at hT;obtain ⟨e,he,_⟩:=jAk.1 hT;obtain ⟨he,hp⟩:=jAq.1 he;have hp:e.1.1=p:=by simpa using hp
  unfold onE froms;refine jAq.2 ⟨jAk.2 ⟨e,he,hp⟩,?_⟩;unfold onR btw;have z:det p q p=0:=by unfold det;grind
  have k1:min p.x q.x≤p.x∧p.x≤max p.x q.x:=by omega
  have k2:min p.y q.y≤p.y∧p.y≤max p.y q.y:=by omega
  rw [h1,h2,z,jCo k1,jCo k2];rfl)
 clear s1 s2 hn hm h0 cS cT kp kq Bm Hm;go_wp2_with (at_range;refine zB1 _ rfl _ rfl kvR rfl H1 ?_)
 intro w20 HR0 hw20 hs20;generalize hit:w5.heap.size=it at HR0 ⊢
 have hwz:=hw.size;have hiz:=hdd (show w.heap.size+2≤it by have:=Bq.lt;omega);have Bp0:Box w20 w [p.x,p.y] 54:=Bp.ext hw20 (by first | rfl | simp);have Bq0:Box w20 (w+1) [q.x,q.y] 54:=Bq.ext hw20 (by first | rfl | simp);replace hw:=upB hw hw20;clear Fp Fq Fm Bp Bq hw20 hs20 B1 H1 hit hwz hn0 hm0;go_wp2
 go_loopw [8] (fun v wr=>∃ D R:Es,Hid ((D ++ R).Perm E)∧wr.ownsRow (w.heap.size+2) 54 2 v (onE D p q).length ((onE D p q).flatMap cP)∧Ranging eW eT okW wr b it E R∧Box wr w [p.x,p.y] 54∧Box wr (w+1) [q.x,q.y] 54∧Below w w wr) (fun _ wr=>wr.rangeLeft b it)
 case atStart=>exact ⟨[],E,hdd (by simp),World.ownsRow_nil _ _ _ _,by simpa using HR0,Bp0,Bq0,hw⟩
 case round=>
  clear HR0 hw Bp0 Bq0;obtain ⟨D,R,hD,hown,HR,Bp,Bq,hw⟩:=hrel;go_wp2_with (at_next;refine zB8 _ rfl _ rfl rfl HR ?_ ?_)
  ·intro hR;subst hR;have hp0:(onE D p q).Perm (onE E p q):=onE_perm (by simpa using hD.out) p q;have hle:(onE D p q).length≤500000:=by have:=hp0.length_eq;have:=zM9 E p q;omega
   have HPM:=hdd hp0;clear hp0;obtain ⟨a1,c1,rfl,hc1,hr1⟩:=zAt zD1 hown;go_wp2_with fail;refine (zIm _ _ _ _ (hdd rfl) hle _ hr1).mono ?_;rintro e w2 ⟨M,aM,cM,rfl,hrM,hriM,hmM,hb⟩;have HRI:=hdd hriM;have HMM:=hdd (show ∀ x,x∈M↔x∈onE E p q from fun x=>by rw [hmM x,HPM.out.mem_iff]);have hM0:0 < M.length:=jDn ((HMM.out p).2 HPE.out);have hMl:=hdd (show M.length≤500000 from jAp (zDi M (onE E p q) (hriM.imp fun {x y} h e=>by subst e;have:=(cmpP_eq0 (p:=x) (q:=x)).2 rfl;omega) (fun x hx=>(HMM.out x).1 hx)) (by rw [←HPM.out.length_eq];exact hle));have Bp2:=Bp.ee hb;have HZ2:=hdd (show w.heap.size+2≤w2.heap.size by have:=Bq.lt;have:=hb.size;omega);have hw2:=(upB hw hb);clear hown HR Bp Bq hw hb hr1 hriM hmM hc1 HPM;obtain ⟨ad,A,ea,eA,hA⟩:=hrM.two hM0;have HH:=hdd (show M.head? = some M[0] from List.head?_eq_getElem? ▸ jA8 hM0);generalize M[0]=x at *
   obtain ⟨n,hnM⟩:∃ n,M.length=n:=⟨_,rfl⟩;have HN:=hdd hnM;rw [hnM] at hM0 hMl;rw [hnM];clear hnM;have q0:(0:Int) < (n:Int):=by omega
   have gp:=Bp2.cells;obtain ⟨s0,s1⟩:=hA.cells;have ea2:=hdd ea;subst ea;go_wp2_with fail;refine rgn 4 (fun w3 hb3=>?_);clear gp s0 s1;have r3:=hrM.ee hb3;have hw3:=(upB hw2 hb3);have HZ3:=hdd (show w.heap.size+2≤w3.heap.size by have:=HZ2.out;have:=hb3.size;omega);have HAD:=hdd (show ad.block < w3.heap.size by have hs:=hb3.size;have h1:=hA.1;rw [←eA,zAo] at h1;omega);clear hA hrM Bp2 hw2 hb3 HZ2;cases hx:peqI x.x x.y p.x p.y with
   | true=>
    have HR:=hdd (show PartsL E p q M from ⟨HMM.out,.inl ⟨HRI.out,by rw [HH.out,zBe.1 hx]⟩⟩);go_wp2;refine bodyPost_ret (v:=.tuple #[.slice (some ad) n cM,()]) (by simp [results,results108,go_sem]) rfl ?_;exact ⟨M,some ad,cM,by rw [HN.out],r3,HR.out,hw3⟩
   | false=>
    have HR:=hdd (show PartsL E p q M.reverse from ⟨fun y=>by rw [List.mem_reverse];exact HMM.out y,.inr ⟨by rw [List.reverse_reverse];exact HRI.out,by rw [List.reverse_reverse,HH.out];intro e;rw [jAl e] at hx;rw [zBe.2 rfl] at hx;cases hx⟩⟩);have r4:RowAt cP 2 w3 (some ad) M:=r3;have e1:=hdd (show wrap64 ((n:Int) - 1)=(n:Int) - 1 by rw [w64];have:=hMl.out;omega);clear HPE HRI HMM HH r3;go_wp2
    go_loopw [10,11] (fun vo vi wr=>∃ (j:Nat) (z:Int),vi=.int .i64 z∧z=(j:Int) - 1∧j≤n∧wr.ownsRow w3.heap.size 54 2 vo (M.drop j).reverse.length ((M.drop j).reverse.flatMap cP)∧RowAt cP 2 wr (some ad) M∧Hid (w3.heap.size≤wr.heap.size)∧Below w w wr) (fun _ vi _=>(intOf vi+1).toNat)
    case atStart=>exact ⟨n,_,rfl,by first | rfl | exact e1.out,jA9 _,by rw [List.drop_of_length_le (by rw [HN.out];omega)];exact World.ownsRow_nil _ _ _ _,r4,hdd (jA9 _),hw3⟩
    case round=>
     clear r4 hw3;obtain ⟨j,z,rfl,hz,hj,hown,r4,hz3,hw3⟩:=hrel;cases j with
     | zero=>
      have q2:decide ((0:Int)≤z)=false:=by simp;omega
      clear hz hj;obtain ⟨a1,c1,rfl,hc1,hr1⟩:=zAt zD1 hown;rw [jC0] at hr1;have HL0:=hdd (show (M.drop 0).reverse.length=M.reverse.length from rfl);go_wp2;refine bodyPost_ret (v:=.tuple #[.slice a1 (M.drop 0).reverse.length c1,()]) (by simp [results,results108,go_sem]) rfl ?_;exact ⟨M.reverse,a1,c1,by rw [←HL0.out],hr1,HR.out,hw3⟩
     | succ j=>
      obtain rfl:z=(j:Int):=by omega
      have hjM:j < M.length:=by rw [HN.out];omega
      obtain ⟨ad2,A2,ea3,eA2,hA2⟩:=r4.two hjM;obtain rfl:ad=ad2:=jAl ea3;have HT:=hdd (show (M.drop j).reverse=(M.drop (j+1)).reverse ++ [M[j]] by rw [jBi hjM,List.reverse_cons]);have hle2:(M.drop (j+1)).reverse.length≤1000000:=by rw [List.length_reverse,jBm,HN.out];have:=hMl.out;omega
      generalize M[j]=y at *
      have q2:decide ((0:Int)≤(j:Int))=true:=by simp
      have q3:(j:Int) < (n:Int):=by omega
      have q4:(0:Int)≤(j:Int):=by omega
      have e2:=hdd (show wrap64 ((j:Int) - 1)=(j:Int) - 1 by rw [w64];have:=hMl.out;omega);have hjn:=hdd (show j≤n by omega);obtain ⟨z1,t0,t1⟩:=hA2.f;have hbw:=hz3.out;have hsz:=hdd (show w3.heap.size≤wr.heap.size from hbw);clear hj hz ea3 hA2 hbw;go_wp2_with (at_builtin;refine zGp rfl _ _ rfl w3.heap.size _ (M.drop (j+1)).reverse rfl (hown.alloc _) wr.heap.size y rfl (Box.new rfl) hle2 (by have:=hsz.out;simp;omega) ?_;intro w4 v4 hown4 hg4 hn4)
      have hlt:=fun k hk=>((hown.alloc (.cells (cP y).toArray 54)).lt k hk).1;have hw4:=(hw3.alloc (by have:=hsz.out;have:=HZ3.out;omega) (.cells (cP y).toArray 54)).grown hg4 (by have:=hsz.out;have:=HZ3.out;simp;omega) (fun k hk=>by have:=hlt k hk;have:=HZ3.out;omega);have r5:=(r4.ext (w':=wr.alloc (.cells (cP y).toArray 54)) (by go_grown) rfl);have r6:RowAt cP 2 w4 (some ad) M:=r5.kept hg4 (fun ad' e k=>by cases e;have:=hlt _ k.symm;have:=HAD.out;omega);clear z1 t0 t1 hlt
      go_roundw
      case rel=>exact ⟨j,_,rfl,by first | rfl | exact e2.out,hjn.out,by rw [HT.out];exact hown4,r6,hdd (by have:=hg4.size;have:=hsz.out;simp at *;omega),hw4⟩
      case measure=>simp [intOf];have:=e2.out;omega
  ·intro u x T R' w1 hperm HR1 hg1 hs1 hen;have hD2:=hdd (show ((D ++ [((u,x),T)]) ++ R').Perm E by have:=(hperm.append_left D).symm.trans hD.out;simpa using this);have own1:=hown.kept hg1 (.inr (fun e=>zAr hown HR e.symm));have hzi:=hiz.out;have Bp1:=Bp.grown2 hg1 (fun k hk=>by cases hk;omega);have Bq1:=Bq.grown2 hg1 (fun k hk=>by cases hk;omega);have hw1:=hw.grown hg1 hw.size (fun k hk=>by cases hk;omega);have HL:=hdd (show w1.rangeLeft b it < wr.rangeLeft b it by rw [zAc HR1,zAc HR,hperm.length_eq];simp);have hen2:(Instr.entry (.pointer (some ⟨it,0,none⟩))).run prog w1=.ok (.tuple #[.agg #[u.x,u.y,x.x,x.y],T]) w1:=hen;have hle:(onE D p q).length≤1000000:=by have:=hD2.out.length_eq;have:=zM9 D p q;simp at *;omega
   have HB:=hdd hw1.size;have HQ:=hdd Bq1.lt;clear hown HR hg1 hs1 hen hperm hw Bp Bq hzi;have Fp:=Bp1.f;have Fq:=Bq1.f;have con:=fun w0=>zGz u p q w0;have hb2:Below w1 w1 (w1.alloc (.cells #[u.x,u.y,x.x,x.y] 92)):=by go_grown
   go_wp2_with fail;refine zA4 fun W2 hW=>?_;have Be:Box W2 w1 [u.x,u.y,x.x,x.y] 92:=by rw [hW];exact Box.new rfl
   have hw2:Below w1 w1 W2:=by rw [hW];go_grown
   clear hW hb2;refine (con _).mono ?_;rintro e w3 ⟨rfl,hb⟩;have hb3:=(upB hw2 hb);have Be3:=Be.ee hb;have Bp3:=Bp1.ee hb3;have Bq3:=Bq1.ee hb3;have own3:=zDd own1 hb3;have HR3:=HR1.ee hb3;have hw3:=(upB hw1 hb3);have HL3:=hdd (show w3.rangeLeft b it < wr.rangeLeft b it by rw [zAc HR3,←zAc HR1];exact HL.out);have HB3:=hdd (show w.heap.size+2≤w3.heap.size by have:=HQ.out;have:=hb3.size;omega);clear con hb hb3 hw2 Be Bp1 Bq1 own1 HR1 hw1 HL HB HQ hen2 Fp Fq;have Fe:=Be3.f;cases hon:onR u p q with
   | true=>
    have HH:=hdd (show onE (D ++ [((u,x),T)]) p q=onE D p q ++ [u] by rw [zIs,onE_yes hon]);clear hon;go_wp2_with (at_builtin;refine zGp rfl _ _ rfl (w.heap.size+2) _ (onE D p q) rfl (own3.alloc _) w3.heap.size u rfl (Box.new rfl) hle (by have:=HB3.out;simp;omega) ?_;intro w4 v4 hown4 hg4 hn4)
    have hR3:=HR3.kept (World.grownBy_alloc _ (.cells (cP u).toArray 54) none) (by simp) (by simp);have hR4:=hR3.kept hg4 (zB5 (own3.alloc _) hR3.holds) (zAr (own3.alloc _) hR3);have hlt:=fun k hk=>((own3.alloc (.cells (cP u).toArray 54)).lt k hk).1;have hw4:=(hw3.alloc (by have:=HB3.out;omega) (.cells (cP u).toArray 54)).grown hg4 (by have:=HB3.out;simp;omega) (fun k hk=>by have:=hlt k hk;omega);have Bp4:=(Bp3.old _).grown2 hg4 (fun k hk=>by have:=hlt k hk;omega);have Bq4:=(Bq3.old _).grown2 hg4 (fun k hk=>by have:=hlt k hk;omega);clear Fe hlt
    go_roundw
    case rel=>exact ⟨D ++ [((u,x),T)],R',hD2,by rw [HH.out];exact hown4,hR4,Bp4,Bq4,hw4⟩
    case measure=>rw [zAc hR4,←zAc HR3];exact HL3.out
   | false=>
    have HH:=hdd (show onE (D ++ [((u,x),T)]) p q=onE D p q by rw [zIs,onE_no hon,jAs]);clear hon;go_wp2
    go_roundw
    case rel=>exact ⟨D ++ [((u,x),T)],R',hD2,by rw [HH.out];exact own3,HR3,Bp3,Bq3,hw3⟩
    case measure=>exact HL3.out
end
section
open Go.RowKit Go.Sort
attribute [local go_sem] rOper rAt rUpon cell_set sg_i64 sg_u64 alloc_cell alloc_frozen
attribute [local go_sem 10000] pt_eql pt_neq tri_eql
attribute [local irreducible] rWalk
def crossD (a b:Pt) (D:Es):List Wl:=D.filterMap fun e=>if decide (cmpP e.1.1 e.1.2 < 0) && decide (meetR a b e.1.1 e.1.2=1) then some ⟨e.1.1,e.1.2,0⟩ else none
theorem zDm (a b:Pt) (D F:Es):crossD a b (D ++ F)=crossD a b D ++ crossD a b F:=by unfold crossD;rw [List.filterMap_append]
theorem zGl (a b u x:Pt) (T:Tri3):crossD a b [((u,x),T)]=if (decide (cmpP u x < 0) && decide (meetR a b u x=1))=true then [⟨u,x,0⟩] else []:=by
 unfold crossD;simp only [List.filterMap_cons,List.filterMap_nil];generalize (decide (cmpP u x < 0) && decide (meetR a b u x=1))=c
 cases c <;> rfl
theorem zJ6 (a b:Pt) (D:Es):(crossD a b D).length≤D.length:=List.length_filterMap_le _ _
theorem crossD_perm (a b:Pt) {D F:Es} (h:D.Perm F):(crossD a b D).Perm (crossD a b F):=h.filterMap _
theorem zDl {a b:Pt} {D:Es} {x:Wl} (h:x∈crossD a b D):x.K=0∧cmpP x.A x.B < 0∧meetR a b x.A x.B=1∧∃ T,((x.A,x.B),T)∈D:=by
 unfold crossD at h;rw [jDc] at h;obtain ⟨e,he,hx⟩:=h;split at hx
 ·rename_i hc
  simp only [jA3,jA4] at hc;simp only [jCh] at hx;rw [←hx];exact ⟨rfl,hc.1,hc.2,e.2,he⟩
 ·cases hx
def fstep (a b:Pt) (E:Es) (x:Wl) (Q:List Wl):Es×List Wl:=
 match getE E (x.A,x.B),getE E (x.B,x.A) with
 | some S,some R=>
  if (flipD E x.A x.B).1≠0 then ((flipD E x.A x.B).2,Q ++ [x])
  else if meetR a b (apx S x.A x.B) (apx R x.A x.B)=1 then ((flipD E x.A x.B).2,Q ++ [⟨rl (apx S x.A x.B) (apx R x.A x.B),rg (apx S x.A x.B) (apx R x.A x.B),0⟩]) else ((flipD E x.A x.B).2,Q)
 | _,_=>(E,Q)
def forceR (a b:Pt):Nat→Es→List Wl→Es×List Wl
 | 0,E,Q=>(E,Q)
 | _+1,E,[]=>(E,[])
 | n+1,E,x :: Q=>forceR a b n (fstep a b E x Q).1 (fstep a b E x Q).2
theorem forceR_nil (a b:Pt) (E:Es):∀ n,forceR a b n E []=(E,[])
 | 0=>rfl
 | _+1=>rfl
def capN:Nat:=1000000
theorem zCn {a b:Pt} {E:Es} {x:Wl} {Q:List Wl} (h:getE E (x.A,x.B)=none∨getE E (x.B,x.A)=none):fstep a b E x Q=(E,Q):=by
 unfold fstep;rcases h with h | h
 ·rw [h]
 ·rw [h];cases getE E (x.A,x.B) <;> rfl
theorem zEm {a b:Pt} {E:Es} {x:Wl} {Q:List Wl} {S R:Tri3} (h0:getE E (x.A,x.B)=some S) (h1:getE E (x.B,x.A)=some R):fstep a b E x Q=if (flipD E x.A x.B).1≠0 then ((flipD E x.A x.B).2,Q ++ [x]) else if meetR a b (apx S x.A x.B) (apx R x.A x.B)=1 then ((flipD E x.A x.B).2,Q ++ [⟨rl (apx S x.A x.B) (apx R x.A x.B),rg (apx S x.A x.B) (apx R x.A x.B),0⟩]) else ((flipD E x.A x.B).2,Q):=by
 unfold fstep;rw [h0,h1]
theorem append_wls {w:World} {ops:Array Oper} {rest:List Oper} {o:Oper} {a:Act} {Q:Exit→Act→World→Prop} (hgd:o.guard=none) (s x:Operand) (ho:o.op=.call { callee:=.builtin .append,args:=#[s,x],argTypes:=#[37,37] }) (B:Nat) (v:Value) (L:List Wl) (hs:a.eval s=v) (hown:WRow w B v L) (ad:Option Addr) (n c:Nat) (M:List Wl) (hx:a.eval x=.slice ad n c) (hM:M.length=n) (hrow:RowAt cW 5 w ad M) (hfl:Flat ad) (hnn:ad≠none) (hn:L.length+n≤1000000) (hbase:B≤w.heap.size) (h:∀ w' v',WRow w' B v' (L ++ M)→w.grownBy w' v.ownBlock→wpList prog ops Q rest (a.put o.dst v') w'):wpList prog ops Q (o :: rest) a w:=by
 obtain ⟨i0,hi,hz0,hz1,hz2⟩:=info_parts zEk;cases ad with
 | none=>exact absurd rfl hnn
 | some A=>
  have hA:A=⟨A.block,A.off,none⟩:=by have:=hfl A rfl;cases A;simp_all
  rw [hA] at hx hrow;refine wpList_append_own w hgd s x 37 ho B 60 i0 _ 5 40 underlying37 hi hz0 hz1 hz2 rfl (by decide) v L.length _ hs hown ⟨A.block,A.off,none⟩ n c (M.flatMap cW) hx (by rw [zAf zCs,hM]) (fun j u hu=>by rw [Addr.add_lit];exact (hrow.flat j u hu).2) (fun u hu=>by
   obtain ⟨y,_,hy⟩:=jAh.1 hu;exact zLp y u hy) (by unfold maxLen;omega) (by omega) hbase ?_
  intro v' w' hown' hg _;refine h w' v' ?_ hg;unfold WRow;rw [jAa,jBe,hM];exact hown'
theorem zHx {w w' w2:World} {b:Nat} {r:Option Nat} (h:w.grownBy w' (some b)) (hg:w'.grownBy w2 r) (hr:∀ k,r=some k→w.heap.size≤k):w.grownBy w2 (some b):=
 ⟨hg.os.trans h.os,hg.tape.trans h.tape,hg.output.trans h.output,jAp h.size hg.size,fun k hk hn=>(hg.block k (jBj hk h.size) (fun e=>by have:=hr k e.symm;omega)).trans (h.block k hk hn)⟩
theorem made_row2 (w:World) (o:Obj):WRow ((w.alloc o).alloc (.cells #[] 60)) w.heap.size (.slice (some ⟨w+1,0,none⟩) 0 0) []:=by
 have h:=zF4 (w.alloc o) w.heap.size (by simp)
 simpa using h
def tl1 (ad:Addr) (cap:Nat):Addr:=if cap=1 then ad else ad.add 5
theorem run_tail_wal (ad:Addr) (n cap:Nat) (w:World):(Instr.slice 37 (.slice (some ad) (n+1) cap) (some (.int .i64 1)) none none).run prog w=.ok (.slice (some (tl1 ad cap)) n (cap - 1)) w:=by
 have h:=zG3 (some ad) (n+1) cap 1 (by omega) w;refine (show _=_ from h).trans ?_;unfold tl1;split <;> simp
attribute [local go_sem ↓ 10000] run_tail_wal
def ForcePost (b:Nat) (E:Es) (a b0:Pt) (w:World) (e:Ending) (w':World):Prop:=
 e=.returned (.tuple #[])∧∃ Q0:List Wl,Q0.Perm (crossD a b0 E)∧w.grownBy w' (some b)∧HoldsMap eW eT okW w' b (forceR a b0 capN E Q0).1
theorem rforce_any (mb b:Nat) (E:Es) (L:List Tri3) (hE:E.length≤100000) (g:Good E L) (a b0:Pt) (w:World) (Bm:Box w mb [.map (some b)] 90) (Hm:HoldsMap eW eT okW w b E):Calls prog 110 #[pt0 mb,a,b0] w (ForcePost b E a b0 w):=by
 have hok:∀ e∈E,okW e.1:=zJv g;have HG:=hdd g;clear g;have Fm:=Bm.f;have e1:(mb=w.heap.size+1)=False:=by have:=Bm.lt;simp;omega
 have e2:(mb=w.heap.size+1+1)=False:=by have:=Bm.lt;simp;omega
 go_enter func110,ntmps110
 go_wp2_with (at_range;refine zB1 _ rfl _ rfl kvR rfl (((Hm.alloc _).alloc _).alloc _) ?_)
 intro w0 HR0 hw0 hs0;have Ba0:Box w0 w [a.x,a.y] 54:=(((Box.new rfl).old _).old _).ext hw0 (by simp);have Bb0:Box w0 (w+1) [b0.x,b0.y] 54:=((Box.new (by simp)).old _).ext hw0 (by simp);have So0:DocAt w0 (w.heap.size+1+1) (.slice none 0 0) []:=⟨(Box.new (by simp)).ext hw0 (by simp),World.ownsRow_nil _ _ _ _,by simp [Value.ownBlock],by simp⟩;replace hw0:Below w w w0:=((((Below.refl w.heap.size w).alloc (jA9 _) _).alloc (by simp) _).alloc (by simp;omega) _).trans (hw0.mono (by omega));clear Fm hs0 e1 e2;go_wp2
 go_loopw [] (fun wr=>∃ (D R:Es) (v:Value) (L:List Wl),Hid ((D ++ R).Perm E)∧Hid (L.Perm (crossD a b0 D))∧DocAt wr (w.heap.size+1+1) v L∧Hid (∀ k,v.ownBlock=some k→w.heap.size+3≤k)∧Ranging eW eT okW wr b (w.heap.size+1+1+1) E R∧Box wr w [a.x,a.y] 54∧Box wr (w+1) [b0.x,b0.y] 54∧Below w w wr) (fun wr=>wr.rangeLeft b (w.heap.size+1+1+1))
 case atStart=>exact ⟨[],E,_,[],hdd (by simp),hdd (.refl _),So0,hdd (by simp [Value.ownBlock]),by simpa using HR0,Ba0,Bb0,hw0⟩
 case round=>
  clear HR0 hw0 So0 Ba0 Bb0;obtain ⟨D,R,v,L,hD,hL,So,hB,HR,Ba,Bb,hw⟩:=hrel;go_wp2_with (at_next;refine zB8 _ rfl _ rfl rfl HR ?_ ?_)
  ·intro hR;subst hR;have hp0:=hdd (show L.Perm (crossD a b0 E) from hL.out.trans (crossD_perm a b0 (by simpa using hD.out)));have hlE:=hdd (show L.length≤100000 by rw [hp0.out.length_eq];exact jAp (zJ6 a b0 E) hE);obtain ⟨a1,c',rfl,Dr,hz⟩:=So.rd;have Fo:=Dr.box.f;have hown:WRow wr (w.heap.size+2) (.slice a1 L.length c') L:=by
    rcases So.row.box with ⟨e1,e2⟩ | ⟨g,cap,tl,e1,_,k1,k2,k3,k4⟩
    ·rw [e1,e2];exact WRow.nil0 _ _
    ·rw [e1];exact WRow.of_box (by have:=hB.out g (by rw [e1];rfl);omega) k1 k2 k3 k4
   have HK0:=hdd (show ∀ x∈L,okW (x.A,x.B) from fun x hx=>by
    obtain ⟨_,_,_,T,hT⟩:=zDl (hp0.out.mem_iff.1 hx);exact hok _ hT)
   have Hb:=HR.holds;have HQ0:=hdd (show ∃ L1,Good E L1 from ⟨_,HG.out⟩);have HP0:=hdd (show forceR a b0 (capN - 0) E L=forceR a b0 capN E L by rw [Nat.sub_zero]);have hg0:w.grownBy wr (some b):=zA6 hw _;clear So Dr hz HR hw hB hL hD HG;go_wp2
   go_loopw [8,9] (fun v8 v9 wr=>∃ (k:Nat) (E1:Es) (Q:List Wl),v9=.int .i64 k∧k≤1000000∧WRow wr (w.heap.size+2) v8 Q∧Hid (Q.length≤100000)∧Hid (∀ x∈Q,okW (x.A,x.B))∧HoldsMap eW eT okW wr b E1∧Hid (∃ L1,Good E1 L1)∧Hid (forceR a b0 (capN - k) E1 Q=forceR a b0 capN E L)∧Box wr w [a.x,a.y] 54∧Box wr (w+1) [b0.x,b0.y] 54∧w.grownBy wr (some b)) (fun _ v9 _=>1000000 - (intOf v9).toNat)
   case atStart=>exact ⟨0,E,L,rfl,jAt _,hown,hlE,HK0,Hb,HQ0,HP0,Ba,Bb,hg0⟩
   case round=>
    clear hown hlE Hb HQ0 HP0 Ba Bb hg0 HK0 Fo;obtain ⟨k,E1,Q,rfl,hk,hown,hlE,HK0,Hb,HQ0,HP0,Ba,Bb,hg0⟩:=hrel;cases Q with
    | nil=>
     obtain ⟨a8,c8,rfl,_,_⟩:=hown.row;have HE:=hdd (show (forceR a b0 capN E L).1=E1 by rw [←HP0.out,forceR_nil]);go_wp2;exact bodyPost_end (results_none rfl _ _ _) rfl ⟨rfl,L,hp0.out,hg0,by rw [HE.out];exact Hb⟩
    | cons x Q=>
     by_cases hlt:k < 1000000
     case neg=>
      obtain ⟨a8,c8,rfl,_,_⟩:=hown.row;have q1:decide ((k:Int) < 1000000)=false:=by simp;omega
      have q2:decide (0 < (Q.length:Int)+1)=true:=jCo (by omega);have HE:=hdd (show (forceR a b0 capN E L).1=E1 by rw [←HP0.out,show capN - k=0 by unfold capN;omega];rfl);clear hlt;go_wp2;exact bodyPost_end (results_none rfl _ _ _) rfl ⟨rfl,L,hp0.out,hg0,by rw [HE.out];exact Hb⟩
     case pos=>
      have q1:decide ((k:Int) < 1000000)=true:=by simp;omega
      have HF:=hdd (show forceR a b0 (capN - (k+1)) (fstep a b0 E1 x Q).1 (fstep a b0 E1 x Q).2=forceR a b0 capN E L by
       rw [←HP0.out,show capN - k=capN - (k+1)+1 by unfold capN;omega];rfl)
      clear HP0;obtain ⟨a8,c8,rfl,hr8,hf8⟩:=hown.row;obtain ⟨m,hm⟩:∃ m,Q.length=m:=⟨_,rfl⟩;have HM:=hdd hm;have hn8:(x :: Q).length=m+1:=by rw [jAm,hm]
      have hnc:m+1≤c8:=by
       rcases hown.box with ⟨e1,e2⟩ | ⟨g,cap,tl,e1,_,_,k2,_⟩
       ·cases e2
       ·simp only [Value.slice.injEq] at e1;omega
      obtain ⟨ad,A,ea,eA,hA⟩:=hr8.five (j:=0) (by simp);subst ea;obtain ⟨ad1,hd1,hr1,hf1,hz1⟩:=zFv (k:=1) hr8 hn8 hnc hf8 (by omega) (fun e=>by cases e);have e1:ad1=some (tl1 ad c8):=by rw [←hd1];unfold tl1;split <;> simp
      rw [e1] at hr1 hf1;have hnn:some (tl1 ad c8)≠none:=by simp
      rw [hn8];have q2:decide (0 < (m:Int)+1)=true:=jCo (by omega);simp only [dP1,dP0] at hr1;have hA:Five wr A x:=hA;have hAb:=hA.1;obtain ⟨zA,d0,d1,d2,d3,d4⟩:=hA.f;have hle2:([]:List Wl).length+m≤1000000:=by have:=hlE.out;rw [jAm,hm] at this;simp;omega
      clear e1 hd1 hz1 hown hf8 hr8 hnc hn8 hA hk;go_wp2_with (
       at_builtin
       (refine append_wls rfl _ _ rfl wr.heap.size (.slice (some ⟨wr+1,0,none⟩) 0 0) [] rfl (made_row2 wr _) _ m (c8 - 1) Q rfl HM.out ((hr1.old _).old _) hf1 hnn hle2 (by simp;omega) ?_)
       intro w4 v4 hown4 hg4;have hne:∀ k,(Value.slice (some ⟨wr+1,0,none⟩) 0 0).ownBlock=some k→k=wr.heap.size+1:=fun k hk=>by have hk':some (wr.heap.size+1)=some k:=hk;cases hk';rfl
       have lA:=Ba.lt;have lB:=Bb.lt;have Bw:Box w4 wr [x.A.x,x.A.y,x.B.x,x.B.y,x.K] 60:=((Box.new rfl).old _).grown2 hg4 (fun k hk=>by have:=hne k hk;omega);have Ba4:=((Ba.old _).old _).grown2 hg4 (fun k hk=>by have:=hne k hk;omega);have Bb4:=((Bb.old _).old _).grown2 hg4 (fun k hk=>by have:=hne k hk;omega);have hw:Below wr wr w4:=(((Below.refl wr.heap.size wr).alloc (jA9 _) _).alloc (by simp) _).grown hg4 (by simp;omega) (fun k hk=>by have:=hne k hk;omega);rw [jBd] at hown4;have hwr2:=hdd (show w.heap.size+1 < wr.heap.size from lB);clear hne lA lB Ba Bb hg4 zA d0 d1 d2 d3 d4 hr1;have Fw:=Bw.f;have Fa:=Ba4.f;have Fb:=Bb4.f)
      have hkx:okW (x.A,x.B):=HK0.out x (by simp);have HKQ:=hdd (show ∀ y∈Q,okW (y.A,y.B) from fun y hy=>HK0.out y (jAi _ hy));have HXK:=hdd hkx;have hl2:=hdd (show Q.length+1≤100000 by have:=hlE.out;rw [jAm] at this;exact this);have B4:Box w4 mb [.map (some b)] 90:=(Bm.turn Hm hg0).ee hw;have H4:=Hb.ee hw;have hg4:=zA9 hg0 hw;have hrz:=hdd (show w.heap.size+2≤wr.heap.size by have:=hwr2.out;omega);have own4:=hown4.base (show w.heap.size+2≤wr.heap.size from hrz.out);have Ba:=Ba4;have Bb:=Bb4;clear hw Hb hg0 HK0 hlE hnn hf1 Ba4 Bb4;have hw:Below w4 w4 w4:=Below.refl _ _;have cl:=zAj mb b E1 x.A x.B hkx;have cr:=zAj mb b E1 x.B x.A ⟨hkx.2,hkx.1⟩;clear hkx;cases h0:getE E1 (x.A,x.B) with
      | none=>
       have HFN:=hdd (show forceR a b0 (capN - (k+1)) E1 Q=forceR a b0 capN E L by rw [←HF.out,zCn (.inl h0)]);rw [lftE_none h0] at cl;generalize lftE E1 x.B x.A=Z at cr
       obtain ⟨Y,y⟩:=Z;dsimp only at cr;clear HF h0;clear Fw Fa Fb;refine qC3 (cl _ (B4.ee hw) (H4.ee hw)) Bw Ba Bb hw fun w51 Bw Ba Bb hw F_wab=>?_;go_wp2_with fail;clear F_wab;refine zA4 fun W52 hW=>?_;obtain ⟨bks,hbs⟩:∃ b,w51.heap.size=b:=⟨_,rfl⟩;rw [hbs];obtain ⟨lws,las,lbs,fs,Bs,Bw,Ba,Bb,hw⟩:=qM3 hW hbs Bw Ba Bb hw;clear hW hbs;refine qK4 (cr _ (B4.ee hw) (H4.ee hw)) Bw Ba Bb Bs hw fun w53 Bw Ba Bb Bs hw=>?_;have Fw:=Bw.f;have Fa:=Ba.f;have Fb:=Bb.f;have Fs:=Bs.f;go_wp2
       go_roundw
       case rel=>exact ⟨k+1,E1,Q,by go_num,by omega,own4.ext (by have hl:=hw.size;go_grown) rfl,hdd (by have:=hl2.out;omega),HKQ,H4.ext (by have hl:=hw.size;go_grown) rfl,HQ0,HFN,Ba.ext (by have hl:=hw.size;go_grown) rfl,Bb.ext (by have hl:=hw.size;go_grown) rfl,zA9 hg4 (by have hl:=hw.size;go_grown)⟩
       case measure=>simp [intOf];omega
      | some S=>
       rw [lftE_some h0] at cl;cases h1:getE E1 (x.B,x.A) with
       | none=>
        have HFN:=hdd (show forceR a b0 (capN - (k+1)) E1 Q=forceR a b0 capN E L by rw [←HF.out,zCn (.inr h1)]);rw [lftE_none h1] at cr;clear HF h0 h1;clear Fw Fa Fb;refine qC3 (cl _ (B4.ee hw) (H4.ee hw)) Bw Ba Bb hw fun w51 Bw Ba Bb hw F_wab=>?_;go_wp2_with fail;clear F_wab;refine zA4 fun W52 hW=>?_;obtain ⟨bks,hbs⟩:∃ b,w51.heap.size=b:=⟨_,rfl⟩;rw [hbs];obtain ⟨lws,las,lbs,fs,Bs,Bw,Ba,Bb,hw⟩:=qM3 hW hbs Bw Ba Bb hw;clear hW hbs;refine qK4 (cr _ (B4.ee hw) (H4.ee hw)) Bw Ba Bb Bs hw fun w53 Bw Ba Bb Bs hw=>?_;have Fw:=Bw.f;have Fa:=Ba.f;have Fb:=Bb.f;have Fs:=Bs.f;go_wp2
        go_roundw
        case rel=>exact ⟨k+1,E1,Q,by go_num,by omega,own4.ext (by have hl:=hw.size;go_grown) rfl,hdd (by have:=hl2.out;omega),HKQ,H4.ext (by have hl:=hw.size;go_grown) rfl,HQ0,HFN,Ba.ext (by have hl:=hw.size;go_grown) rfl,Bb.ext (by have hl:=hw.size;go_grown) rfl,zA9 hg4 (by have hl:=hw.size;go_grown)⟩
        case measure=>simp [intOf];omega
       | some R=>
        rw [lftE_some h1] at cr;have HS:=hdd (zEm (a:=a) (b:=b0) (Q:=Q) h0 h1);have HGD:=hdd (show ∃ L1,Good (flipD E1 x.A x.B).2 L1 from by obtain ⟨L1,g1⟩:=HQ0.out;exact good_flipD g1 _ _);have HVC:=hdd (show vld (apx S x.A x.B)=true∧vld (apx R x.A x.B)=true from by obtain ⟨L1,g1⟩:=HQ0.out;obtain ⟨_,_,_,_,_,v1,v2⟩:=zDj g1 h0 h1;exact ⟨v1,v2⟩);obtain ⟨L1,g1⟩:=HQ0.out;have cf:=fun w0 B1 H1=>zKd mb b E1 L1 g1 x.A x.B HXK.out w0 B1 H1;clear g1 HQ0 L1;have k1:=zC2 S x.A x.B;have k2:=zC2 R x.A x.B;generalize apx S x.A x.B=C at *
        generalize apx R x.A x.B=D at *
        generalize flipD E1 x.A x.B=RE at *
        obtain ⟨r,E2⟩:=RE;dsimp only at cf HS HGD;clear h0 h1;clear Fw Fa Fb;refine qC3 (cl _ (B4.ee hw) (H4.ee hw)) Bw Ba Bb hw fun w51 Bw Ba Bb hw F_wab=>?_;go_wp2_with fail;clear F_wab;refine zA4 fun W52 hW=>?_;obtain ⟨bks,hbs⟩:∃ b,w51.heap.size=b:=⟨_,rfl⟩;rw [hbs];obtain ⟨lws,las,lbs,fs,Bs,Bw,Ba,Bb,hw⟩:=qM3 hW hbs Bw Ba Bb hw;clear hW hbs;refine qC4 (cr _ (B4.ee hw) (H4.ee hw)) Bw Ba Bb Bs hw fun w53 Bw Ba Bb Bs hw F_wabs=>?_;go_wp2_with fail;clear F_wabs;refine zA1 fun W54 hW=>?_;obtain ⟨bkt,hbt⟩:∃ b,w53.heap.size=b:=⟨_,rfl⟩;rw [hbt];obtain ⟨lwt,lat,lbt,lst,ft,Bt,Bw,Ba,Bb,Bs,hw⟩:=qM4 hW hbt Bw Ba Bb Bs hw;clear hW hbt;have gw:=Bw.cells;have ga:=Ba.cells;have gb:=Bb.cells;have gs:=Bs.cells;have gt:=Bt.cells;refine zAq 14 [⟨12,15,54,[(),()]⟩,⟨13,16,54,[(),()]⟩] ?_ (by kernel_rfl) (by decide) (by decide) (by kernel_rfl) (by decide) (C:=fun w'=>∃ p:Regrown,w'=grow (redrawn W54 p.d) p.os) rgB ?_
        ·simp only [jBt];refine ⟨⟨_,rfl,rfl,rfl,rfl,fun ρ W=>by simp [execOp,go_sem]⟩,⟨_,rfl,rfl,rfl,rfl,fun ρ W=>by simp [execOp,go_sem]⟩,fun _ h=>(by cases h)⟩
        simp only [jBf,jCg,jAv,jD0,dropIdx,jC4,jC8,Nat.reduceBEq,Nat.reduceAdd,jCz,jD7,jD8,jBb,jDs,jDf];refine wkx ?_;intro w55 β hL;simp only [putD,jBy,jC0];have qc:=hL.box ⟨12,15,54,[(),()]⟩ (by simp) (by simp);simp only at qc;have qd:=hL.box ⟨13,16,54,[(),()]⟩ (by simp) (by simp);simp only at qd;have ncd:=hL.apart 15 (by simp) 16 (by simp) (by decide);have ndc:=hL.apart 16 (by simp) 15 (by simp) (by decide);have hb:=hL.below;have lw:=Bw.lt;have la:=Ba.lt;have lb:=Bb.lt;have ls:=Bs.lt;have lt:=Bt.lt;clear gw ga gb gs gt;replace Bw:=Bw.ee hb;replace Ba:=Ba.ee hb;replace Bb:=Bb.ee hb;replace Bs:=Bs.ee hb;replace Bt:=Bt.ee hb;have hw0:=hw.size;replace hw:=upB hw hb;clear hb hL;generalize β 15=bkc at *
        generalize β 16=bkd at *
        clear β;obtain ⟨fc,Bc⟩:=qc;obtain ⟨fd,Bd⟩:=qd;simp only [Act.put];have Fc:=Bc.f;have Fd:=Bd.f;have Fw:=Bw.f;have Fa:=Ba.f;have Fb:=Bb.f;have Fs:=Bs.f;have Ft:=Bt.f;have ewbkc:(wr.heap.size=bkc)=False:=by simp;omega
        have ewbkc':(bkc=wr.heap.size)=False:=by simp;omega
        have ewbkd:(wr.heap.size=bkd)=False:=by simp;omega
        have ewbkd':(bkd=wr.heap.size)=False:=by simp;omega
        have eabkc:(w.heap.size=bkc)=False:=by simp;omega
        have eabkc':(bkc=w.heap.size)=False:=by simp;omega
        have eabkd:(w.heap.size=bkd)=False:=by simp;omega
        have eabkd':(bkd=w.heap.size)=False:=by simp;omega
        have ebbkc:(w.heap.size+1=bkc)=False:=by simp;omega
        have ebbkc':(bkc=w.heap.size+1)=False:=by simp;omega
        have ebbkd:(w.heap.size+1=bkd)=False:=by simp;omega
        have ebbkd':(bkd=w.heap.size+1)=False:=by simp;omega
        have esbkc:(bks=bkc)=False:=by simp;omega
        have esbkc':(bkc=bks)=False:=by simp;omega
        have esbkd:(bks=bkd)=False:=by simp;omega
        have esbkd':(bkd=bks)=False:=by simp;omega
        have etbkc:(bkt=bkc)=False:=by simp;omega
        have etbkc':(bkc=bkt)=False:=by simp;omega
        have etbkd:(bkt=bkd)=False:=by simp;omega
        have etbkd':(bkd=bkt)=False:=by simp;omega
        have ebkcbkd:(bkc=bkd)=False:=by simp;omega
        have ebkdbkc:(bkd=bkc)=False:=by simp;omega
        go_wp2_with fail;refine zA4 fun W56 hW=>?_;replace Bw:=sto Bw hW;replace Ba:=sto Ba hW;replace Bb:=sto Bb hW;replace Bs:=sto Bs hW;replace Bt:=sto Bt hW;replace Bc:=sto Bc hW;replace Bd:=sto Bd hW;replace hw:=stw hw hW;clear Fc Fd;clear Fw Fa Fb Fs Ft ewbkc ewbkc' ewbkd ewbkd' eabkc eabkc' eabkd eabkd' ebbkc ebbkc' ebbkd ebbkd' esbkc esbkc' esbkd esbkd' etbkc etbkc' etbkd etbkd' ebkcbkd ebkdbkc;clear hW;refine (cf _ (B4.ee hw) (H4.ee hw)).mono ?_;rintro e w90 ⟨rfl,hh,H6⟩;have HX:=H4.ee hw;replace Bw:=Bw.turn HX hh;replace Ba:=Ba.turn HX hh;replace Bb:=Bb.turn HX hh;replace Bs:=Bs.turn HX hh;replace Bt:=Bt.turn HX hh;replace Bc:=Bc.turn HX hh;replace Bd:=Bd.turn HX hh;have own6:=(own4.ee hw).kept hh (.inr (fun e=>zB5 (own4.ee hw) HX e.symm));have hg6:=zAa (zA9 hg4 hw) hh;clear hw hh HX own4 H4 B4 hg4 cf k1 k2;have hw:Below w90 w90 w90:=Below.refl _ _;have hle:Q.length≤1000000:=by have:=hl2.out;omega
        by_cases hr:r=0
        case neg=>
         have hr1:(r != 0)=true:=by simp;exact hr
         have HFN:=hdd (show forceR a b0 (capN - (k+1)) E2 (Q ++ [x])=forceR a b0 capN E L by rw [←HF.out,HS.out,jAc hr]);have hbz:w.heap.size+2≤w90.heap.size:=by have:=Bb.lt;omega
         clear HF HS hr;have Fw:=Bw.f;have Fa:=Ba.f;have Fb:=Bb.f;have Fs:=Bs.f;have Ft:=Bt.f;have Fc:=Bc.f;have Fd:=Bd.f;go_wp2_with (at_builtin;refine zFx rfl _ _ rfl (w.heap.size+2) _ Q rfl (own6.alloc _) w90.heap.size x rfl (Box.new rfl) hle (by simp;omega) ?_;intro w91 v91 own8 hg8 hn8)
         clear Fw Fa Fb Fs Ft Fc Fd;have hlt:=fun q hq=>(((own6.ee hw).alloc (.cells (cW x).toArray 60)).lt q hq).1;have hla:Below w90 w90 (w90.alloc (.cells (cW x).toArray 60)):=by have hl:=hw.size;go_grown
         have H7:=(H6.ee hla).kept hg8 (zB5 ((own6.ee hw).alloc (.cells (cW x).toArray 60)) (H6.ee hla));have Ba7:=(Ba.old _).grown2 hg8 (fun q hq=>by have:=hlt q hq;omega);have Bb7:=(Bb.old _).grown2 hg8 (fun q hq=>by have:=hlt q hq;omega);have hg7:=zHx (zA9 hg6 hla) hg8 (fun q hq=>by have:=hlt q hq;omega);clear hlt hla hg8 hn8 H6 own6 hg6 Ba Bb hw
         go_roundw
         case rel=>exact ⟨k+1,E2,Q ++ [x],by go_num,by omega,own8,hdd (by have:=hl2.out;simp;omega),hdd (fun y hy=>by rcases jAg.1 hy with h | h;exact HKQ.out y h;rw [jC5.1 h];exact HXK.out),H7,HGD,HFN,Ba7,Bb7,hg7⟩
         case measure=>simp [intOf];omega
        case pos=>
         subst hr;have cm:=zHm a b0 C D;have Fw:=Bw.f;have Fa:=Ba.f;have Fb:=Bb.f;have Fs:=Bs.f;have Ft:=Bt.f;have Fc:=Bc.f;have Fd:=Bd.f;go_wp2_with fail;clear Fw Fa Fb Fs Ft Fc Fd;refine qK7 (cm _) Bw Ba Bb Bs Bt Bc Bd hw fun w57 Bw Ba Bb Bs Bt Bc Bd hw=>?_;cases hm:decide (meetR a b0 C D=1)
         case false=>
          have hm1:(meetR a b0 C D == 1)=false:=by simpa using hm
          have HFN:=hdd (show forceR a b0 (capN - (k+1)) E2 Q=forceR a b0 capN E L by rw [←HF.out,HS.out,jA0 (by simp),jA0 (by simpa using hm)]);clear HF HS hm;have Fw:=Bw.f;have Fa:=Ba.f;have Fb:=Bb.f;have Fs:=Bs.f;have Ft:=Bt.f;have Fc:=Bc.f;have Fd:=Bd.f;go_wp2
          go_roundw
          case rel=>exact ⟨k+1,E2,Q,by go_num,by omega,own6.ext (by have hl:=hw.size;go_grown) rfl,hdd (by have:=hl2.out;omega),HKQ,H6.ext (by have hl:=hw.size;go_grown) rfl,HGD,HFN,Ba.ext (Below.refl _ _) rfl,Bb.ext (Below.refl _ _) rfl,zA9 hg6 (by have hl:=hw.size;go_grown)⟩
          case measure=>simp [intOf];omega
         case true=>
          have hm1:(meetR a b0 C D == 1)=true:=by simpa using hm
          have HFN:=hdd (show forceR a b0 (capN - (k+1)) E2 (Q ++ [⟨rl C D,rg C D,0⟩])=forceR a b0 capN E L by rw [←HF.out,HS.out,jA0 (by simp),jAc (by simpa using hm)]);have HKN:=hdd (show okW (rl C D,rg C D) from by
           unfold rl rg;split
           ·exact ⟨zBj HVC.out.1,zBj HVC.out.2⟩
           ·exact ⟨zBj HVC.out.2,zBj HVC.out.1⟩)
          have k3:=zGr C D;have k4:=zGs C D;generalize rl C D=U at *
          generalize rg C D=V at *
          clear HF HS hm;have Fw:=Bw.f;have Fa:=Ba.f;have Fb:=Bb.f;have Fs:=Bs.f;have Ft:=Bt.f;have Fc:=Bc.f;have Fd:=Bd.f;go_wp2_with fail;have gw:=Bw.cells;have ga:=Ba.cells;have gb:=Bb.cells;have gs:=Bs.cells;have gt:=Bt.cells;have gc:=Bc.cells;have gd:=Bd.cells;have hcB:∀ w',(∃ p:Regrown,w'=grow (redrawn w57 p.d) p.os)→Below w57 w57 w':=fun w' h=>by obtain ⟨p,rfl⟩:=h;exact below_regrown _ _ _
          refine FT.wp_region_flow 9 (.run 0 (.run 1 (.run 2 (.run 4 (.run 5 (.alt 3 (.alt 6 (.run 7 (.alt 8 .tail .stop)) .stop) .stop)))))) rfl (by kernel_rfl) (fun _ x _ _ _ h=>by cases x <;> exact h) (C:=fun w'=>∃ p:Regrown,w'=grow (redrawn w57 p.d) p.os) rgB hcB ?_;have hC:∀ x y,Ext x y→(∃ p:Regrown,x=grow (redrawn w57 p.d) p.os)→(∃ p:Regrown,y=grow (redrawn w57 p.d) p.os):=fun x y h1 h2=>regrown_of_below ((hcB x h2).trans (h1.mono (hcB x h2).size))
          iterate 5 (refine FT.flow_run rfl (fun K hK=>?_);go_simp;first | (refine hK _ ?_;clear hK K) | (apply Exists.intro;refine ⟨fun _=>?_,hK _ ?_⟩;rotate_left;clear hK K))
          refine FT.flow_at hC rfl trivial (fun w71 hw71 K hK=>?_);go_simp;refine (k3 w71).mono ?_;rintro e w72 ⟨rfl,hb2⟩;have hb3:=Below.trans hw71 (hb2.mono (Below.size hw71));go_simp;refine hK _ _ (regrown_of_below hb3) ?_;clear hK K;refine FT.flow_at hC rfl trivial (fun w73 hw73 K hK=>?_);have hb4:=(upB hb3 hw73);go_simp;refine (k4 w73).mono ?_;rintro e w74 ⟨rfl,hb5⟩;have hb6:=(upB hb4 hb5);go_simp;refine hK _ _ (regrown_of_below hb6) ?_;clear hK K
          iterate 1 (refine FT.flow_run rfl (fun K hK=>?_);go_simp;first | (refine hK _ ?_;clear hK K) | (apply Exists.intro;refine ⟨fun _=>?_,hK _ ?_⟩;rotate_left;clear hK K))
          refine FT.flow_at hC rfl trivial (fun w75 hw75 K hK=>?_);have hb7:=(upB hb6 hw75);go_simp;have hb8:=hb7.alloc hb7.size (.cells #[U.x,U.y,V.x,V.y,()] 60);obtain ⟨bz,hbz0⟩:∃ bv,w75.heap.size=bv:=⟨_,rfl⟩;have Bz0:Box (w75.alloc (.cells #[U.x,U.y,V.x,V.y,()] 60)) bz [U.x,U.y,V.x,V.y,()] 60:=by rw [←hbz0];exact Box.new rfl
          refine hK _ _ (regrown_of_below hb8) ?_;clear hK K;rw [hbz0];generalize hw8:w75.alloc (.cells #[U.x,U.y,V.x,V.y,()] 60)=w76 at *
          clear hw8 hbz0 hw75 hw73 hw71 hb2 hb3 hb4 hb5 hb6 hb7 hcB hC k3 k4;intro w77 hw77;have hb9:=(upB hb8 hw77);have Bz:=Bz0.ee hw77;simp only [dP1,dP0];clear Fw Fa Fb Fs Ft Fc Fd;replace Bw:=Bw.ee hb9;replace Ba:=Ba.ee hb9;replace Bb:=Bb.ee hb9;replace Bs:=Bs.ee hb9;replace Bt:=Bt.ee hb9;replace Bc:=Bc.ee hb9;replace Bd:=Bd.ee hb9;clear gw ga gb gs gt gc gd;replace hw:=upB hw hb9;clear hb9 hb8 hw77 Bz0;have own7:=own6.ee hw;have H7:=H6.ee hw;have hg7:=zA9 hg6 hw;have hbz:w.heap.size+2≤w77.heap.size:=by have:=Bb.lt;omega
          clear hw own6 H6 hg6;go_wp2_with (at_builtin;refine zFx rfl _ _ rfl (w.heap.size+2) _ Q rfl own7 bz ⟨U,V,0⟩ rfl Bz hle hbz ?_;intro w91 v91 own8 hg8 hn8)
          have hlt:=fun q hq=>(own7.lt q hq).1;have H8:=H7.kept hg8 (zB5 own7 H7);have Ba7:=Ba.grown2 hg8 (fun q hq=>by have:=hlt q hq;omega);have Bb7:=Bb.grown2 hg8 (fun q hq=>by have:=hlt q hq;omega);have hg9:=zHx hg7 hg8 (fun q hq=>by have:=hlt q hq;omega);clear hlt hg8 hn8 H7 own7 hg7 Ba Bb Bz
          go_roundw
          case rel=>exact ⟨k+1,E2,Q ++ [⟨U,V,0⟩],by go_num,by omega,own8,hdd (by have:=hl2.out;simp;omega),hdd (fun y hy=>by rcases jAg.1 hy with h | h;exact HKQ.out y h;rw [jC5.1 h];exact HKN.out),H8,HGD,HFN,Ba7,Bb7,hg9⟩
          case measure=>simp [intOf];omega
  ·intro u x T R' w1 hperm HR1 hg1 hs1 hen;have hD2:=hdd (show ((D ++ [((u,x),T)]) ++ R').Perm E by have:=(hperm.append_left D).symm.trans hD.out;simpa using this);have hk:okW (u,x):=hok ((u,x),T) (hD2.out.mem_iff.1 (by simp));have So1:DocAt w1 (w.heap.size+1+1) v L:=⟨So.box.grown2 hg1 (fun k hk=>by cases hk;omega),So.row.kept hg1 (.inr (fun e=>zAr So.row HR e.symm)),So.ne,So.le⟩;have Ba1:=Ba.grown2 hg1 (fun k hk=>by cases hk;omega);have Bb1:=Bb.grown2 hg1 (fun k hk=>by cases hk;omega);have hw1:=hw.grown hg1 hw.size (fun k hk=>by cases hk;omega);have HL:=hdd (show w1.rangeLeft b (w.heap.size+1+1+1) < wr.rangeLeft b (w.heap.size+1+1+1) by rw [zAc HR1,zAc HR,hperm.length_eq];simp);have hen2:(Instr.entry (.pointer (some ⟨w+1+1+1,0,none⟩))).run prog w1=.ok (.tuple #[.agg #[u.x,u.y,x.x,x.y],T]) w1:=hen;have hle:L.length < 1000000:=by have:=hL.out.length_eq;have:=zJ6 a b0 D;have:=hD2.out.length_eq;simp at *;omega
   have hgk:∀ X∈L,0≤X.K∧X.K≤2:=fun X hX=>by have:=(zDl (hL.out.mem_iff.1 hX)).1;omega
   clear So HR hg1 hs1 hen hperm hw Ba Bb;go_wp2_with fail;refine zA4 fun W2 hW=>?_;have Be:Box W2 w1 [u.x,u.y,x.x,x.y] 92:=by rw [hW];exact Box.new rfl
   have hw2:Below w1 w1 W2:=by rw [hW];go_grown
   clear hW;have So2:=So1.ee hw2;have HR2:=HR1.ee hw2;have Ba2:=Ba1.ee hw2;have Bb2:=Bb1.ee hw2;have hwx:=(upB hw1 hw2);have HL2:=hdd (show W2.rangeLeft b (w.heap.size+1+1+1) < wr.rangeLeft b (w.heap.size+1+1+1) by rw [zAc HR2,←zAc HR1];exact HL.out);clear So1 HR1 hw1 hw2 HL Ba1 Bb1;refine (zAe u x _).mono ?_;rintro e w3 ⟨rfl,hb⟩;replace Be:=Be.ee hb;have Ba3:=Ba2.ee hb;have Bb3:=Bb2.ee hb;replace So2:=So2.ee hb;have HR3:=HR2.ee hb;replace hwx:=upB hwx hb;have HL3:=hdd (show w3.rangeLeft b (w.heap.size+1+1+1) < wr.rangeLeft b (w.heap.size+1+1+1) by rw [zAc HR3,←zAc HR2];exact HL2.out);have HF:=hdd (fun (h1:decide (cmpP u x < 0)=false)=>show L.Perm (crossD a b0 (D ++ [((u,x),T)])) by
    rw [zDm,zGl,h1,Bool.false_and,jA0 (by decide),jAs];exact hL.out)
   have HG2:=hdd (fun (h1:decide (meetR a b0 u x=1)=false)=>show L.Perm (crossD a b0 (D ++ [((u,x),T)])) by
    rw [zDm,zGl,h1,Bool.and_false,jA0 (by decide),jAs];exact hL.out)
   have HH:=hdd (fun (h1:decide (cmpP u x < 0)=true) (h2:decide (meetR a b0 u x=1)=true)=>show ∀ k,(L.take k ++ (⟨u,x,0⟩:Wl) :: L.drop k).Perm (crossD a b0 (D ++ [((u,x),T)])) from fun k=>by
    rw [zDm,zGl,h1,h2,jCp,jAc rfl];exact (zCh k).trans ((hL.out.cons _).trans (jB5 (l₁:=[(⟨u,x,0⟩:Wl)]))))
   clear hb HR2 HL2 hL Ba2 Bb2;have cm:=fun w0=>zHm a b0 u x w0;have Fe:=Be.f;have Fa:=Ba3.f;have Fb:=Bb3.f;cases h1:decide (cmpP u x < 0) with
   | false=>
    have HQ:=hdd (HF.out h1);clear HF HG2 HH;go_wp2
    go_roundw
    case rel=>exact ⟨D ++ [((u,x),T)],R',v,L,hD2,HQ,So2,hB,HR3,Ba3,Bb3,hwx⟩
    case measure=>exact HL3.out
   | true=>
    have HH:=hdd (HH.out h1);clear HF;go_wp2_with fail;refine (cm _).mono ?_;rintro e w4 ⟨rfl,hb⟩;clear Fe Fa Fb;replace Be:=Be.ee hb;have Ba4:=Ba3.ee hb;have Bb4:=Bb3.ee hb;have So4:=So2.ee hb;have HR4:=HR3.ee hb;have hw4:=(upB hwx hb);have HL4:=hdd (show w4.rangeLeft b (w.heap.size+1+1+1) < wr.rangeLeft b (w.heap.size+1+1+1) by rw [zAc HR4,←zAc HR3];exact HL3.out);clear hb So2 HR3 hwx HL3 Ba3 Bb3 cm;have Fe:=Be.f;cases h2:decide (meetR a b0 u x=1) with
    | false=>
     have HQ:=hdd (HG2.out h2);have hm:(meetR a b0 u x == 1)=false:=by simpa using h2
     clear HG2 HH;go_wp2
     go_roundw
     case rel=>exact ⟨D ++ [((u,x),T)],R',v,L,hD2,HQ,So4,hB,HR4,Ba4,Bb4,hw4⟩
     case measure=>exact HL4.out
    | true=>
     have HQ:=hdd (HH.out h2);have hm:(meetR a b0 u x == 1)=true:=by simpa using h2
     have hwz:=hw4.size;have hwy:=hdd (show w.heap.size+3≤w4.heap.size by have:=Bb4.lt;have:=So4.box.lt;omega);clear HG2 HH h2;have cp:=zCt (w.heap.size+1+1) v L ⟨u,x,0⟩ hle hgk ⟨by show (0:Int)≤0;decide,by show (0:Int)≤2;decide⟩ w4 So4;go_wp2_with fail;refine cp.mono ?_;rintro e w5 ⟨k,v',rfl,hk5,So5,hf5,hv5⟩;have hg5:=hf5.grown;have HR5:=HR4.kept hg5 (fun e=>So4.box.ne_map HR4.holds (jAl e).symm) (by simp);have Ba5:=Ba4.grown2 hg5 (fun k hk=>by cases hk;omega);have Bb5:=Bb4.grown2 hg5 (fun k hk=>by cases hk;omega);have hw5:=hf5.below (n:=w.heap.size) (fun k hk=>by have hk:k=w.heap.size+1+1:=hk;omega) hw4.size;have HL5:=hdd (show w5.rangeLeft b (w.heap.size+1+1+1) < wr.rangeLeft b (w.heap.size+1+1+1) by rw [zAc HR5,←zAc HR4];exact HL4.out);have HP:=hdd (HQ.out k);have hB5:=hdd (show ∀ k,v'.ownBlock=some k→w.heap.size+3≤k from fun k hk=>by
      have:=hv5 k hk;have:=hwy.out;omega)
     clear Fe cp HQ hf5 hg5 hwz;go_wp2
     go_roundw
     case rel=>exact ⟨D ++ [((u,x),T)],R',v',_,hD2,HP,So5,hB5,HR5,Ba5,Bb5,hw4.trans hw5⟩
     case measure=>exact HL5.out
end
section
open Go.RowKit
theorem zK5 (p a b:Pt):tch p a b=0∨tch p a b=2:=by unfold tch;(repeat' split) <;> simp
theorem mx4_two {a b c d:Int} (ha:a=0∨a=2) (hb:b=0∨b=2) (hc:c=0∨c=2) (hd:d=0∨d=2):mx4 a b c d≠1:=by
 rcases ha with rfl | rfl <;> rcases hb with rfl | rfl <;> rcases hc with rfl | rfl <;> rcases hd with rfl | rfl <;> decide
theorem zEq {a b c d:Pt}:meetR a b c d=1↔(vld a=true∧vld b=true∧vld c=true∧vld d=true)∧((0 < det a b c∧det a b d < 0)∨(det a b c < 0∧0 < det a b d))∧((0 < det c d a∧det c d b < 0)∨(det c d a < 0∧0 < det c d b)):=by
 unfold meetR;cases va:vld a with
 | false=>simp
 | true=>
  cases vb:vld b with
  | false=>simp
  | true=>
   cases vc:vld c with
   | false=>simp
   | true=>
    cases vd:vld d with
    | false=>simp
    | true=>
     have zab:peqI a.x a.y b.x b.y=true→∀ p,det a b p=0:=fun h p=>by
      rw [zBe.1 h];unfold det;grind
     have zcd:peqI c.x c.y d.x d.y=true→∀ p,det c d p=0:=fun h p=>by
      rw [zBe.1 h];unfold det;grind
     rw [ori_v va vb vc,ori_v va vb vd,ori_v vc vd va,ori_v vc vd vb];have l1:lap a b c d≠1:=by unfold lap;split <;> decide
     have l2:=mx4_two (zK5 a c d) (zK5 b c d) (zK5 c a b) (zK5 d a b);have s1:=zA8 (det a b c);have s2:=zA8 (det a b d);have s3:=zA8 (det c d a);have s4:=zA8 (det c d b);simp only [Bool.true_eq_false,jDf,and_self,true_and];split
     ·rename_i h;have:=zab h c;have:=zab h d;simp;omega
     ·split
      ·rename_i h;have:=zcd h a;have:=zcd h b;simp;omega
      ·split
       ·rename_i h;simp only [l1,false_iff];omega
       ·split
        ·rename_i h
         simp only [true_iff];rcases s1 with ⟨e1,_⟩ | ⟨e1,_⟩ | ⟨e1,_⟩ <;> rcases s2 with ⟨e2,_⟩ | ⟨e2,_⟩ | ⟨e2,_⟩ <;> rcases s3 with ⟨e3,_⟩ | ⟨e3,_⟩ | ⟨e3,_⟩ <;> rcases s4 with ⟨e4,_⟩ | ⟨e4,_⟩ | ⟨e4,_⟩ <;> rw [e1,e2,e3,e4] at h <;> first | omega | (simp at h)
        ·rename_i h
         simp only [l2,false_iff];rintro ⟨k1,k2⟩;apply h;rcases s1 with ⟨e1,_⟩ | ⟨e1,_⟩ | ⟨e1,_⟩ <;> rcases s2 with ⟨e2,_⟩ | ⟨e2,_⟩ | ⟨e2,_⟩ <;> rcases s3 with ⟨e3,_⟩ | ⟨e3,_⟩ | ⟨e3,_⟩ <;> rcases s4 with ⟨e4,_⟩ | ⟨e4,_⟩ | ⟨e4,_⟩ <;> rw [e1,e2,e3,e4] <;> first | omega | (simp)
theorem zEh {a b c d:Pt} (h:meetR a b c d=1):meetR a b d c=1:=by
 rw [zEq] at *;obtain ⟨⟨v1,v2,v3,v4⟩,h1,h2⟩:=h;have e1:=zAd c d a;have e2:=zAd c d b;exact ⟨⟨v1,v2,v4,v3⟩,by omega,by omega⟩
theorem zKc (p q:Pt):(rl p q=p∧rg p q=q)∨(rl p q=q∧rg p q=p):=by
 unfold rl rg;split
 ·exact .inl ⟨rfl,rfl⟩
 ·exact .inr ⟨rfl,rfl⟩
theorem zMh {a b c d:Pt} (h:meetR a b c d=1):meetR a b (rl c d) (rg c d)=1:=by
 rcases zKc c d with ⟨e1,e2⟩ | ⟨e1,e2⟩
 ·rw [e1,e2];exact h
 ·rw [e1,e2];exact zEh h
theorem zL2 {E:Es} {L:List Tri3} (g:Good E L) (p q:Pt):∃ L',Good (flipD E p q).2 L'∧L'.length=L.length:=by
 cases h0:getE E (p,q) with
 | none=>rw [zBq (.inl h0)];exact ⟨L,g,rfl⟩
 | some S=>
  cases h1:getE E (q,p) with
  | none=>rw [zBq (.inr h1)];exact ⟨L,g,rfl⟩
  | some R=>
   rw [zCc h0 h1];split
   ·rename_i k
    obtain ⟨_,M,pM,g'⟩:=zCm g h0 h1 rfl rfl k.1 k.2.1 k.2.2.1 k.2.2.2;exact ⟨_,g',by rw [pM.length_eq];rfl⟩
   ·exact ⟨L,g,rfl⟩
theorem fstep_len2 {E:Es} {L:List Tri3} (g:Good E L) (a b:Pt) (x:Wl) (Q:List Wl):∃ L',Good (fstep a b E x Q).1 L'∧L'.length=L.length:=by
 cases h0:getE E (x.A,x.B) with
 | none=>rw [zCn (.inl h0)];exact ⟨L,g,rfl⟩
 | some S=>
  cases h1:getE E (x.B,x.A) with
  | none=>rw [zCn (.inr h1)];exact ⟨L,g,rfl⟩
  | some R=>
   rw [zEm h0 h1];split
   ·exact zL2 g _ _
   ·split <;> exact zL2 g _ _
theorem zIy {a b:Pt}:∀ (n:Nat) {E:Es} {L:List Tri3} {Q:List Wl},Good E L→∃ L',Good (forceR a b n E Q).1 L'∧L'.length=L.length
 | 0,_,L,_,g=>⟨L,g,rfl⟩
 | _+1,_,L,[],g=>⟨L,g,rfl⟩
 | n+1,E,L,x :: Q,g=>by
  obtain ⟨L1,g1,h1⟩:=fstep_len2 g a b x Q;obtain ⟨L2,g2,h2⟩:=zIy n (Q:=(fstep a b E x Q).2) g1;exact ⟨L2,g2,h2.trans h1⟩
theorem zJ0 {W H:Int} {E:Es} {L:List Tri3} (hW:W < 16777216) (hH:H < 16777216) (g:Good E L) (t:Tiles W H L) {K:Pt→Pt→Prop} {p q:Pt} (hK:¬ K p q∧¬ K q p):((flipD E p q).1≠0→(flipD E p q).2=E)∧∃ L',Good (flipD E p q).2 L'∧Tiles W H L'∧Kept K L L':=by
 cases h0:getE E (p,q) with
 | none=>rw [zBq (.inl h0)];exact ⟨fun _=>rfl,L,g,t,Kept.refl _ _⟩
 | some S=>
  cases h1:getE E (q,p) with
  | none=>rw [zBq (.inr h1)];exact ⟨fun _=>rfl,L,g,t,Kept.refl _ _⟩
  | some R=>
   rw [zCc h0 h1];split
   ·rename_i k
    refine ⟨fun h=>absurd rfl h,?_⟩;obtain ⟨_,⟨cS,cR⟩,_,vp,vq,vc,vd⟩:=zDj g h0 h1;obtain ⟨_,M,pM,g'⟩:=zCm g h0 h1 rfl rfl k.1 k.2.1 k.2.2.1 k.2.2.2;have f:Flp K L S R M p q (apx S p q) (apx R p q):=⟨pM,cS,cR,hK,by have:=(zDf vp vd vc).1 k.1;rw [zAh] at this;exact (by have e:=zAh (apx S p q) p (apx R p q);omega),(zDf vd vq vc).1 k.2.1⟩;have e:mk p (apx R p q) (apx S p q)=mk (apx S p q) p (apx R p q):=zJq _ _ _;rw [e] at g' ⊢;exact ⟨_,g',f.tiles t hW hH,f.kept t hW hH⟩
   ·exact ⟨fun _=>rfl,L,g,t,Kept.refl _ _⟩
theorem zBt {W H:Int} (hW:W < 16777216) (hH:H < 16777216) {a b:Pt}:∀ (n:Nat) {E:Es} {L:List Tri3} {Q:List Wl},Good E L→Tiles W H L→(∀ x∈Q,meetR a b x.A x.B=1)→∃ L',Good (forceR a b n E Q).1 L'∧Tiles W H L'∧Kept (fun x y=>meetR a b x y≠1) L L'
 | 0,E,L,Q,g,t,_=>⟨L,g,t,Kept.refl _ _⟩
 | n+1,E,L,[],g,t,_=>⟨L,g,t,Kept.refl _ _⟩
 | n+1,E,L,x :: Q,g,t,hq=>by
  show ∃ L',Good (forceR a b n (fstep a b E x Q).1 (fstep a b E x Q).2).1 L'∧_;have hx:=hq x (by simp);have hQ:∀ y∈Q,meetR a b y.A y.B=1:=fun y hy=>hq y (jAi _ hy);cases h0:getE E (x.A,x.B) with
  | none=>rw [zCn (.inl h0)];exact zBt hW hH n g t hQ
  | some S=>
   cases h1:getE E (x.B,x.A) with
   | none=>rw [zCn (.inr h1)];exact zBt hW hH n g t hQ
   | some R=>
    obtain ⟨_,L1,g1,t1,k1⟩:=zJ0 (K:=fun x y=>meetR a b x y≠1) hW hH g t (p:=x.A) (q:=x.B) ⟨fun k=>k hx,fun k=>k (zEh hx)⟩;rw [zEm h0 h1];split
    ·obtain ⟨L2, g2, t2, k2⟩ := zBt hW hH n g1 t1 (Q := Q ++ [x]) (fun y hy => by
       rcases jAg.1 hy with hy | hy
       ·exact hQ y hy
       ·rw [jC5.1 hy];exact hx)
     exact ⟨L2,g2,t2,k1.trans k2⟩
    ·split
     ·rename_i hm
      obtain ⟨L2,g2,t2,k2⟩:=zBt hW hH n g1 t1 (Q:=Q ++ [⟨rl (apx S x.A x.B) (apx R x.A x.B),rg (apx S x.A x.B) (apx R x.A x.B),0⟩]) (fun y hy=>by
       rcases jAg.1 hy with hy | hy
       ·exact hQ y hy
       ·rw [jC5.1 hy];exact zMh hm)
      exact ⟨L2,g2,t2,k1.trans k2⟩
     ·obtain ⟨L2,g2,t2,k2⟩:=zBt hW hH n g1 t1 (Q:=Q) hQ;exact ⟨L2,g2,t2,k1.trans k2⟩
end
end Go.Proofs.YtogffkimgmlilaaGreat
