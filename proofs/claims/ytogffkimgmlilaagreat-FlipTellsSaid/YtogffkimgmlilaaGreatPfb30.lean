/- Put together: MesM, MesN, Cpt, MesO, MesP, MesQ. -/
import Derived.Test.YtogffkimgmlilaaGreatPfb29
import Derived.Deep.RegionHeld3
import Derived.Deep.AppendLies
import Derived.Lib.SliceRun
set_option maxRecDepth 100000
set_option maxHeartbeats 8000000
set_option linter.all false
namespace Go.Proofs.YtogffkimgmlilaaGreat
open _root_.Go.Proofs.Tryz
section
open Go.RowKit Go.Sort
attribute [local go_sem] rOper rAt rUpon cell_set sg_i64 sg_u64 alloc_cell alloc_frozen
attribute [local go_sem 10000] pt_eql pt_neq tri_eql
attribute [local irreducible] rWalk
def cnrs (L:List Tri3):List Pt:=L.flatMap fun T=>[T.A,T.B,T.C]
theorem zGm:∀ L:List Tri3,(cnrs L).length=3 * L.length
 | []=>rfl
 | T :: L=>by have:=zGm L;unfold cnrs at *;rw [jA5,jAa,this];simp;omega
theorem rcorners_any (a0:Option Addr) (c0 n:Nat) (L:List Tri3) (hL:Hid (L.length=n)) (hn:n≤100000) (w:World) (h0:RowAt cT 6 w a0 L):Calls prog 29 #[.slice a0 n c0] w fun e w'=>∃ (M:List Pt) (a:Option Addr) (cap:Nat),e=.returned (.slice a M.length cap)∧RowAt cP 2 w' a M∧Rising cmpP M∧(∀ p,p∈M↔p∈cnrs L)∧Below w w w':=by
 go_enter func29,ntmps29
 go_wp2
 go_loopw [3,4] (fun vo vi wr=>∃ k:Nat,vi=.int .i64 k∧k≤n∧wr.ownsRow w.heap.size 54 2 vo (cnrs (L.take k)).length ((cnrs (L.take k)).flatMap cP)∧Below w w wr) (fun _ vi _=>n - (intOf vi).toNat)
 case atStart=>exact ⟨0,rfl,jAt _,World.ownsRow_nil _ _ _ _,Below.refl _ _⟩
 case round=>
  obtain ⟨k,rfl,hk,hown,hw⟩:=hrel;by_cases hlt:k < n
  case neg=>
   obtain ⟨a,cap,rfl,_,hr⟩:=zAt zD1 hown;rw [jAe (by rw [hL.out];omega)] at hr;have HL:=hdd (show L.take k=L from jAe (by rw [hL.out];omega));have hlen:=hdd (show (cnrs (L.take k)).length=3 * n by rw [HL.out,zGm,hL.out]);have hcl:=hdd (show (cnrs L).length=3 * n by rw [zGm,hL.out]);rw [hlen.out];go_wp2_with fail;refine (zIm _ _ _ _ hcl (by omega) _ hr).mono ?_;rintro e w2 ⟨M,a2,cap2,rfl,h1,h2,h3,hb⟩;go_wp2
   go_ret
   exact ⟨M,a2,cap2,rfl,h1,h2,h3,(upB hw hb)⟩
  case pos=>
   have hlk:k < L.length:=hL.out▸hlt;have HT:=hdd (show cnrs (L.take (k+1))=cnrs (L.take k) ++ [L[k].A,L[k].B,L[k].C] by rw [jAb hlk];unfold cnrs;rw [jBe];rfl);have hle:(cnrs (L.take k)).length≤1000000:=by rw [zGm,jB3];omega
   obtain ⟨ad,A,ea,eA,hA0⟩:=h0.six hlk;have hA:=hA0.ee hw;generalize L[k]=T at *
   obtain ⟨t0,t1,t2,t3,t4,t5⟩:=hA.2;obtain ⟨i0,hi0,hz0,hz1,hz2⟩:=info_parts zEl;have hAb:A.block < w.heap.size:=hA0.1;have ag:u3.ownBlock≠some A.block:=fun e=>by have:=(hown.lt _ e).1;omega
   have HB:=hdd hw.size;have HO:=hdd hown;have hAw:A.block < wr.heap.size:=hA.1;go_wp2
   go_region_held3 (fun w'=>w'.cell? A=some (.int .i64 T.A.x)∧w'.cell? ⟨A.block,A.off+1,none⟩=some (.int .i64 T.A.y)∧w'.cell? ⟨A.block,A.off+2,none⟩=some (.int .i64 T.B.x)∧w'.cell? ⟨A.block,A.off+3,none⟩=some (.int .i64 T.B.y)∧w'.cell? ⟨A.block,A.off+4,none⟩=some (.int .i64 T.C.x)∧w'.cell? ⟨A.block,A.off+5,none⟩=some (.int .i64 T.C.y))
    (first
     | go_keep
     | (go_split_ands
        refine ⟨?_,?_,?_,?_,?_,?_⟩
        ·(rw [hgrow.cell_far A (by simp;omega) (Ne.symm ag)];assumption)
        ·(rw [hgrow.cell_far ⟨A.block,A.off+1,none⟩ (by simp;omega) (Ne.symm ag)];assumption)
        ·(rw [hgrow.cell_far ⟨A.block,A.off+2,none⟩ (by simp;omega) (Ne.symm ag)];assumption)
        ·(rw [hgrow.cell_far ⟨A.block,A.off+3,none⟩ (by simp;omega) (Ne.symm ag)];assumption)
        ·(rw [hgrow.cell_far ⟨A.block,A.off+4,none⟩ (by simp;omega) (Ne.symm ag)];assumption)
        ·(rw [hgrow.cell_far ⟨A.block,A.off+5,none⟩ (by simp;omega) (Ne.symm ag)];assumption)))
    ((refine step_append_lies _ (by rfl) _ _ _ (by rfl) w.heap.size 54 i0 _ 2 16 underlying62 hi0 hz0 hz1 hz2 rfl (by decide) u3 (cnrs (L.take k)).length ((cnrs (L.take k)).flatMap cP) (by rfl) ((hown.alloc _).drew)
        ⟨wr,0,none⟩ 3 3 (cT T) (by rfl) (by rfl) (World.news_of_block (cs:=(cT T).toArray) (t:=54) (fr:=(0,0)) (heap_alloc_new wr _)) (zOy T)
        (by omega) (by unfold maxLen;omega) (by omega) (by have:=HB.out;simp;omega) (wr.heap.size+1) (by simp) ?_;intro gg cap w1 hown1 hgrow hat hlt1))
   go_wp2;have hw4:Below w w w1:=((hw.alloc HB.out (.cells (cT T).toArray 54)).drew).grown hgrow (by have:=HB.out;show w.heap.size≤(wr.alloc _).heap.size;simp;omega) (fun q hq=>(HO.out.lt q hq).1);have hl2:=hdd (show (cnrs (L.take (k+1))).length=(cnrs (L.take k)).length+3 by rw [HT.out];simp);have hown4:w1.ownsRow w.heap.size 54 2 (.slice (some ⟨gg,0,none⟩) ((cnrs (L.take k)).length+3) cap) (cnrs (L.take (k+1))).length ((cnrs (L.take (k+1))).flatMap cP):=by
    rw [hl2.out,HT.out,jBe]
    simpa [cT,cP] using hown1
   rw [←ea]
   go_roundw
   case rel=>exact ⟨k+1,by go_num,by omega,hown4,hw4⟩
   case measure=>simp [intOf];omega
theorem zeros_pt (n:Nat):(Builtin.zeroCells #[(),()] n).toList=List.replicate (n * 2) (.int .i64 0):=by
 simp only [Builtin.zeroCells];apply List.ext_getElem
 ·simp
 ·intro i h1 h2;simp at h1;have:i % 2=0∨i % 2=1:=by omega
  rcases this with h | h <;> simp [h]
theorem run_clear_pts (w:World) (ty:TypeId) (b o n c:Nat) (hn:0 < n) (hc:∀ j,j < n * 2→(w.cell? ⟨b,o+j,none⟩).isSome=true) (hf:∀ j,j < n * 2→w.frozen? ⟨b,o+j,none⟩=false):(Builtin.clear_ #[62] ty #[.slice (some ⟨b,o,none⟩) n c]).run prog w=.ok (.tuple #[]) (w.setCells b o (List.replicate (n * 2) (.int .i64 0))):=by
 have hst:=run_storeCells_cells (P:=prog) b o (List.replicate (n * 2) (.int .i64 0)) 0 w (by simpa using hc) (by simpa using hf) (by intro v hv';rw [List.eq_of_mem_replicate hv'];rfl);simp only [Nat.add_zero] at hst;obtain ⟨m,rfl⟩:∃ m,n=m+1:=⟨n - 1,by omega⟩;have hz:=zeros_pt (m+1);simp [Builtin.clear_,run_underlying underlying62,Value.cells,hz,hst]
theorem zE2 {w:World} {g:Nat} {S:List Pt} {tl:List Value} (h:Box w g (S.flatMap cP ++ tl) 54) (k:Nat):RowAt cP 2 w (some ⟨g,0,none⟩) (S.take k):=fun j x hj=>by
 have hj2:j < k∧S[j]? = some x:=by
  rw [jBw] at hj;split at hj
  ·exact ⟨by assumption,hj⟩
  ·cases hj
 have hl:=(jAj.1 hj2.2);refine ⟨_,rfl,h.lt,fun i u hu=>?_⟩;have hi:i < 2:=(jAj.1 hu).1;rw [Addr.add_lit,Addr.add_lit,h.f.1,jCa,jCu (by rw [zAf zD1];have:=hl.1;omega),zB6 zD1 S j i x hj2.2 hi];exact hu
end
section
section
variable {α:Type} [DecidableEq α] {c:α→α→Int}
structure Cpt (c:α→α→Int) (L:List α) (r:Nat) (M:List α):Prop where
 rise:Rising c M
 mem:∀ p,p∈M↔p∈L.take r
 last:∀ (h:0 < r) (h2:r≤L.length),M.getLast? = some (L[r - 1]'(by omega))
 len:M.length≤r
omit [DecidableEq α] in
theorem rising_snoc (W:Whole c) {M:List α} {x y:α} (h:Rising c M) (hl:M.getLast? = some y) (hxy:c y x < 0):Rising c (M ++ [x]):=by
 unfold Rising at *;rw [jDu];refine ⟨h,by simp,fun a ha b hb=>?_⟩;simp at hb;subst hb;rw [List.getLast?_eq_some_iff] at hl;obtain ⟨N,rfl⟩:=hl;rw [jDu] at h;rcases jAg.1 ha with ha | ha
 ·exact W.trans (h.2.2 a ha y (by simp)) hxy
 ·simp at ha;subst ha;exact hxy
omit [DecidableEq α] in
theorem Cpt.start {L:List α} (h:0 < L.length):Cpt c L 1 (L.take 1):=by
 cases L with
 | nil=>simp at h
 | cons x L=>exact ⟨by simp [Rising],by simp,by simp,by simp⟩
omit [DecidableEq α] in
theorem Cpt.next (W:Whole c) {L M:List α} {r:Nat} (h:Cpt c L r M) (ho:InOrder c L) (h0:0 < r) (hr:r < L.length) (hne:L[r]≠L[r - 1]'(by omega)):Cpt c L (r+1) (M ++ [L[r]]):=by
 have hl:=h.last h0 (by omega);have hle:c (L[r - 1]'(by omega)) L[r]≤0:=by
  unfold InOrder at ho;rw [jB0] at ho;exact ho _ _ _ _ (by omega)
 have hlt:c (L[r - 1]'(by omega)) L[r] < 0:=by
  have:c (L[r - 1]'(by omega)) L[r]≠0:=fun e=>hne (W.eq0.1 e).symm;omega
 refine ⟨rising_snoc W h.rise hl hlt,fun p=>?_,fun _ _=>by simp,by have:=h.len;simp;omega⟩;rw [jAb hr,jAg,jAg,h.mem p]
omit [DecidableEq α] in
theorem Cpt.same {L M:List α} {r:Nat} (h:Cpt c L r M) (h0:0 < r) (hr:r < L.length) (he:L[r]=L[r - 1]'(by omega)):Cpt c L (r+1) M:=by
 refine ⟨h.rise,fun p=>?_,fun _ _=>?_,by have:=h.len;omega⟩
 ·rw [jAb hr,jAg,h.mem p];constructor
  ·exact .inl
  ·rintro (hp | hp)
   ·exact hp
   ·simp at hp;rw [hp,he];exact jDr.2 ⟨r - 1,by omega,rfl⟩
 ·rw [h.last h0 (by omega)];simp [he]
omit [DecidableEq α] in
theorem Cpt.all (W:Whole c) {L:List α} (ho:InOrder c L):∀ r,r≤L.length→0 < r→(∀ (i:Nat) (h0:0 < i) (_:i < r) (h2:i < L.length),L[i]≠L[i - 1]'(by omega))→Cpt c L r (L.take r)
 | 0,_,h,_=>absurd h (by omega)
 | 1,h,_,_=>Cpt.start (by omega)
 | r+2,h,_,hd=>by
  have ih:=Cpt.all W ho (r+1) (by omega) (by omega) (fun i h0 h1 h2=>hd i h0 (by omega) h2);have:=ih.next W ho (by omega) (by omega) (hd (r+1) (by omega) (by omega) (by omega))
  rwa [←jAb (by omega)] at this
end
end
section
open Go.RowKit Go.Sort
attribute [local go_sem] rOper rAt rUpon cell_set sg_i64 sg_u64 alloc_cell alloc_frozen
attribute [local go_sem 10000] pt_eql pt_neq tri_eql
attribute [local irreducible] rWalk
theorem zCy (b:Nat):∀ (l:List Value) (o:Nat) (w:World),w.grownBy (w.setCells b o l) (some b)
 | [],_,w=>zCa _ _
 | v :: l,o,w=>by
  rw [World.setCells];have h1:w.grownBy (w.setCell ⟨b,o,none⟩ v) (some b):=⟨rfl,rfl,rfl,by simp,fun i _ hne=>Below.heap_setCell w ⟨b,o,none⟩ v i (fun e=>hne (by rw [e]))⟩;exact zAa h1 (zCy b l (o+1) _)
theorem compact_any (g cap n:Nat) (L:List Pt) (tl:List Value) (hL:Hid (L.length=n)) (hn:n≤1000000) (hcap:n≤cap) (hcap2:cap≤maxLen) (ho:Hid (InOrder cmpP L)) (w:World) (hb:Box w g (L.flatMap cP ++ tl) 54):Calls prog 56 #[.slice (some ⟨g,0,none⟩) n cap] w fun e w'=>∃ M:List Pt,e=.returned (.slice (some ⟨g,0,none⟩) M.length cap)∧RowAt cP 2 w' (some ⟨g,0,none⟩) M∧Rising cmpP M∧(∀ p,p∈M↔p∈L)∧w.grownBy w' (some g):=by
 by_cases h2:n < 2
 ·have HR:=hdd (zE2 hb n);have e:L.take n=L:=jAe (by rw [hL.out];omega);rw [e] at HR;have hr:Hid (Rising cmpP L):=hdd (by
   have:=hL.out
   match L,this with
   | [],_=>simp [Rising]
   | [x],_=>simp [Rising]
   | _ :: _ :: _,h=>simp at h;omega)
  clear e hb
  go_enter func56,ntmps56
  go_wp2
  go_ret
  exact ⟨L,by rw [hL.out];rfl,HR.out,hr.out,fun p=>jEh,zCa _ _⟩
 ·go_enter func56,ntmps56
  go_wp2;unfold maxLen at hcap2
  go_loopw [3] (fun vk wr=>∃ q:Nat,vk=.int .i64 ((q+1:Nat):Int)∧q+1≤n∧Hid (∀ (i:Nat) (h0:0 < i) (_:i < q+1) (h2:i < L.length),L[i]≠L[i - 1]'(by omega))∧Below w w wr) (fun vk _=>n - (intOf vk).toNat)
  case atStart=>exact ⟨0,rfl,by omega,hdd (fun i h0 h1 h2=>by omega),Below.refl _ _⟩
  case round=>
   obtain ⟨q,rfl,hq,hap,hw⟩:=hrel;by_cases hlt:q+1 < n
   case neg=>
    have HC:=hdd (Cpt.all wholeP ho.out n (by rw [hL.out];omega) (by omega) (fun i h0 h1 h2=>hap.out i h0 (by omega) h2));have e:L.take n=L:=jAe (by rw [hL.out];omega);rw [e] at HC;have HR:=hdd (zE2 (hb.ee hw) n);rw [e] at HR;clear e;go_wp2
    go_ret
    exact ⟨L,by rw [hL.out];rfl,HR.out,HC.out.rise,fun p=>by rw [HC.out.mem p,jAe (by rw [hL.out];omega)],zA6 hw _⟩
   case pos=>
    have l1:q+1 < L.length:=hL.out▸hlt;have l0:q < L.length:=by omega
    have hb1:=hb.ee hw;obtain ⟨u0,u1,_,_⟩:=zDo hb1 l1;obtain ⟨v0,v1,_,_⟩:=zDo hb1 l0;have e1:IntKind.i64.wrap (q:Int)=q:=by rw [IntKind.wrap_i64];omega
    have l2:q < n:=by omega
    by_cases hx:L[q+1]=L[q]
    case neg=>
     have hp:peqI L[q+1].x L[q+1].y L[q].x L[q].y=false:=by rw [←jBl,zBe];exact hx
     have HA:=hdd (show ∀ (i:Nat) (h0:0 < i) (_:i < q+1+1) (h2:i < L.length),L[i]≠L[i - 1]'(by omega) from fun i h0 h1 h2=>by
      by_cases e:i=q+1
      ·subst e;exact hx
      ·exact hap.out i h0 (by omega) h2)
     clear hx hap hb1;go_wp2
     go_quiet (fail)
     have hw2:Below w w (wr.drewN nq):=hw.trans ⟨rfl,rfl,rfl,jA9 _,fun _ _=>rfl⟩;go_wp2
     go_roundw
     case rel=>exact ⟨q+1,by go_num,by omega,HA,hw2⟩
     case measure=>simp [intOf];omega
    case pos=>
     have hp:peqI L[q+1].x L[q+1].y L[q].x L[q].y=true:=zBe.2 hx;have HC:=hdd (((Cpt.all wholeP ho.out (q+1) (by omega) (by omega) (fun i h0 h1 h2=>hap.out i h0 h1 h2)).same (by omega) l1 (by simpa using hx)));have hsl:∀ w',(Instr.slice 62 (.slice (some ⟨g,0,none⟩) n cap) (some (.int .i64 ((q:Int)+1))) none none).run prog w'=.ok (.slice (some ⟨g,(q+1) * 2,none⟩) (n - (q+1)) (cap - (q+1))) w':=fun w'=>by
      have:=zGy (some ⟨g,0,none⟩) n cap (q+1) (by omega) w';rw [jA0 (by omega)] at this
      simpa [Addr.add_lit] using this
     obtain ⟨N2,hN2⟩:∃ N2,n - (q+1)=N2:=⟨_,rfl⟩;obtain ⟨C2,hC2⟩:∃ C2,cap - (q+1)=C2:=⟨_,rfl⟩;rw [hN2,hC2] at hsl;have HN:=hdd hN2;clear hN2 hC2 hx hap;go_wp2
     go_quiet (fail)
     have hw2:Below w w (wr.drewN nq):=hw.trans ⟨rfl,rfl,rfl,jA9 _,fun _ _=>rfl⟩;have hb2:=hb.ee hw2;clear u0 u1 v0 v1 hp hb1;go_wp2
     go_loopw [3,5] (fun vk v2 wr=>∃ (k p:Nat) (S M:List Pt),vk=.int .i64 k∧v2=.int .i64 ((p+1:Nat):Int)∧p+1≤N2∧1≤k∧Hid (Cpt cmpP L (q+1+(p+1)) M)∧Hid (S.length=n)∧Hid (S.take k=M)∧Hid (M.length=k)∧k < q+1+(p+1)∧Hid (∀ (j:Nat) (h1:j < L.length) (h2:j < S.length),q+1+(p+1)≤j+1→S[j]=L[j])∧Box wr g (S.flatMap cP ++ tl) 54∧w.grownBy wr (some g)) (fun _ v2 _=>N2 - (intOf v2).toNat)
     case atStart=>exact ⟨q+1,0,L,L.take (q+1),rfl,rfl,by have:=HN.out;omega,by omega,HC,hL,hdd rfl,hdd (by rw [jB3];omega),by omega,hdd (fun j h1 h2 _=>rfl),hb2,zA6 hw2 _⟩
     case round=>
      clear hb2 hw2 hw HC;obtain ⟨k,p,S,M,rfl,rfl,hp2,hk1,hC,hS,hST,hMk,hkr,hSj,hbS,hg⟩:=hrel;have hSl:=hS.out;have hnN:=HN.out;by_cases hlp:p+1 < N2
      case neg=>
       have hr:q+1+(p+1)=n:=by omega
       have hkn:k < n:=by omega
       have hkc:k < cap:=by omega
       have HF:=hdd hC.out;have hs2:∀ w',(Instr.slice 62 (.slice (some ⟨g,0,none⟩) n cap) (some (.int .i64 (k:Int))) none none).run prog w'=.ok (.slice (some ⟨g,k * 2,none⟩) (n - k) (cap - k)) w':=fun w'=>by
        have:=zGy (some ⟨g,0,none⟩) n cap k (by omega) w';rw [jA0 (by omega)] at this
        simpa [Addr.add_lit] using this
       have hs3:∀ w',(Instr.slice 62 (.slice (some ⟨g,0,none⟩) n cap) none (some (.int .i64 (k:Int))) none).run prog w'=.ok (.slice (some ⟨g,0,none⟩) k cap) w':=fun w'=>run_upto_pt _ n cap k (by omega) w';have hf:=hbS.f;have hcl:∀ ty,(Builtin.clear_ #[62] ty #[.slice (some ⟨g,k * 2,none⟩) (n - k) (cap - k)]).run prog wr=.ok (.tuple #[]) (wr.setCells g (k * 2) (List.replicate ((n - k) * 2) (.int .i64 0))):=fun ty=>
        run_clear_pts wr ty g (k * 2) (n - k) (cap - k) (by omega) (fun j hj=>by rw [hf.1,jCu (by rw [zAf zD1,hSl];omega),jA8 (by rw [zAf zD1,hSl];omega)];rfl) (fun j hj=>hf.2.1 _)
       have HR:=hdd (show RowAt cP 2 (wr.setCells g (k * 2) (List.replicate ((n - k) * 2) (.int .i64 0))) (some ⟨g,0,none⟩) M by
        have h1:=zE2 hbS k;rw [hST.out] at h1;intro j x hj;obtain ⟨ad,e,_,h3⟩:=h1 j x hj;cases e
        have hjl:=(jAj.1 hj).1;refine ⟨_,rfl,by rw [zFa];exact hbS.lt,fun i u hu=>?_⟩;have hi:i < 2:=(jAj.1 hu).1;have h4:=h3 i u hu;rw [Addr.add_lit,Addr.add_lit] at h4 ⊢;rw [zFh g _ _ _ _ (by have:=hMk.out;omega)];exact h4)
       have HG:=hdd (show w.grownBy (wr.setCells g (k * 2) (List.replicate ((n - k) * 2) (.int .i64 0))) (some g) from zAa hg (zCy g _ _ _));clear hf hSl hnN hbS hg hC;go_wp2
       go_ret
       exact ⟨M,by rw [hMk.out];rfl,HR.out,HF.out.rise,fun x=>by rw [HF.out.mem x,jAe (by rw [hL.out];omega)],HG.out⟩
      case pos=>
       have hr:q+1+(p+1) < n:=by omega
       have lr:q+1+(p+1) < L.length:=hL.out▸hr;have lr0:q+1+p < L.length:=by omega
       obtain ⟨u0,u1,_,_⟩:=zDo hbS (j:=q+1+(p+1)) (by omega);obtain ⟨v0,v1,_,_⟩:=zDo hbS (j:=q+1+p) (by omega);rw [hSj.out _ lr (by omega) (by omega),show (q+1+(p+1)) * 2=(q+1) * 2+(p+1) * 2 by omega] at u0 u1;rw [hSj.out _ lr0 (by omega) (by omega),show (q+1+p) * 2=(q+1) * 2+p * 2 by omega] at v0 v1;obtain ⟨y0,y1,d0,d1,f0,f1⟩:∃ y0 y1,wr.cell? ⟨g,k * 2,none⟩=some y0∧wr.cell? ⟨g,k * 2+1,none⟩=some y1∧wr.frozen? ⟨g,k * 2,none⟩=false∧wr.frozen? ⟨g,k * 2+1,none⟩=false:=⟨_,_,zDo hbS (j:=k) (by omega)⟩;have e1:IntKind.i64.wrap (p:Int)=p:=by rw [IntKind.wrap_i64];omega
       have l2:p < N2:=by omega
       have hkn:k < n:=by omega
       have HB:=hdd hbS;have HG:=hdd hg;have HSl:=hdd hSl;by_cases hx:L[q+1+(p+1)]=L[q+1+p]
       ·have hp:peqI L[q+1+(p+1)].x L[q+1+(p+1)].y L[q+1+p].x L[q+1+p].y=true:=zBe.2 hx;have HC:=hdd (hC.out.same (by omega) lr hx);have HJ:=hdd (show ∀ (j:Nat) (h1:j < L.length) (h2:j < S.length),q+1+(p+1+1)≤j+1→S[j]=L[j] from fun j h1 h2 h3=>hSj.out j h1 h2 (by omega));generalize L[q+1+(p+1)]=s1 at *
        generalize L[q+1+p]=s0 at *
        clear hx hSl hnN hbS hg hC hSj d0 d1 f0 f1;go_wp2
        go_quiet (fail)
        have hdr:Below wr wr (wr.drewN nq):=⟨rfl,rfl,rfl,jA9 _,fun _ _=>rfl⟩;go_wp2
        go_roundw
        case rel=>exact ⟨k,p+1,S,M,rfl,by go_num,by omega,by omega,HC,hS,hST,hMk,by omega,HJ,HB.out.ee hdr,zA9 HG.out hdr⟩
        case measure=>simp [intOf];omega
       ·have hp:peqI L[q+1+(p+1)].x L[q+1+(p+1)].y L[q+1+p].x L[q+1+p].y=false:=by rw [←jBl,zBe];exact hx
        have HC:=hdd (hC.out.next wholeP ho.out (by omega) lr hx);have HJ:=hdd (show ∀ (j:Nat) (h1:j < L.length) (h2:j < (S.set k L[q+1+(p+1)]).length),q+1+(p+1+1)≤j+1→(S.set k L[q+1+(p+1)])[j]=L[j] from fun j h1 h2 h3=>by
         rw [List.getElem_set_ne (by omega)];exact hSj.out j h1 (by simpa using h2) (by omega))
        have HST:=hdd (show (S.set k L[q+1+(p+1)]).take (k+1)=M ++ [L[q+1+(p+1)]] by
         rw [jAb (by simp;omega),jEu (jA9 _),hST.out,List.getElem_set_self])
        have HMk:=hdd (show (M ++ [L[q+1+(p+1)]]).length=k+1 by rw [jAa,hMk.out];rfl);have HSS:=hdd (show (S.set k L[q+1+(p+1)]).length=n by rw [List.length_set,hSl]);generalize L[q+1+(p+1)]=s1 at *
        generalize L[q+1+p]=s0 at *
        clear hx hSl hnN hbS hg hC hSj;go_wp2
        go_quiet (fail)
        have hdr:Below wr wr (wr.drewN nq):=⟨rfl,rfl,rfl,jA9 _,fun _ _=>rfl⟩;have HB2:=hdd (zJb (HB.out.ee hdr) (j:=k) (by have:=HSl.out;omega) s1);have HG2:=hdd (zAa (zA9 HG.out hdr) (zCy g [s1.x,s1.y] (k * 2) (wr.drewN nq)));go_wp2
        go_roundw
        case rel=>exact ⟨k+1,p+1,S.set k s1,M ++ [s1],by go_num,by go_num,by omega,by omega,HC,HSS,HST,HMk,by omega,HJ,HB2.out,HG2.out⟩
        case measure=>simp [intOf];omega
theorem zGp {w:World} {ops:Array Oper} {rest:List Oper} {o:Oper} {a:Act} {Q:Exit→Act→World→Prop} (hgd:o.guard=none) (s x:Operand) (ho:o.op=.call { callee:=.builtin .append,args:=#[s,x],argTypes:=#[62,62] }) (B:Nat) (v:Value) (L:List Pt) (hs:a.eval s=v) (hown:w.ownsRow B 54 2 v L.length (L.flatMap cP)) (bx:Nat) (p:Pt) (hx:a.eval x=.slice (some ⟨bx,0,none⟩) 1 1) (hbx:Box w bx (cP p) 54) (hn:L.length≤1000000) (hbase:B≤w.heap.size) (h:∀ w' v',w'.ownsRow B 54 2 v' (L ++ [p]).length ((L ++ [p]).flatMap cP)→w.grownBy w' v.ownBlock→v'≠.slice none 0 0→wpList prog ops Q rest (a.put o.dst v') w'):wpList prog ops Q (o :: rest) a w:=by
 obtain ⟨i0,hi,hz0,hz1,hz2⟩:=info_parts zEl;refine wpList_append_own w hgd s x 62 ho B 54 i0 _ 2 16 underlying62 hi hz0 hz1 hz2 rfl (by decide) v L.length _ hs hown ⟨bx,0,none⟩ 1 1 (cP p) hx rfl ?_ (cP_one p) ?_ ?_ hbase ?_
 ·intro j u hj;have:=hbx.f.1 j;rw [hj] at this;rw [Addr.add_lit,jCa];exact this
 ·unfold maxLen;omega
 ·omega
 ·intro v' w' hown' hg hnil;refine h w' v' ?_ hg (fun e=>by have:=(hnil.1 e).2;omega);rw [jAa,jCc,jBe]
  simpa using hown'
theorem box_of_row {w:World} {g:Nat} {cur:Array Value} {L:List Pt} (hb:w.heap[g]? = some (.cells cur 54 (0,0))) (h:RowAt cP 2 w (some ⟨g,0,none⟩) L):∃ tl,Box w g (L.flatMap cP ++ tl) 54:=by
 refine ⟨cur.toList.drop (L.length * 2),?_⟩;unfold Box;rw [hb];have e:cur.toList.take (L.length * 2)=L.flatMap cP:=by
  apply jD4;intro t;by_cases ht:t < L.length * 2
  ·have hj:t / 2 < L.length:=by omega
   rw [List.getElem?_take_of_lt ht];have e2:=zB6 zD1 L (t / 2) (t % 2) L[t / 2] (jA8 hj) (by omega);rw [show t / 2 * 2+t % 2=t by omega] at e2;rw [e2];obtain ⟨ad,e3,_,h3⟩:=h (t / 2) L[t / 2] (jA8 hj);cases e3
   have hlt:t % 2 < (cP L[t / 2]).length:=by rw [zD1];omega
   have h4:=h3 (t % 2) _ (jA8 hlt);rw [Addr.add_lit,Addr.add_lit] at h4;simp only [World.cell?,hb,Option.isSome_none,jBb,jDf] at h4;rw [show 0+t / 2 * 2+t % 2=t by omega] at h4;rw [jEl,h4,jA8 hlt]
  ·rw [jCb (by rw [jB3];omega),jCb (by rw [zAf zD1];omega)]
 rw [←e,jBu]
theorem sortP_box (B:Nat) (g cap:Nat) (L:List Pt) (hL:L.length≤3000000) (w:World) (h:w.ownsRow B 54 2 (.slice (some ⟨g,0,none⟩) L.length cap) L.length (L.flatMap cP)):Calls prog 54 #[.slice (some ⟨g,0,none⟩) L.length cap,.func (.func 55) #[] #[]] w fun e w'=>e=.returned (.tuple #[])∧w.grownBy w' (some g)∧∃ tl,Box w' g ((srt cmpP L).flatMap cP ++ tl) 54:=by
 obtain ⟨hH,hg⟩:=zCx zD1 h;have hc:=AnyQ.slices_SortFunc_total sortPt 2 Tryz.isAgg54 Tryz.sizeOf54 cP zD1 cP_one cmpP wholeP.swo 55 #[] g 0 cap L.toArray w enterP (cmpLaysP g 0 _ w) hH hg (by simp;omega) wholeP.one
 change Calls prog 54 _ _ _ at hc
 rw [show L.toArray.size=L.length by simp] at hc;rcases h.2 with ⟨h0,_⟩ | ⟨g',cap',cur,h0,hB,hb,h1,h2,h3,h4⟩
 ·cases h0
 ·simp only [Value.slice.injEq,jCh,Addr.mk.injEq,jE8,true_and] at h0;obtain ⟨e1,e3⟩:=h0;subst e1 e3;refine hc.mono fun e w' ⟨he,n,os,hw⟩=>⟨he,?_,?_⟩
  ·rw [hw];exact zBz _
  ·have hr:=zDz (L:=srt cmpP L) zD1 (zGf (n:=n) (os:=os) (d':=(srt cmpP L).toArray) hH hg (by simp [srt])) (jBj hg (zBz (c:=cP) (k:=2) _).size);have hbl:w'.heap[g]? = some (.cells (putCells id 0 (flatK cP 2 (srt cmpP L).toArray) cur) 54 (0,0)):=by
    rw [hw];show (grow (putRow id (Sort.ahead w n) g 0 (flatK cP 2 (srt cmpP L).toArray)) os).heap[g]? = _;rw [heap_grow_old _ _ (by simpa using hg)];simp [putRow,mapBlock,Sort.ahead,jCn,hb,onCells]
   rw [hw] at hbl ⊢;exact box_of_row hbl hr
def froms (E:Es):List Pt:=E.map fun e=>e.1.1
theorem mpoints_any (mb b:Nat) (E:Es) (hE:E.length≤1000000) (w:World) (Bm:Box w mb [.map (some b)] 81) (Hm:HoldsMap eW eT okW w b E):Calls prog 24 #[pt0 mb] w fun e w'=>∃ (M:List Pt) (a:Option Addr) (cap:Nat),e=.returned (.slice a M.length cap)∧RowAt cP 2 w' a M∧Rising cmpP M∧(∀ p,p∈M↔p∈froms E)∧Below w w w':=by
 obtain ⟨i0,hi,hz0,hz1,hz2⟩:=info_parts zEl;have Fm:=Bm.f
 go_enter func24,ntmps24
 go_wp2_with (first | (at_len;refine wpList_mlen _ rfl _ rfl kvM rfl Hm ?_) | (at_make;refine wpList_make_own _ rfl _ _ 62 rfl w.heap.size 54 i0 _ 2 underlying62 hi hz0 hz1 .i64 .i64 _ E.length rfl rfl rfl (by rw [hz2];omega) (by unfold maxLen;omega) (jA9 _) ?_;intro w0 own0 hg0;have Bm0:=Bm.ext (zD2 hg0) rfl;have Fn:=Bm0.f) | (at_range;refine zB1 _ rfl _ rfl kvM rfl (Hm.ext (zD2 hg0) rfl) ?_))
 intro w1 HR0 hw1 _;have hw01:=(zD2 hg0).trans (hw1.mono hg0.size);have own1:=own0.kept (zA6 hw1 none) (.inr (by simp [Value.ownBlock]));have hr0:=hdd hg0.size;clear Fm Fn Bm0 own0 hw1 hg0;go_wp2
 go_loopw [3] (fun v wr=>∃ D R:Es,Hid ((D ++ R).Perm E)∧Hid (v≠.slice none 0 0)∧wr.ownsRow w.heap.size 54 2 v (froms D).length ((froms D).flatMap cP)∧Ranging eW eT okW wr b w0.heap.size E R∧Below w w wr) (fun _ wr=>wr.rangeLeft b w0.heap.size)
 case atStart=>exact ⟨[],E,hdd (by simp),hdd (by simp),own1,HR0,hw01⟩
 case round=>
  clear HR0 hw01 own1;obtain ⟨D,R,hD,hnn,hown,HR,hw⟩:=hrel;go_wp2_with (at_next;refine zB8 _ rfl _ rfl rfl HR ?_ ?_)
  ·intro hR;subst hR;have hp0:(froms D).Perm (froms E):=List.Perm.map _ (by simpa using hD.out:D.Perm E);have hle:(froms D).length≤1000000:=by rw [hp0.length_eq];unfold froms;rw [jCl];exact hE
   have hown2:=hown.2;rcases hown2 with ⟨e0,_⟩ | ⟨g,cap,cur,rfl,hB,hb,h1,h2,h3,h4⟩
   ·exact absurd e0 hnn.out
   ·have HS:=hdd (srt_perm (c:=cmpP) (froms D));have HO:=hdd (wholeP.srt_order (froms D));have HL:=hdd hp0;clear hp0 hb h3 h4;go_wp2_with fail;refine (sortP_box _ _ _ _ (by omega) _ hown).mono ?_;rintro e w2 ⟨rfl,hg2,tl,hbx⟩;have hw2:=hw.grown hg2 hw.size (fun k hk=>by cases hk;exact hB);go_wp2_with fail;refine (compact_any g cap (froms D).length (srt cmpP (froms D)) tl (hdd HS.out.length_eq) hle h1 h2 HO _ hbx).mono ?_;rintro e w3 ⟨M,rfl,hr,hri,hm,hg3⟩;go_wp2
    go_ret
    exact ⟨M,_,cap,rfl,hr,hri,fun p=>by rw [hm p,HS.out.mem_iff,HL.out.mem_iff],hw2.grown hg3 hw2.size (fun k hk=>by cases hk;exact hB)⟩
  ·intro u x T R' w2 hperm HR1 hg1 hs1 hen;have hD2:=hdd (show ((D ++ [((u,x),T)]) ++ R').Perm E by have:=(hperm.append_left D).symm.trans hD.out;simpa using this);have own2:=hown.kept hg1 (.inr (fun e=>zAr hown HR e.symm));have hw2:=hw.grown hg1 hw.size (fun k hk=>by cases hk;exact hr0.out);have HL:=hdd (show w2.rangeLeft b w0.heap.size < wr.rangeLeft b w0.heap.size by rw [zAc HR1,zAc HR,hperm.length_eq];simp);have hen2:(Instr.entry (.pointer (some ⟨w0,0,none⟩))).run prog w2=.ok (.tuple #[.agg #[u.x,u.y,x.x,x.y],T]) w2:=hen;have hle:(froms D).length≤1000000:=by have:=hD2.out.length_eq;unfold froms;simp at *;omega
   have HH:=hdd (show froms (D ++ [((u,x),T)])=froms D ++ [u] by unfold froms;rw [jBn];rfl);have HB:=hdd hw2.size;have hb3:Below w2 w2 (w2.alloc (.cells #[u.x,u.y,x.x,x.y] 104)):=by go_grown
   have own3:=own2.alloc (.cells #[u.x,u.y,x.x,x.y] 104);have HO3:=hdd own3;clear hown HR hg1 hs1 hen hperm hw own2;go_wp2_with (at_builtin;refine zGp rfl _ _ rfl w.heap.size _ (froms D) rfl (own3.alloc _) (w2.heap.size+1) u rfl (Box.new (by simp)) hle (by have:=HB.out;simp;omega) ?_;intro w4 v4 hown4 hg4 hn4)
   have hR3:=(HR1.ee hb3).kept (World.grownBy_alloc _ (.cells (cP u).toArray 54) none) (by simp) (by simp);have hR4:=hR3.kept hg4 (zB5 (own3.alloc _) hR3.holds) (zAr (own3.alloc _) hR3);have hw4:=((((upB hw2 hb3)).alloc (by have:=HB.out;simp;omega) (.cells (cP u).toArray 54))).grown hg4 (by have:=HB.out;simp;omega) (fun k hk=>((own3.alloc (.cells (cP u).toArray 54)).lt k hk).1)
   go_roundw
   case rel=>exact ⟨D ++ [((u,x),T)],R',hD2,hdd hn4,by rw [HH.out];exact hown4,hR4,hw4⟩
   case measure=>rw [zAc hR4,←zAc HR1];exact HL.out
end
section
open Go.RowKit
def wys (T:Tri3):Es:=[((T.A,T.B),T),((T.B,T.C),T),((T.C,T.A),T)]
theorem zFj {T:Tri3} (h:valT T=true):T.A≠T.B∧T.B≠T.C∧T.C≠T.A:=by
 unfold valT at h;simp only [jA3,jDw,jC3] at h;have h0:=h.1;refine ⟨fun e=>h0 ?_,fun e=>h0 ?_,fun e=>h0 ?_⟩
 ·rw [e];unfold ori det;simp [sgn]
 ·rw [e];unfold ori det;rw [jD2 (T.C.x - T.A.x)];simp [sgn]
 ·rw [e];unfold ori det;simp [sgn]
theorem zJ2 {E:Es} {T:Tri3} (h:fitsE E T=true):getE E (T.A,T.B)=none∧getE E (T.B,T.C)=none∧getE E (T.C,T.A)=none∧valT T=true:=by
 unfold fitsE at h
 simpa only [jA3,jEd] using h
theorem putT_eq {E:Es} {T:Tri3} (h:fitsE E T=true):(putT E T).Perm (E ++ wys T):=by
 obtain ⟨h1,h2,h3,hv⟩:=zJ2 h;obtain ⟨a1,a2,a3⟩:=zFj hv;rw [zDk] at h1 h2 h3;unfold putT putE wys;rw [zEp h1,zEp (x:=(T.B,T.C)) (E:=((T.A,T.B),T) :: E) (fun p hp=>by
  rcases jA1.1 hp with rfl | hp
  ·intro e;simp at e;exact a1 e.1
  ·exact h2 p hp),zEp (x:=(T.C,T.A)) (E:=((T.B,T.C),T) :: ((T.A,T.B),T) :: E) (fun p hp=>by
  rcases jA1.1 hp with rfl | hp
  ·intro e;simp at e;exact a2 e.1
  ·rcases jA1.1 hp with rfl | hp
   ·intro e;simp at e;exact a3 e.1.symm
   ·exact h3 p hp)]
 refine List.Perm.trans ?_ (jB5 (l₁:=[((T.A,T.B),T),((T.B,T.C),T),((T.C,T.A),T)]));exact (List.reverse_perm [((T.A,T.B),T),((T.B,T.C),T),((T.C,T.A),T)]).append_right E
structure Good (E:Es) (L:List Tri3):Prop where
 perm:E.Perm (L.flatMap wys)
 nodup:KeysNodup E
 val:∀ T∈L,valT T=true
theorem zKw:∀ (L:List Tri3),(∀ T∈L,valT T=true)→heads yes (L.flatMap wys)=L
 | [],_=>rfl
 | T :: L,h=>by
  obtain ⟨a1,a2,a3⟩:=zFj (h T (by simp));rw [jA5,zAs,zKw L (fun S hS=>h S (by simp [hS]))];have:heads yes (wys T)=[T]:=by
   unfold heads wys yes;simp [Ne.symm a1,a3]
  rw [this];rfl
theorem Good.heads {E:Es} {L:List Tri3} (h:Good E L):(heads yes E).Perm L:=by
 have:=zCl (p:=yes) h.perm
 rwa [zKw L h.val] at this
theorem zLq:∀ L:List Tri3,(L.flatMap wys).length=3 * L.length
 | []=>rfl
 | T :: L=>by rw [jA5,jAa,zLq L,jAm];simp [wys];omega
theorem Good.len {E:Es} {L:List Tri3} (h:Good E L):E.length=3 * L.length:=by rw [h.perm.length_eq,zLq]
theorem zKz:∀ L:List Tri3,froms (L.flatMap wys)=cnrs L
 | []=>rfl
 | T :: L=>by
  have ih:=zKz L;unfold froms cnrs at *;rw [jA5,jBn,ih,jA5];rfl
theorem Good.froms {E:Es} {L S:List Tri3} (h:Good E L) (hS:S.Perm L) (p:Pt):p∈froms E↔p∈cnrs S:=by
 have h1:(Go.Proofs.YtogffkimgmlilaaGreat.froms E).Perm (cnrs L):=by
  rw [←zKz L];exact h.perm.map _
 rw [h1.mem_iff];unfold cnrs;exact (hS.flatMap_right _).mem_iff.symm
theorem Good.left {E:Es} {L:List Tri3} (h:Good E L) {T:Tri3} (hT:T∈L) {i:Int} (hi:i=0∨i=1∨i=2):lftE E (crn T i) (crn T (i+1))=(T,true):=by
 refine lftE_some (zFs h.nodup (h.perm.mem_iff.2 (jAh.2 ⟨T,hT,?_⟩)));rcases hi with rfl | rfl | rfl <;> simp [wys,crn,plc]
end
end Go.Proofs.YtogffkimgmlilaaGreat
