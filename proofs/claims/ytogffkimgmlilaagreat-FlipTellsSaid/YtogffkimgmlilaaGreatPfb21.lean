/- Put together: CdtA, DocB, WalI, WalJ, WalK, WalL. -/
import Derived.Test.YtogffkimgmlilaaGreatPfb20
import Derived.Shelf.Spec.SlicesInsert
import Derived.Lib.AppendZerosOnto
import Derived.Shelf.RegionOpenPlain
import Derived.Deep.AppendLies
import Derived.Deep.RegionHeld3
set_option maxRecDepth 100000
set_option maxHeartbeats 8000000
set_option linter.all false
namespace Go.Proofs.YtogffkimgmlilaaGreat
open _root_.Go.Proofs.Tryz
section
open Go.RowKit Go.Sort
attribute [local go_sem] rOper rAt rUpon cell_set sg_i64 sg_u64 alloc_cell alloc_frozen
attribute [local go_sem 10000] pt_eql pt_neq tri_eql
attribute [local irreducible] rWalk
theorem zDd {w w':World} {B k:Nat} {T:TypeId} {v:Value} {n:Nat} {xs:List Value} (h:w.ownsRow B T k v n xs) (hb:Below w w w'):w'.ownsRow B T k v n xs:=
 h.kept (zA6 hb none) (by cases v.ownBlock <;> simp)
theorem Box.grown2 {w w':World} {x:Nat} {cs:List Value} {T:TypeId} {r:Option Nat} (h:Box w x cs T) (hg:w.grownBy w' r) (hr:∀ k,r=some k→x < k):Box w' x cs T:=by
 have hl:=h.lt;unfold Box at *;rw [hg.block x hl (fun e=>by have:=hr x e.symm;omega)];exact h
theorem Box.grown1 {w w':World} {x r:Nat} {cs:List Value} {T:TypeId} (h:Box w x cs T) (hg:w.grownBy w' (some r)) (hr:x < r:=by omega):Box w' x cs T:=h.grown2 hg (fun k hk=>by cases hk;exact hr)
theorem zM3 (mb b:Nat) (E:Es) (p:Pt) (hE:E.length≤1000000) (w:World) (Bm:Box w mb [.map (some b)] 90) (Hm:HoldsMap eW eT okW w b E):Calls prog 103 #[pt0 mb,p] w fun e w'=>∃ a cap,e=.returned (.slice a (srt cmpT (heads (fun T=>hasP T p) E)).length cap)∧RowAt cT 6 w' a (srt cmpT (heads (fun T=>hasP T p) E))∧Below w w w':=by
 obtain ⟨f,ef⟩:∃ f:Tri3→Bool,f=fun T=>hasP T p:=⟨_,rfl⟩;rw [←ef];have hf:∀ T,hasP T p=f T:=fun T=>by rw [ef]
 clear ef;have cH:∀ (T:Tri3) (W:World),Calls prog 143 #[T,p] W fun e w'=>e=.returned (.bool (f T))∧Below W W w':=fun T W=>by rw [←hf];exact zDs T p W
 clear hf;have Fm:=Bm.f
 go_enter func103,ntmps103
 go_wp2_with (at_range;refine zB1 _ rfl _ rfl kvR rfl (Hm.alloc _) ?_)
 intro w0 HR0 hw0 hs0;have Bp0:Box w0 w [p.x,p.y] 54:=(Box.new rfl).ext hw0 (by simp);replace hw0:Below w w w0:=((Below.refl w.heap.size w).alloc (jA9 _) _).trans (hw0.mono (by simp));clear Fm;go_wp2
 go_loopw [5] (fun v wr=>∃ D R:Es,Hid ((D ++ R).Perm E)∧wr.ownsRow (w.heap.size+1) 56 6 v (heads f D).length ((heads f D).flatMap cT)∧Ranging eW eT okW wr b (w.heap.size+1) E R∧Box wr w [p.x,p.y] 54∧Below w w wr) (fun _ wr=>wr.rangeLeft b (w.heap.size+1))
 case atStart=>exact ⟨[],E,hdd (by simp),World.ownsRow_nil _ _ _ _,by simpa using HR0,Bp0,hw0⟩
 case round=>
  clear HR0 hw0 Bp0;obtain ⟨D,R,hD,hown,HR,Bp,hw⟩:=hrel;go_wp2_with (at_next;refine zB8 _ rfl _ rfl rfl HR ?_ ?_)
  ·intro hR;subst hR;have hp0:(heads f D).Perm (heads f E):=zCl (by simpa using hD.out);have hle:(heads f D).length≤1000000:=by have:=hp0.length_eq;have:=heads_len f E;omega
   have HS:=hdd (wholeT.srt_of_perm hp0);obtain ⟨a1,c1,rfl,hc1,hr1⟩:=zAt zIc hown;have hlen:=hdd (show (heads f D).length=(srt cmpT (heads f E)).length by rw [←HS.out];exact (srt_perm _).length_eq.symm);go_wp2_with fail;refine (zCj _ _ _ _ (hdd rfl) hle hc1 _ hr1).mono ?_;rintro e w2 ⟨a,cap,rfl,hr,hb⟩;go_wp2
   go_ret
   rw [HS.out] at hr;exact ⟨a,cap,by rw [hlen.out];rfl,hr,(upB hw hb)⟩
  ·intro u x T R' w1 hperm HR1 hg1 hs1 hen;have hD2:=hdd (show ((D ++ [((u,x),T)]) ++ R').Perm E by have:=(hperm.append_left D).symm.trans hD.out;simpa using this);have own1:=hown.kept hg1 (.inr (fun e=>zAr hown HR e.symm));have Bp1:=Bp.grown1 hg1;have hw1:=hw.grown hg1 hw.size (fun k hk=>by cases hk;omega);have HL:=hdd (show w1.rangeLeft b (w.heap.size+1) < wr.rangeLeft b (w.heap.size+1) by rw [zAc HR1,zAc HR,hperm.length_eq];simp);have hen2:(Instr.entry (.pointer (some ⟨w+1,0,none⟩))).run prog w1=.ok (.tuple #[.agg #[u.x,u.y,x.x,x.y],T]) w1:=hen;have hle:(heads f D).length≤1000000:=by have:=hD2.out.length_eq;have:=heads_len f D;simp at *;omega
   have HB:=hdd hw1.size;clear hown HR hg1 hs1 hen hperm hw Bp;by_cases hA:u=T.A
   ·have hd:peqI u.x u.y T.A.x T.A.y=true:=zBe.2 hA;have HHt:=hdd (fun (hf:f T=true)=>show heads f (D ++ [((u,x),T)])=heads f D ++ [T] by rw [zAs,zFq hA hf]);have HHf:=hdd (fun (hf:f T=false)=>show heads f (D ++ [((u,x),T)])=heads f D by rw [zAs,zE4 (by simp [hf])];simp);clear hA;have Fp:=Bp1.f;have e1:(w.heap.size=w1.heap.size+1)=False:=by have:=Bp1.lt;simp;omega
    go_wp2_with fail;refine zA4 fun W2 hW=>?_;have Bt:Box W2 (w1+1) [T.A.x,T.A.y,T.B.x,T.B.y,T.C.x,T.C.y] 56:=by rw [hW];exact Box.new (by simp)
    have Bp2:Box W2 w [p.x,p.y] 54:=by rw [hW];exact (Bp1.old _).old _
    have own2:W2.ownsRow (w.heap.size+1) 56 6 u5 (heads f D).length ((heads f D).flatMap cT):=by rw [hW];exact (own1.alloc _).alloc _
    have hw2:Below w1 w1 W2:=by rw [hW];go_grown
    have HR2:=HR1.ee hw2;clear hW Fp e1 Bp1 own1;refine (cH T _).mono ?_;rintro e w3 ⟨rfl,hb⟩;replace Bt:=Bt.ee hb;replace Bp2:=Bp2.ee hb;replace own2:=zDd own2 hb;replace HR2:=HR2.ee hb;have hw3:=hw1.trans (((upB hw2 hb)).mono hw1.size);have HL3:=hdd (show w3.rangeLeft b (w.heap.size+1) < wr.rangeLeft b (w.heap.size+1) by rw [zAc HR2,←zAc HR1];exact HL.out);have HB3:=hdd hw3.size;clear hb hw2;cases hf:f T with
    | true=>
     have HH:=hdd (HHt.out hf);clear HHt HHf hf;have Ft:=Bt.f;go_wp2_with (at_builtin;refine zBb rfl _ _ rfl (w.heap.size+1) _ (heads f D) rfl (own2.alloc _) w3.heap.size T rfl (Box.new (by simp)) hle (by have:=HB3.out;simp;omega) ?_;intro w4 v4 hown4 hg4)
     have hR3:=HR2.kept (World.grownBy_alloc _ (.cells (cT T).toArray 56) none) (by simp) (by simp);have hR4:=hR3.kept hg4 (zB5 (own2.alloc _) hR3.holds) (zAr (own2.alloc _) hR3);have hw4:=((hw3.alloc (by have:=HB3.out;omega) (.cells (cT T).toArray 56))).grown hg4 (by have:=HB3.out;simp;omega) (fun k hk=>by have:=((own2.alloc (.cells (cT T).toArray 56)).lt k hk).1;omega);have Bp4:=(Bp2.old (.cells (cT T).toArray 56)).grown2 hg4 (fun k hk=>by have:=((own2.alloc (.cells (cT T).toArray 56)).lt k hk).1;omega)
     go_roundw
     case rel=>exact ⟨D ++ [((u,x),T)],R',hD2,by rw [HH.out];exact hown4,hR4,Bp4,hw4⟩
     case measure=>rw [zAc hR4,←zAc HR2];exact HL3.out
    | false=>
     have HH:=hdd (HHf.out hf);clear HHt HHf hf;go_wp2
     go_roundw
     case rel=>exact ⟨D ++ [((u,x),T)],R',hD2,by rw [HH.out];exact own2,HR2,Bp2,hw3⟩
     case measure=>exact HL3.out
   ·have hd:peqI u.x u.y T.A.x T.A.y=false:=by rw [←jBl,zBe];exact hA
    have HH:=hdd (show heads f (D ++ [((u,x),T)])=heads f D by rw [zAs,zE4 (by simp [hA])];simp);clear hA;go_wp2
    go_roundw
    case rel=>exact ⟨D ++ [((u,x),T)],R',hD2,by rw [HH.out];exact (own1.alloc _).alloc _,HR1.ext (by go_grown) rfl,(Bp1.old _).old _,by have:=hw1.size;go_grown⟩
    case measure=>rw [zAc ((HR1.ext (w':=(w1.alloc _).alloc _) (by go_grown) rfl)),←zAc HR1];exact HL.out
end
section
open Go.RowKit Go.Sort
attribute [local go_sem] rOper rAt rUpon cell_set sg_i64 sg_u64 alloc_cell alloc_frozen
attribute [local go_sem 10000] pt_eql pt_neq wal_eql wal_neq
attribute [local irreducible] rWalk
theorem mw_a (a b:Pt) (k:Int) (ha:vld a=false) (w:World):Calls prog 72 #[a,b,k] w (Rt w (.tuple #[.agg #[(),(),(),(),()],.bool false])):=by
 have c1:=zA0 a;rw [ha] at c1;clear ha
 go_enter func72,ntmps72
 go_wp2_with fail;refine qE3 fun W1 Ba Bb Br hw=>?_;refine qK3 (c1 _) Ba Bb Br hw fun w2 Ba Bb Br hw=>?_;have Fa:=Ba.f;have Fb:=Bb.f;have Fr:=Br.f;go_wp2_with fail;refine bodyPost_ret (v:=.tuple #[.agg #[(),(),(),(),()],.bool false]) (by simp [results,results72,go_sem,Fr]) rfl ⟨rfl,by have hl:=hw.size;go_grown⟩
theorem mw_b (a b:Pt) (k:Int) (ha:vld a=true) (hb:vld b=false) (w:World):Calls prog 72 #[a,b,k] w (Rt w (.tuple #[.agg #[(),(),(),(),()],.bool false])):=by
 have c1:=zA0 a;rw [ha] at c1;have c2:=zA0 b;rw [hb] at c2;clear ha hb
 go_enter func72,ntmps72
 go_wp2_with fail;refine qE3 fun W1 Ba Bb Br hw=>?_;refine qK3 (c1 _) Ba Bb Br hw fun w2 Ba Bb Br hw=>?_;have Fa:=Ba.f;have Fb:=Bb.f;have Fr:=Br.f;go_wp2_with fail;clear Fa Fb Fr;refine qK3 (c2 _) Ba Bb Br hw fun w3 Ba Bb Br hw=>?_;have Fa:=Ba.f;have Fb:=Bb.f;have Fr:=Br.f;go_wp2_with fail;refine bodyPost_ret (v:=.tuple #[.agg #[(),(),(),(),()],.bool false]) (by simp [results,results72,go_sem,Fr]) rfl ⟨rfl,by have hl:=hw.size;go_grown⟩
theorem mw_e (a b:Pt) (k:Int) (ha:vld a=true) (hb:vld b=true) (e:peqI a.x a.y b.x b.y=true) (w:World):Calls prog 72 #[a,b,k] w (Rt w (.tuple #[.agg #[(),(),(),(),()],.bool false])):=by
 have c1:=zA0 a;rw [ha] at c1;have c2:=zA0 b;rw [hb] at c2;clear ha hb
 go_enter func72,ntmps72
 go_wp2_with fail;refine qE3 fun W1 Ba Bb Br hw=>?_;refine qK3 (c1 _) Ba Bb Br hw fun w2 Ba Bb Br hw=>?_;have Fa:=Ba.f;have Fb:=Bb.f;have Fr:=Br.f;go_wp2_with fail;clear Fa Fb Fr;refine qK3 (c2 _) Ba Bb Br hw fun w3 Ba Bb Br hw=>?_;have Fa:=Ba.f;have Fb:=Bb.f;have Fr:=Br.f;go_wp2_with fail;refine bodyPost_ret (v:=.tuple #[.agg #[(),(),(),(),()],.bool false]) (by simp [results,results72,go_sem,Fr]) rfl ⟨rfl,by have hl:=hw.size;go_grown⟩
theorem mw_k (a b:Pt) (k:Int) (ha:vld a=true) (hb:vld b=true) (e:peqI a.x a.y b.x b.y=false) (e1:(k != 1)=true) (e2:(k != 2)=true) (w:World):Calls prog 72 #[a,b,k] w (Rt w (.tuple #[.agg #[(),(),(),(),()],.bool false])):=by
 have c1:=zA0 a;rw [ha] at c1;have c2:=zA0 b;rw [hb] at c2;clear ha hb
 go_enter func72,ntmps72
 go_wp2_with fail;refine qE3 fun W1 Ba Bb Br hw=>?_;refine qK3 (c1 _) Ba Bb Br hw fun w2 Ba Bb Br hw=>?_;have Fa:=Ba.f;have Fb:=Bb.f;have Fr:=Br.f;go_wp2_with fail;clear Fa Fb Fr;refine qK3 (c2 _) Ba Bb Br hw fun w3 Ba Bb Br hw=>?_;have Fa:=Ba.f;have Fb:=Bb.f;have Fr:=Br.f;go_wp2_with fail;refine bodyPost_ret (v:=.tuple #[.agg #[(),(),(),(),()],.bool false]) (by simp [results,results72,go_sem,Fr]) rfl ⟨rfl,by have hl:=hw.size;go_grown⟩
theorem mw_o1 (a b:Pt) (k:Int) (ha:vld a=true) (hb:vld b=true) (e:peqI a.x a.y b.x b.y=false) (e1:(k != 1)=false) (w:World):Calls prog 72 #[a,b,k] w (Rt w (.tuple #[.agg #[.int .i64 (rl a b).x,.int .i64 (rl a b).y,.int .i64 (rg a b).x,.int .i64 (rg a b).y,k],.bool true])):=by
 have c1:=zA0 a;rw [ha] at c1;have c2:=zA0 b;rw [hb] at c2;have c3:=zGr a b;have c4:=zGs a b;clear ha hb;generalize rl a b=p at *
 generalize rg a b=q at *
 go_enter func72,ntmps72
 go_wp2_with fail;refine qE3 fun W1 Ba Bb Br hw=>?_;refine qK3 (c1 _) Ba Bb Br hw fun w2 Ba Bb Br hw=>?_;have Fa:=Ba.f;have Fb:=Bb.f;have Fr:=Br.f;go_wp2_with fail;clear Fa Fb Fr;refine qK3 (c2 _) Ba Bb Br hw fun w3 Ba Bb Br hw=>?_;have Fa:=Ba.f;have Fb:=Bb.f;have Fr:=Br.f;go_wp2_with fail;have g_abr:=J3 Ba.cells Bb.cells Br.cells;refine rgn 8 (fun w4 hb=>?_);clear g_abr;clear Fa Fb Fr;obtain ⟨Ba,Bb,Br,hw,-⟩:=qX3 Ba Bb Br hw hb;have Fa:=Ba.f;have Fb:=Bb.f;have Fr:=Br.f;go_wp2_with fail;refine bodyPost_ret (v:=.tuple #[.agg #[p.x,p.y,q.x,q.y,k],.bool true]) (by simp [results,results72,go_sem,Fr]) rfl ⟨rfl,by have hl:=hw.size;go_grown⟩
theorem mw_o2 (a b:Pt) (k:Int) (ha:vld a=true) (hb:vld b=true) (e:peqI a.x a.y b.x b.y=false) (e1:(k != 1)=true) (e2:(k != 2)=false) (w:World):Calls prog 72 #[a,b,k] w (Rt w (.tuple #[.agg #[.int .i64 (rl a b).x,.int .i64 (rl a b).y,.int .i64 (rg a b).x,.int .i64 (rg a b).y,k],.bool true])):=by
 have c1:=zA0 a;rw [ha] at c1;have c2:=zA0 b;rw [hb] at c2;have c3:=zGr a b;have c4:=zGs a b;clear ha hb;generalize rl a b=p at *
 generalize rg a b=q at *
 go_enter func72,ntmps72
 go_wp2_with fail;refine qE3 fun W1 Ba Bb Br hw=>?_;refine qK3 (c1 _) Ba Bb Br hw fun w2 Ba Bb Br hw=>?_;have Fa:=Ba.f;have Fb:=Bb.f;have Fr:=Br.f;go_wp2_with fail;clear Fa Fb Fr;refine qK3 (c2 _) Ba Bb Br hw fun w3 Ba Bb Br hw=>?_;have Fa:=Ba.f;have Fb:=Bb.f;have Fr:=Br.f;go_wp2_with fail;have g_abr:=J3 Ba.cells Bb.cells Br.cells;refine rgn 8 (fun w4 hb=>?_);clear g_abr;clear Fa Fb Fr;obtain ⟨Ba,Bb,Br,hw,-⟩:=qX3 Ba Bb Br hw hb;have Fa:=Ba.f;have Fb:=Bb.f;have Fr:=Br.f;go_wp2_with fail;refine bodyPost_ret (v:=.tuple #[.agg #[p.x,p.y,q.x,q.y,k],.bool true]) (by simp [results,results72,go_sem,Fr]) rfl ⟨rfl,by have hl:=hw.size;go_grown⟩
theorem rl_lo {a b:Pt} (h:a≠b):rl a b=lo2 a b∧rg a b=hi2 a b:=by
 have h1:=zAv a b;have h2:¬ cmpP a b=0:=fun e=>h (cmpP_eq0.1 e);unfold rl rg lo2 hi2;constructor <;> (split <;> split <;> first | rfl | (exfalso;omega))
theorem zFb (a b:Pt) (k:Int) (w:World):Calls prog 72 #[a,b,k] w (Rt w (.tuple #[.agg #[.int .i64 (mkW a b k).A.x,.int .i64 (mkW a b k).A.y,.int .i64 (mkW a b k).B.x,.int .i64 (mkW a b k).B.y,.int .i64 (mkW a b k).K],.bool (mkOk a b k)])):=by
 have hz:∀ e,mkOk a b k=e→e=false→mkW a b k=⟨⟨0,0⟩,⟨0,0⟩,0⟩:=fun e h1 h2=>by unfold mkW;rw [h1,h2];rfl
 cases ha:vld a with
 | false=>
  have h:mkOk a b k=false:=by unfold mkOk;rw [ha];simp
  rw [hz _ h rfl,h];exact mw_a a b k ha w
 | true=>
  cases hb:vld b with
  | false=>
   have h:mkOk a b k=false:=by unfold mkOk;rw [hb];simp
   rw [hz _ h rfl,h];exact mw_b a b k ha hb w
  | true=>
   cases e:peqI a.x a.y b.x b.y with
   | true=>
    have h:mkOk a b k=false:=by rw [zAz] at e;unfold mkOk;rw [e];simp
    rw [hz _ h rfl,h];exact mw_e a b k ha hb e w
   | false=>
    have hab:a≠b:=by rw [zAz] at e;simpa using e
    have h0:mkOk a b k=mkK k:=by rw [zAz] at e;unfold mkOk;rw [e,ha,hb];simp
    have hy:mkOk a b k=true→mkW a b k=⟨rl a b,rg a b,k⟩:=fun h=>by unfold mkW;rw [h,(rl_lo hab).1,(rl_lo hab).2];rfl
    cases e1:(k != 1) with
    | false=>
     have h:mkOk a b k=true:=by rw [h0];simp at e1;simp [mkK,e1]
     rw [hy h,h];exact mw_o1 a b k ha hb e e1 w
    | true=>
     cases e2:(k != 2) with
     | false=>
      have h:mkOk a b k=true:=by rw [h0];simp at e2;simp [mkK,e2]
      rw [hy h,h];exact mw_o2 a b k ha hb e e1 e2 w
     | true=>
      have h:mkOk a b k=false:=by rw [h0];simp at e1 e2;simp [mkK,e1,e2]
      rw [hz _ h rfl,h];exact mw_k a b k ha hb e e1 e2 w
end
section
open Go.RowKit Go.Sort Go.Lib
attribute [local go_sem] rOper rAt rUpon cell_set sg_i64 sg_u64 alloc_cell alloc_frozen
attribute [local go_sem 10000] pt_eql pt_neq wal_eql wal_neq
attribute [local irreducible] rWalk
theorem Box.setRow {w:World} {g:Nat} {C D:List Value} {T:TypeId} (h:Box w g C T):Box (w.setRow g D.toArray) g D T:=setRow_heap w g _ _ T _ h
def Fresh (v v':Value) (n:Nat):Prop:=∀ g,v'.ownBlock=some g→v.ownBlock=some g∨n≤g
def z5:List Value:=[(),(),(),(),()]
def zN:Nat→List Value
 | 0=>[]
 | n+1=>z5 ++ zN n
theorem zLm:∀ n,(zN n).length=n * 5
 | 0=>rfl
 | n+1=>by rw [zN,jAa,zLm n];simp [z5];omega
theorem zOp:∀ n i,i < n * 5→(zN n)[i]? = some (.int .i64 0)
 | 0,i,h=>by omega
 | n+1,i,h=>by
  rw [zN];by_cases hi:i < 5
  ·rw [jCu (by simpa [z5] using hi)];have:i=0∨i=1∨i=2∨i=3∨i=4:=by omega
   rcases this with rfl | rfl | rfl | rfl | rfl <;> rfl
  ·rw [List.getElem?_append_right (by simp [z5];omega)];exact zOp n _ (by simp [z5];omega)
theorem zeros_wl (n:Nat):(Builtin.zeroCells #[(),(),(),(),()] n).toList=zN n:=by
 apply jD4;intro i;by_cases h:i < n * 5
 ·rw [zOp n i h,jEl];have:i % 5=0∨i % 5=1∨i % 5=2∨i % 5=3∨i % 5=4:=by omega
  simp only [Builtin.zeroCells];rcases this with e | e | e | e | e <;> simp [h,e]
 ·rw [jCb (by rw [jEe,size_zeroCells];simp;omega),jCb (by rw [zLm];omega)]
theorem clear_run {w:World} (ty:TypeId) (g o n c:Nat) (C:List Value) (hn:0 < n) (hg:Box w g C 60) (hfit:o+n * 5≤C.length):(Builtin.clear_ #[37] ty #[.slice (some ⟨g,o,none⟩) n c]).run prog w=.ok (.tuple #[]) (w.setRow g (C.take o ++ zN n ++ C.drop (o+n * 5)).toArray):=by
 have hst:=run_storeCells_at prog g o 60 (zN n) 0 C.toArray w hg (by rw [zLm];simpa using hfit) (by
  intro v hv;obtain ⟨i,hi,rfl⟩:=jDe.1 hv;have:=zOp n i (by rwa [zLm] at hi);rw [jA8 hi] at this;simp at this;rw [this];rfl)
 simp only [Nat.add_zero,zLm] at hst;obtain ⟨m,rfl⟩:∃ m,n=m+1:=⟨n - 1,by omega⟩;have hz:=zeros_wl (m+1);simp [Builtin.clear_,run_underlying underlying37,Value.cells,hz,hst]
end
section
open Go.RowKit Go.Sort
attribute [local go_sem] rOper rAt rUpon cell_set sg_i64 sg_u64 alloc_cell alloc_frozen
attribute [local go_sem 10000] pt_eql pt_neq wal_eql wal_neq
attribute [local irreducible] rWalk
structure Frm (w w':World) (p:Nat→Prop):Prop where
 os:w'.os=w.os
 tape:w'.tape=w.tape
 output:w'.output=w.output
 size:w.heap.size≤w'.heap.size
 block:∀ k,k < w.heap.size→¬ p k→w'.heap[k]? = w.heap[k]?
theorem Frm.of_below {w w':World} {p:Nat→Prop} (h:Below w w w'):Frm w w' p:=⟨h.1,h.2,h.3,h.4,fun k hk _=>h.block k hk⟩
theorem Frm.of_grown {w w':World} {p:Nat→Prop} {r:Option Nat} (h:w.grownBy w' r) (hr:∀ g,r=some g→p g):Frm w w' p:=⟨h.1,h.2,h.3,h.4,fun k hk hn=>h.block k hk (fun e=>hn (hr k e.symm))⟩
theorem Frm.trans {w w' w2:World} {p:Nat→Prop} (h:Frm w w' p) (h2:Frm w' w2 p):Frm w w2 p:=⟨h2.os.trans h.os,h2.tape.trans h.tape,h2.output.trans h.output,jAp h.size h2.size,fun k hk hn=>(h2.block k (jBj hk h.size) hn).trans (h.block k hk hn)⟩
theorem Frm.trans2 {w w' w2:World} {p q:Nat→Prop} (h:Frm w w' p) (h2:Frm w' w2 q) (hq:∀ k,q k→k < w.heap.size→p k):Frm w w2 p:=⟨h2.os.trans h.os,h2.tape.trans h.tape,h2.output.trans h.output,jAp h.size h2.size,fun k hk hn=>(h2.block k (jBj hk h.size) (fun hh=>hn (hq k hh hk))).trans (h.block k hk hn)⟩
theorem Frm.setCell {w w':World} {p:Nat→Prop} (h:Frm w w' p) (q:Addr) (hq:p q.block) (v:Value):Frm w (w'.setCell q v) p:=
 ⟨h.os,h.tape,h.output,by simpa using h.size,fun k hk hn=>by
  have hne:¬ q.block=k:=fun e=>hn (e▸hq);simp only [World.setCell,jCn,jA0 hne];exact h.block k hk hn⟩
theorem Frm.below {w w':World} {p:Nat→Prop} {n:Nat} (h:Frm w w' p) (hp:∀ k,p k→n≤k) (hn:n≤w.heap.size):Below n w w':=⟨h.os,h.tape,h.output,h.size,fun k hk=>h.block k (by omega) (fun e=>by have:=hp k e;omega)⟩
theorem Frm.box {w w':World} {p:Nat→Prop} {b:Nat} {cs:List Value} {T:TypeId} (h:Frm w w' p) (hb:Box w b cs T) (hn:¬ p b):Box w' b cs T:=by
 have hl:=hb.lt;unfold Box at *;rw [h.block b hl hn];exact hb
theorem Frm.row {w w':World} {p:Nat→Prop} {B:Nat} {v:Value} {L:List Wl} (h:Frm w w' p) (hr:WRow w B v L) (hn:∀ g,v.ownBlock=some g→¬ p g):WRow w' B v L:=by
 refine ⟨hr.1,?_⟩;rcases hr.2 with h' | ⟨g,cap,cur,h0,h1,h2,h3⟩
 ·exact .inl h'
 ·refine .inr ⟨g,cap,cur,h0,h1,?_,h3⟩;have hl:g < w.heap.size:=(jBg.1 h2).1;rw [h.block g hl (hn g (by rw [h0];rfl))];exact h2
structure SetAt (w:World) (sb:Nat) (v:Value) (L:List Wl):Prop where
 box:Box w sb [v] 102
 row:WRow w 0 v L
 ne:v.ownBlock≠some sb
 le:L.length≤1000000
 ris:Ris L
 good:∀ x∈L,GoodW x
theorem SetAt.rd {w:World} {sb:Nat} {v:Value} {L:List Wl} (S:SetAt w sb v L):∃ a c,v=.slice a L.length c∧SetRd w sb a c L.length L:=by
 obtain ⟨a,c,h1,h2,h3⟩:=S.row.row;refine ⟨a,c,h1,h1▸S.box,h2,rfl,S.le,?_,h3,fun e=>?_,S.ris,S.good⟩
 ·rcases S.row.box with ⟨e,e2⟩ | ⟨_,_,_,e,_,_,h,_⟩
  ·rw [e2];exact jAt _
  ·rw [h1] at e;simp only [Value.slice.injEq] at e;omega
 ·rcases S.row.box with ⟨_,e2⟩ | ⟨_,_,_,e2,_⟩
  ·exact e2
  ·rw [h1,e] at e2;simp at e2
theorem WRow.drew {w:World} {B:Nat} {v:Value} {L:List Wl} (h:WRow w B v L):WRow w.drew B v L:=h
theorem WRow.form {w:World} {B:Nat} {v:Value} {L:List Wl} (h:WRow w B v L):∃ a n c,v=.slice a n c:=by
 obtain ⟨a,c,h1,_⟩:=h.row;exact ⟨a,_,c,h1⟩
theorem SetAt.keep {w w':World} {sb:Nat} {v:Value} {L:List Wl} {p:Nat→Prop} (S:SetAt w sb v L) (h:Frm w w' p) (h1:¬ p sb) (h2:∀ g,v.ownBlock=some g→¬ p g):SetAt w' sb v L:=
 ⟨h.box S.box h1,h.row S.row h2,S.ne,S.le,S.ris,S.good⟩
theorem SetAt.ext {w w':World} {sb:Nat} {v:Value} {L:List Wl} {n:Nat} (S:SetAt w sb v L) (hb:Below n w w') (hn:n=w.heap.size):SetAt w' sb v L:=
 ⟨S.box.ext hb hn,S.row.ext hb hn,S.ne,S.le,S.ris,S.good⟩
theorem SetAt.ee {w w':World} {sb:Nat} {v:Value} {L:List Wl} (S:SetAt w sb v L) (hb:Below w w w'):SetAt w' sb v L:=S.ext hb rfl
theorem good_unm {X:Wl} (h:GoodW X):unm X=false:=by
 have hab:X.A≠X.B:=fun e=>by have:=h.ab;rw [e,cmpP_eq0.2 rfl] at this;omega
 have hk:mkOk X.A X.B X.K=true:=by unfold mkOk mkK;simp [h.va,h.vb,hab];exact h.k
 have hn:¬ cmpP X.B X.A < 0:=by have:=h.ab;rw [zAv];omega
 unfold unm mkW;rw [hk];simp [lo2,hi2,hn]
theorem good_lo {X:Wl} (h:GoodW X):lo2 X.A X.B=X.A∧hi2 X.A X.B=X.B:=by
 have hn:¬ cmpP X.B X.A < 0:=by have:=h.ab;rw [zAv];omega
 exact ⟨by unfold lo2;rw [jA0 hn],by unfold hi2;rw [jA0 hn]⟩
def addE (L:List Wl) (X:Wl):Int:=if unm X=true then 2 else clashW L X.A X.B
theorem Frm.refl (w:World) (p:Nat→Prop):Frm w w p:=⟨rfl,rfl,rfl,jA9 _,fun _ _ _=>rfl⟩
end
end Go.Proofs.YtogffkimgmlilaaGreat
