/- Put together: SortR, MesL. -/
import Derived.Test.YtogffkimgmlilaaGreatPfb19
set_option maxRecDepth 100000
set_option maxHeartbeats 8000000
set_option linter.all false
namespace Go.Proofs.YtogffkimgmlilaaGreat
open Go.RowKit Go.Sort _root_.Go.Proofs.Tryz
section
attribute [local go_sem] rOper rAt rUpon cell_set sg_i64 sg_u64 alloc_cell alloc_frozen
attribute [local go_sem 10000] pt_eql pt_neq tri_eql
attribute [local irreducible] rWalk
theorem zAt {α:Type} {c:α→List Value} {k:Nat} {w:World} {B:Nat} {T:TypeId} {v:Value} {L:List α} (hc:∀ x,(c x).length=k) (h:w.ownsRow B T k v L.length (L.flatMap c)):∃ a cap,v=.slice a L.length cap∧L.length≤cap∧RowAt c k w a L:=by
 have h2:=h.2;obtain ⟨a,cap,rfl,hr⟩:=zD9 hc h;refine ⟨a,cap,rfl,?_,hr⟩;rcases h2 with ⟨h3,h4⟩ | ⟨g,cap2,cur,h3,_,_,h4,_⟩
 ·omega
 ·simp only [Value.slice.injEq] at h3;omega
theorem Six.cells {w:World} {A:Addr} {T:Tri3} (h:Six w A T):(∀ d os,(grow (redrawn w d) os).cell? A=some (.int .i64 T.A.x))∧(∀ d os,(grow (redrawn w d) os).cell? ⟨A.block,A.off+1,none⟩=some (.int .i64 T.A.y))∧(∀ d os,(grow (redrawn w d) os).cell? ⟨A.block,A.off+2,none⟩=some (.int .i64 T.B.x))∧(∀ d os,(grow (redrawn w d) os).cell? ⟨A.block,A.off+3,none⟩=some (.int .i64 T.B.y))∧(∀ d os,(grow (redrawn w d) os).cell? ⟨A.block,A.off+4,none⟩=some (.int .i64 T.C.x))∧(∀ d os,(grow (redrawn w d) os).cell? ⟨A.block,A.off+5,none⟩=some (.int .i64 T.C.y)):=
 ⟨fun d os=>(h.ext (below_regrown w d os) rfl).2.1,fun d os=>(h.ext (below_regrown w d os) rfl).2.2.1,fun d os=>(h.ext (below_regrown w d os) rfl).2.2.2.1,fun d os=>(h.ext (below_regrown w d os) rfl).2.2.2.2.1,fun d os=>(h.ext (below_regrown w d os) rfl).2.2.2.2.2.1,fun d os=>(h.ext (below_regrown w d os) rfl).2.2.2.2.2.2⟩
theorem RowAt.first {w:World} {a:Option Addr} {x:Tri3} {L:List Tri3} (h:RowAt cT 6 w a (x :: L)):∃ ad,a=some ad∧Six w ad x:=by
 obtain ⟨ad,A,h1,h2,h3⟩:=h.six (j:=0) (by simp);rw [Nat.zero_mul,Addr.add_zero'] at h2;subst h2;exact ⟨ad,h1,h3⟩
theorem RowAt.rest {w:World} {a:Option Addr} {x:Tri3} {L:List Tri3} {c:Nat} (h:RowAt cT 6 w a (x :: L)) (hc:(x :: L).length≤c):∃ a',(∀ w',(Instr.slice 34 (.slice a (L.length+1) c) (some (.int .i64 1)) none none).run prog w'=.ok (.slice a' L.length (c - 1)) w')∧RowAt cT 6 w a' L∧L.length≤c - 1:=by
 have h1:=h.part 1 L.length c hc;have e:((x :: L).drop 1).take L.length=L:=by simp
 rw [e] at h1;refine ⟨_,fun w'=>?_,h1,by simp at hc;omega⟩;have:=run_from_tri a (L.length+1) c 1 (by omega) w'
 simpa using this
def lenOf:Value→Nat | .slice _ n _=>n | _=>0
theorem zG4 (a0:Option Addr) (c0 N:Nat) (L:List Tri3) (hL:Hid (L.length=N)) (hN:N≤1000000) (hc0:N≤c0) (w:World) (h0:RowAt cT 6 w a0 L):Calls prog 52 #[.slice a0 N c0] w fun e w'=>∃ a cap,e=.returned (.slice a N cap)∧N≤cap∧RowAt cT 6 w' a (srt cmpT L)∧Below w w w':=by
 go_enter func52,ntmps52
 go_wp2
 go_loopw [0,3] (fun vl vn wr=>∃ (nn:Nat) (X:List Tri3) (a:Option Addr) (cap:Nat),vl=.slice a N cap∧vn=.int .i64 nn∧1≤nn∧nn≤2000000∧Hid (X.Perm L)∧Hid (X.length=N)∧Hid (Blocks cmpT nn X)∧RowAt cT 6 wr a X∧N≤cap∧Below w w wr) (fun _ vn _=>N - (intOf vn).toNat)
 case atStart=>exact ⟨1,L,a0,c0,rfl,rfl,jA9 _,by omega,hdd (jF4 _),hL,hdd (blocks_one L),h0,hc0,Below.refl _ _⟩
 case round=>
  obtain ⟨nn,X,a,cap,rfl,rfl,hn1,hn2,hX,hXl,hB,hr,hcap,hw⟩:=hrel;by_cases hlt:nn < N
  case neg=>
   have HS:=hdd (wholeT.srt_eq hX.out (blocks_all hB.out (by rw [hXl.out];omega)));go_wp2
   go_ret
   exact ⟨a,cap,rfl,hcap,by rw [←HS.out];exact hr,hw⟩
  case pos=>
   go_wp2;obtain ⟨W0,rfl⟩:∃ W0,W0=wr:=⟨_,rfl⟩
   go_loopw [4,5] (fun vo vat wr=>∃ (m at_:Nat) (O:List Tri3),vat=.int .i64 at_∧Hid (at_=2 * nn * m)∧at_≤5000000∧Hid (O.Perm (X.take at_))∧Hid (Blocks cmpT (2 * nn) O)∧wr.ownsRow W0.heap.size 56 6 vo O.length (O.flatMap cT)∧Below W0 W0 wr) (fun _ vat _=>N - (intOf vat).toNat)
   case atStart=>exact ⟨0,0,[],rfl,hdd (by simp),by omega,hdd (by simp),hdd (fun i j hi=>by simp at hi),World.ownsRow_nil _ _ _ _,Below.refl _ _⟩
   case round=>
    obtain ⟨m,at_,O,rfl,hat,hat2,hO,hOB,hown,hw1⟩:=hrel;by_cases hlt2:at_ < N
    case neg=>
     obtain ⟨a',cap',rfl,hcap',hr'⟩:=zAt zIc hown;have hOX:O.Perm X:=by have:=hO.out;rwa [jAe (by rw [hXl.out];omega)] at this
     have HN:=hdd (show O.length=N by rw [hOX.length_eq,hXl.out]);rw [HN.out] at hcap';rw [HN.out];have HX:=hdd (hOX.trans hX.out);have e2:wrap64 (2 * (nn:Int))=((2 * nn:Nat):Int):=by rw [w64];omega
     clear hOX;go_wp2
     go_roundw
     case rel=>exact ⟨2 * nn,O,a',cap',rfl,by go_num,by omega,by omega,HX,HN,hOB,hr',hcap',(upB hw hw1)⟩
     case measure=>simp [intOf];omega
    case pos=>
     obtain ⟨p1,hp1⟩:∃ p1,p1=min (at_+nn) N:=⟨_,rfl⟩;obtain ⟨p2,hp2⟩:∃ p2,p2=min (at_+2 * nn) N:=⟨_,rfl⟩;have i1:IntKind.i64.wrap ((at_:Int)+nn)=(at_:Int)+nn:=by rw [IntKind.wrap_i64];omega
     have i2:IntKind.i64.wrap (2 * (nn:Int))=2 * (nn:Int):=by rw [IntKind.wrap_i64];omega
     have i3:IntKind.i64.wrap ((at_:Int)+2 * (nn:Int))=(at_:Int)+2 * (nn:Int):=by rw [IntKind.wrap_i64];omega
     have m1:min ((at_:Int)+nn) (N:Int)=(p1:Int):=by rw [hp1];omega
     have m2:min ((at_:Int)+2 * (nn:Int)) (N:Int)=(p2:Int):=by rw [hp2];omega
     have s1:=fun w=>zG2 a N cap at_ p1 (by omega) (by omega) w;have s2:=fun w=>zG2 a N cap p1 p2 (by omega) (by omega) w;have r1:=hr.part at_ nn cap (by rw [hXl.out];exact hcap);have r2:=hr.part p1 nn cap (by rw [hXl.out];exact hcap);generalize (if cap=at_ then a else a.map fun x=>x.add (at_ * 6))=a1 at s1 r1
     generalize (if cap=p1 then a else a.map fun x=>x.add (p1 * 6))=a2 at s2 r2
     obtain ⟨A,hA⟩:∃ A,A=(X.drop at_).take nn:=⟨_,rfl⟩;obtain ⟨B,hBq⟩:∃ B,B=(X.drop (at_+nn)).take nn:=⟨_,rfl⟩;have hB2:B=(X.drop p1).take nn:=by
      rw [hBq,hp1];rcases Nat.le_total (at_+nn) N with h | h
      ·rw [Nat.min_eq_left h]
      ·rw [Nat.min_eq_right h,jDl (by rw [hXl.out];omega),jDl (by rw [hXl.out];omega)]
     have lA:p1 - at_=A.length:=by rw [hA,jB3,jBm,hXl.out];omega
     have lB:p2 - p1=B.length:=by rw [hB2,jB3,jBm,hXl.out];omega
     rw [←hA] at r1;rw [←hB2] at r2;rw [lA] at s1;rw [lB] at s2;have cA:A.length≤cap - at_:=by omega
     have cB:B.length≤cap - p1:=by omega
     have HM0:=hdd (Mrg.start (c:=cmpT) (A:=A) (B:=B) (by rw [hA,hat.out,show 2 * nn * m=nn * (2 * m) by rw [jEg 2 nn,Nat.mul_assoc]];exact zHf hB.out) (by rw [hBq,hat.out,show 2 * nn * m+nn=nn * (2 * m+1) by rw [jEg 2 nn,Nat.mul_assoc,Nat.mul_add,Nat.mul_one]];exact zHf hB.out));have HAB:=hdd (show A ++ B=(X.drop at_).take (2 * nn) by rw [hA,hBq];exact two_blocks X at_ nn);have HOl:=hdd (show O.length=at_ by rw [(hO.out).length_eq,jB3,hXl.out];omega);have HLB:=hdd (show A.length+B.length≤2000000 by omega);clear hp1 hp2 hA hBq hB2 lA lB;generalize cap - at_=cap1 at *
     generalize cap - p1=cap2 at *
     go_wp2
     go_quiet (fail)
     clear i1 i2 i3 m1 m2 s1 s2;have hb:Below wr wr (wr.drewN nq):=⟨rfl,rfl,rfl,jA9 _,fun _ _=>rfl⟩;have own2:=hown.kept (zA6 hb none) (by cases u4.ownBlock <;> simp);have hw2:=(upB hw1 hb);clear hown hw1 hb;generalize wr.drewN nq=W1 at *
     go_wp2
     go_loopw [4,6,7] (fun vo va vb wr=>∃ (M A' B':List Tri3) (a1:Option Addr) (c1:Nat) (a2:Option Addr) (c2:Nat),va=.slice a1 A'.length c1∧vb=.slice a2 B'.length c2∧A'.length≤c1∧B'.length≤c2∧Hid (Mrg cmpT (A ++ B) M A' B')∧RowAt cT 6 W0 a1 A'∧RowAt cT 6 W0 a2 B'∧wr.ownsRow W0.heap.size 56 6 vo (O ++ M).length ((O ++ M).flatMap cT)∧Below W0 W0 wr) (fun _ va vb _=>lenOf va+lenOf vb)
     case atStart=>exact ⟨[],A,B,a1,cap1,a2,cap2,rfl,rfl,cA,cB,HM0,r1,r2,by simpa using own2,hw2⟩
     case round=>
      clear own2 hw2 r1 r2 cA cB;obtain ⟨M,A',B',a1,c1,a2,c2,rfl,rfl,hc1,hc2,HM,ra,rb,own2,hw2⟩:=hrel;have HLe:=hdd (show (O ++ M).length≤1000000 by
       have e1:=HM.out.perm.length_eq;have e2:=congrArg List.length HAB.out;have e3:=HOl.out;have e4:=hXl.out;simp only [jAa,jB3,jBm] at e1 e2 ⊢;omega)
      rcases A' with _ | ⟨x,A'⟩ <;> rcases B' with _ | ⟨y,B'⟩
      ·have HO := hdd (show (O ++ M).Perm (X.take (at_ + 2 * nn)) by
         rw [List.take_add];refine (hO.out).append ?_;rw [←HAB.out];exact HM.out.done)
       have HBl:=hdd (blocks_append hOB.out (HOl.out.trans hat.out) HM.out.m);have e2:wrap64 (2 * (nn:Int))=2 * (nn:Int):=by rw [w64];omega
       have e3:wrap64 ((at_:Int)+2 * (nn:Int))=(at_:Int)+2 * (nn:Int):=by rw [w64];omega
       simp only [jCy];go_wp2
       go_roundw
       case rel=>exact ⟨m+1,at_+2 * nn,O ++ M,by go_num,hdd (by rw [hat.out,Nat.mul_add,Nat.mul_one]),by omega,HO,HBl,own2,hw2⟩
       case measure=>simp [intOf];omega
      ·skip
       have HP:=hdd (HM.out.right wholeT (by simp));simp only [jCy,jAm];obtain ⟨ad2,e2,SB0⟩:=rb.first;have SB:=SB0.ee hw2;obtain ⟨a2',f2,rb',hc2'⟩:=rb.rest hc2;rw [e2] at f2;clear HM rb hc2 SB0;go_wp2;refine rgn 17 (fun w2 hb=>?_);have own3:=own2.kept (zA6 hb none) (by cases u4.ownBlock <;> simp);have hw3:=(upB hw2 hb);have hle:(O ++ M).length≤1000000:=HLe.out;clear own2 hw2;obtain ⟨zA,q0,q1,q2,q3,q4,q5⟩:=(SB.ee hb).f;have HB:=hdd hw3.size;go_wp2_with (at_builtin;refine zBb rfl _ _ rfl W0.heap.size _ (O ++ M) rfl (own3.alloc _) w2.heap.size y rfl (Box.new rfl) hle (by have:=HB.out;simp;omega) ?_;intro w4 v4 hown4 hg4)
       clear zA q0 q1 q2 q3 q4 q5;have hw4:=(hw3.alloc HB.out (.cells (cT y).toArray 56)).grown hg4 (by have:=HB.out;simp;omega) (fun k hk=>((own3.alloc (.cells (cT y).toArray 56)).lt k hk).1)
       go_roundw
       case rel=>exact ⟨M ++ [y],[],B',a1,c1,a2',c2 - 1,(by first | rfl | (rw [e1];rfl) | (rw [e2];rfl)),(by first | rfl | (rw [e1];rfl) | (rw [e2];rfl)),hc1,hc2',HP,ra,rb',by rw [←jAr];exact hown4,hw4⟩
       case measure=>simp [lenOf]
      ·skip
       have HP:=hdd (HM.out.left wholeT (by simp));simp only [jCy,jAm];obtain ⟨ad1,e1,SA0⟩:=ra.first;have SA:=SA0.ee hw2;obtain ⟨a1',f1,ra1',hc1'⟩:=ra.rest hc1;rw [e1] at f1;clear HM ra hc1 SA0;go_wp2;refine rgn 17 (fun w2 hb=>?_);have own3:=own2.kept (zA6 hb none) (by cases u4.ownBlock <;> simp);have hw3:=(upB hw2 hb);have hle:(O ++ M).length≤1000000:=HLe.out;clear own2 hw2;obtain ⟨zA,q0,q1,q2,q3,q4,q5⟩:=(SA.ee hb).f;have HB:=hdd hw3.size;go_wp2_with (at_builtin;refine zBb rfl _ _ rfl W0.heap.size _ (O ++ M) rfl (own3.alloc _) w2.heap.size x rfl (Box.new rfl) hle (by have:=HB.out;simp;omega) ?_;intro w4 v4 hown4 hg4)
       clear zA q0 q1 q2 q3 q4 q5;have hw4:=(hw3.alloc HB.out (.cells (cT x).toArray 56)).grown hg4 (by have:=HB.out;simp;omega) (fun k hk=>((own3.alloc (.cells (cT x).toArray 56)).lt k hk).1)
       go_roundw
       case rel=>exact ⟨M ++ [x],A',[],a1',c1 - 1,a2,c2,(by first | rfl | (rw [e1];rfl) | (rw [e2];rfl)),(by first | rfl | (rw [e1];rfl) | (rw [e2];rfl)),hc1',hc2,HP,ra1',rb,by rw [←jAr];exact hown4,hw4⟩
       case measure=>simp [lenOf]
      ·skip
       simp only [jAm];have cc:=rcmpT_any x y;by_cases hxy:cmpT x y≤0
       ·have HP:=hdd (HM.out.left wholeT (by simpa using hxy));have hd:decide (cmpT x y≤0)=true:=by simpa using hxy
        generalize cmpT x y=n at *
        clear hxy HM;obtain ⟨ad1,e1,SA0⟩:=ra.first;have SA:=SA0.ee hw2;obtain ⟨a1',f1,ra1',hc1'⟩:=ra.rest hc1;rw [e1] at f1;obtain ⟨ad2,e2,SB0⟩:=rb.first;have SB:=SB0.ee hw2;obtain ⟨t0,t1,t2,t3,t4,t5⟩:=SA.cells;obtain ⟨s0,s1,s2,s3,s4,s5⟩:=SB.cells;clear ra hc1 SA0 SB0;go_wp2;refine rgn 17 (fun w2 hb=>?_);have own3:=own2.kept (zA6 hb none) (by cases u4.ownBlock <;> simp);have hw3:=(upB hw2 hb);have hle:(O ++ M).length≤1000000:=HLe.out;clear own2 hw2;clear t0 t1 t2 t3 t4 t5 s0 s1 s2 s3 s4 s5;obtain ⟨zA,q0,q1,q2,q3,q4,q5⟩:=(SA.ee hb).f;have HB:=hdd hw3.size;go_wp2_with (at_builtin;refine zBb rfl _ _ rfl W0.heap.size _ (O ++ M) rfl (own3.alloc _) w2.heap.size x rfl (Box.new rfl) hle (by have:=HB.out;simp;omega) ?_;intro w4 v4 hown4 hg4)
        clear zA q0 q1 q2 q3 q4 q5;have hw4:=(hw3.alloc HB.out (.cells (cT x).toArray 56)).grown hg4 (by have:=HB.out;simp;omega) (fun k hk=>((own3.alloc (.cells (cT x).toArray 56)).lt k hk).1)
        go_roundw
        case rel=>exact ⟨M ++ [x],A',y :: B',a1',c1 - 1,a2,c2,(by first | rfl | (rw [e1];rfl) | (rw [e2];rfl)),(by first | rfl | (rw [e1];rfl) | (rw [e2];rfl)),hc1',hc2,HP,ra1',rb,by rw [←jAr];exact hown4,hw4⟩
        case measure=>simp [lenOf]
       ·have HP:=hdd (HM.out.right wholeT (by have:=zN8 x y;simp;omega));have hd:decide (cmpT x y≤0)=false:=by simpa using hxy
        generalize cmpT x y=n at *
        clear hxy HM;obtain ⟨ad1,e1,SA0⟩:=ra.first;have SA:=SA0.ee hw2;obtain ⟨ad2,e2,SB0⟩:=rb.first;have SB:=SB0.ee hw2;obtain ⟨a2',f2,rb',hc2'⟩:=rb.rest hc2;rw [e2] at f2;obtain ⟨t0,t1,t2,t3,t4,t5⟩:=SA.cells;obtain ⟨s0,s1,s2,s3,s4,s5⟩:=SB.cells;clear rb hc2 SA0 SB0;go_wp2;refine rgn 17 (fun w2 hb=>?_);have own3:=own2.kept (zA6 hb none) (by cases u4.ownBlock <;> simp);have hw3:=(upB hw2 hb);have hle:(O ++ M).length≤1000000:=HLe.out;clear own2 hw2;clear t0 t1 t2 t3 t4 t5 s0 s1 s2 s3 s4 s5;obtain ⟨zA,q0,q1,q2,q3,q4,q5⟩:=(SB.ee hb).f;have HB:=hdd hw3.size;go_wp2_with (at_builtin;refine zBb rfl _ _ rfl W0.heap.size _ (O ++ M) rfl (own3.alloc _) w2.heap.size y rfl (Box.new rfl) hle (by have:=HB.out;simp;omega) ?_;intro w4 v4 hown4 hg4)
        clear zA q0 q1 q2 q3 q4 q5;have hw4:=(hw3.alloc HB.out (.cells (cT y).toArray 56)).grown hg4 (by have:=HB.out;simp;omega) (fun k hk=>((own3.alloc (.cells (cT y).toArray 56)).lt k hk).1)
        go_roundw
        case rel=>exact ⟨M ++ [y],x :: A',B',a1,c1,a2',c2 - 1,(by first | rfl | (rw [e1];rfl) | (rw [e2];rfl)),(by first | rfl | (rw [e1];rfl) | (rw [e2];rfl)),hc1,hc2',HP,ra,rb',by rw [←jAr];exact hown4,hw4⟩
        case measure=>simp [lenOf]
theorem zCj (a0:Option Addr) (c0 N:Nat) (L:List Tri3) (hL:Hid (L.length=N)) (hN:N≤1000000) (hc0:N≤c0) (w:World) (h0:RowAt cT 6 w a0 L):Calls prog 52 #[.slice a0 N c0] w fun e w'=>∃ a cap,e=.returned (.slice a N cap)∧RowAt cT 6 w' a (srt cmpT L)∧Below w w w':=
 (zG4 a0 c0 N L hL hN hc0 w h0).mono fun _ _ h=>by
  obtain ⟨a,cap,h1,_,h2⟩:=h;exact ⟨a,cap,h1,h2⟩
def yes:Tri3→Bool:=fun _=>true
theorem rtris_cap (mb b:Nat) (E:Es) (hE:E.length≤1000000) (w:World) (Bm:Box w mb [.map (some b)] 90) (Hm:HoldsMap eW eT okW w b E):Calls prog 19 #[pt0 mb] w fun e w'=>∃ a cap,e=.returned (.slice a (srt cmpT (heads (fun _=>true) E)).length cap)∧(srt cmpT (heads (fun _=>true) E)).length≤cap∧RowAt cT 6 w' a (srt cmpT (heads (fun _=>true) E))∧Below w w w':=by
 show Calls prog 19 #[pt0 mb] w fun e w'=>∃ a cap,e=.returned (.slice a (srt cmpT (heads yes E)).length cap)∧(srt cmpT (heads yes E)).length≤cap∧RowAt cT 6 w' a (srt cmpT (heads yes E))∧Below w w w';have Fm:=Bm.f
 go_enter func19,ntmps19
 go_wp2_with (at_range;refine zB1 _ rfl _ rfl kvR rfl Hm ?_)
 intro w0 HR0 hw0 _;clear Fm;go_wp2
 go_loopw [3] (fun v wr=>∃ D R:Es,Hid ((D ++ R).Perm E)∧wr.ownsRow w.heap.size 56 6 v (heads yes D).length ((heads yes D).flatMap cT)∧Ranging eW eT okW wr b w.heap.size E R∧Below w w wr) (fun _ wr=>wr.rangeLeft b w.heap.size)
 case atStart=>exact ⟨[],E,hdd (by simp),World.ownsRow_nil _ _ _ _,HR0,hw0⟩
 case round=>
  clear HR0 hw0;obtain ⟨D,R,hD,hown,HR,hw⟩:=hrel;go_wp2_with (at_next;refine zB8 _ rfl _ rfl rfl HR ?_ ?_)
  ·intro hR;subst hR;have hp0:(heads yes D).Perm (heads yes E):=zCl (by simpa using hD.out);have hle:(heads yes D).length≤1000000:=by have:=hp0.length_eq;have:=heads_len yes E;omega
   have HS:=hdd (wholeT.srt_of_perm hp0);obtain ⟨a1,c1,rfl,hc1,hr1⟩:=zAt zIc hown;have hlen:=hdd (show (heads yes D).length=(srt cmpT (heads yes E)).length by rw [←HS.out];exact (srt_perm _).length_eq.symm);go_wp2_with fail;refine (zG4 _ _ _ _ (hdd rfl) hle hc1 _ hr1).mono ?_;rintro e w2 ⟨a,cap,rfl,hcc,hr,hb⟩;go_wp2
   go_ret
   rw [HS.out] at hr;exact ⟨a,cap,by rw [hlen.out];rfl,hlen.out▸hcc,hr,(upB hw hb)⟩
  ·intro u x T R' w1 hperm HR1 hg1 hs1 hen;have hD2:=hdd (show ((D ++ [((u,x),T)]) ++ R').Perm E by have:=(hperm.append_left D).symm.trans hD.out;simpa using this);have own1:=hown.kept hg1 (.inr (fun e=>zAr hown HR e.symm));have hw1:=hw.grown hg1 hw.size (fun k hk=>by cases hk;exact jA9 _);have HL:=hdd (show w1.rangeLeft b w.heap.size < wr.rangeLeft b w.heap.size by rw [zAc HR1,zAc HR,hperm.length_eq];simp);have hen2:(Instr.entry (.pointer (some ⟨w,0,none⟩))).run prog w1=.ok (.tuple #[.agg #[u.x,u.y,x.x,x.y],T]) w1:=hen;have hle:(heads yes D).length≤1000000:=by have:=hD2.out.length_eq;have:=heads_len yes D;simp at *;omega
   clear hown HR hg1 hs1 hen hperm hw;have hnx:Hid (∀ W:World,Below w1 w1 W→(W.rangeLeft b w.heap.size < wr.rangeLeft b w.heap.size)):=hdd (fun W hW=>by
    rw [zAc (HR1.ee hW),←zAc HR1];exact HL.out)
   by_cases hA:u=T.A
   ·have hd:peqI u.x u.y T.A.x T.A.y=true:=zBe.2 hA;have HH:=hdd (show heads yes (D ++ [((u,x),T)])=heads yes D ++ [T] by rw [zAs,zFq hA rfl]);have HB:=hdd hw1.size;have hb3:Below w1 w1 ((w1.alloc (.cells #[u.x,u.y,x.x,x.y] 92)).alloc (.cells (cT T).toArray 56)):=by go_grown
    have own3:=(own1.alloc (.cells #[u.x,u.y,x.x,x.y] 92)).alloc (.cells (cT T).toArray 56);have HO3:=hdd own3;clear hA;go_wp2_with (at_builtin;refine zBb rfl _ _ rfl w.heap.size _ (heads yes D) rfl (own3.alloc _) (w1.heap.size+1+1) T rfl (Box.new (by simp)) hle (by have:=HB.out;simp;omega) ?_;intro w4 v4 hown4 hg4)
    have hR3:=(HR1.ee hb3).kept (World.grownBy_alloc _ (.cells (cT T).toArray 56) none) (by simp) (by simp);have hR4:=hR3.kept hg4 (zB5 (own3.alloc _) hR3.holds) (zAr (own3.alloc _) hR3);have hw4:=((((upB hw1 hb3)).alloc (by have:=HB.out;simp;omega) (.cells (cT T).toArray 56))).grown hg4 (by have:=HB.out;simp;omega) (fun k hk=>((own3.alloc (.cells (cT T).toArray 56)).lt k hk).1)
    go_roundw
    case rel=>exact ⟨D ++ [((u,x),T)],R',hD2,by rw [HH.out];exact hown4,hR4,hw4⟩
    case measure=>rw [zAc hR4,←zAc HR1];exact HL.out
   ·have hd:peqI u.x u.y T.A.x T.A.y=false:=by rw [←jBl,zBe];exact hA
    have HH:=hdd (show heads yes (D ++ [((u,x),T)])=heads yes D by rw [zAs,zE4 (by simp [hA])];simp);clear hA;go_wp2
    go_roundw
    case rel=>exact ⟨D ++ [((u,x),T)],R',hD2,by rw [HH.out];exact (own1.alloc _).alloc _,HR1.ext (by go_grown) rfl,by have:=hw1.size;go_grown⟩
    case measure=>exact hnx.out _ (by go_grown)
theorem rtris_any (mb b:Nat) (E:Es) (hE:E.length≤1000000) (w:World) (Bm:Box w mb [.map (some b)] 90) (Hm:HoldsMap eW eT okW w b E):Calls prog 19 #[pt0 mb] w fun e w'=>∃ a cap,e=.returned (.slice a (srt cmpT (heads (fun _=>true) E)).length cap)∧RowAt cT 6 w' a (srt cmpT (heads (fun _=>true) E))∧Below w w w':=
 (rtris_cap mb b E hE w Bm Hm).mono fun _ _ h=>by
  obtain ⟨a,cap,h1,_,h2⟩:=h;exact ⟨a,cap,h1,h2⟩
end
end Go.Proofs.YtogffkimgmlilaaGreat
