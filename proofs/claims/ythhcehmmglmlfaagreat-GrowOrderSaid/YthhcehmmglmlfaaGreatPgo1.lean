import Derived.Test.YthhcehmmglmlfaaGreatPgo0
import Derived.Laws.MathBits
import Derived.LoopTactic
set_option maxRecDepth 100000
set_option maxHeartbeats 8000000
set_option linter.all false
namespace Go.Proofs.YthhcehmmglmlfaaGreat
open _root_.Go.Proofs.Tryz
section
open Go.RowKit Go.Sort
section
variable {P:Program} {ops:Array Oper} {md:Region.Mode} {C:World->Prop}
theorem Zl {n g : Nat} {Q : Exit -> Act -> World -> Prop} {L : Array Bool -> Act -> Prop} {D : World -> Prop} (hD : ∀ w, D w -> C w) (hDe : ∀ w w', D w -> Ext w w' -> D w')
    (hL:∀ listed a w,D w->L listed a->wpAny P md ops Q g listed a w) :
    ∀ (f:Nat) (listed:Array Bool) (a:Act) (w:World),D w->rAny P md ops C n L f listed a->wpAny P md ops Q (f+g) listed a w
 | 0,listed,a,w,hw,h=>by rw [QJ];exact hL _ _ _ hw h
 | f+1,listed,a,w,hw,h=>by
  rw [show f+1+g=(f+g)+1 by omega];refine ⟨λh0=>absurd h0 h.1,λi hi=>?_⟩;obtain ⟨hin,o,v,ho,hy,hK⟩:=h.2 i hi;refine yA ho (hD w hw) hy λw' hw'=>?_;exact Zl hD hDe hL f _ _ w' (hDe _ _ hw hw') hK
def slipB (md:Region.Mode) (ops:Array Oper) (g:Nat):Nat->Nat->Array Bool->Bool
 | 0,k,listed=>Region.seqB md ops g k listed
 | s+1,k,listed=>(Region.ready md ops listed).contains k && Region.free md ops listed k && slipB md ops g s (k+1) (listed.setIfInBounds k true)
def slipWalk (P:Program) (ops:Array Oper) (K:Act->Prop):List Oper->Act->Prop
 | [],a=>K a
 | o :: r,a=>∃ v,Yields P ops o v a/\slipWalk P ops K r (a.put o.dst v)
theorem Yg {g : Nat} {Q : Exit -> Act -> World -> Prop} {w : World} {l : List Oper} (hs : Region.noSelect ops = true) (hQ : ∀ d v c a w, Q (.panic c) (Act.put a d v) w -> Q (.panic c) a w) (hg : l.length = g) :
    ∀ (r:List Oper) (k:Nat) (listed:Array Bool) (a:Act),(∀ j,(r ++ l)[j]? = ops[k+j]?)->slipB md ops g r.length k listed=true->slipWalk P ops (λa=>wpList P ops Q l a w) r a->wpAny P md ops Q (r.length+g) listed a w
 | [],k,listed,a,hl,hB,h=>by
  subst hg;rw [Qs,QJ];exact wpAny_of_seq l k listed a w (by simpa using hl) hB h
 | o :: r,k,listed,a,hl,hB,h=>by
  have h0:ops[k]? = some o:=by simpa using (hl 0).symm
  simp only [JW,slipB,JB] at hB;obtain ⟨⟨hr,hf⟩,hB'⟩:=hB;obtain ⟨v,hy,hK⟩:=h;rw [JW,show r.length+1+g=(r.length+g)+1 by omega];exact wpAny_take h0 hs hf hr (λc a w=>hQ _ _ c a w) hy (Yg hs hQ hg r (k+1) _ _ (λj=>by have:=hl (j+1);simpa [Nat.add_assoc,Nat.add_comm 1 j] using this) hB' hK)
def chainsB (md:Region.Mode) (ops:Array Oper) (n:Nat):Bool:=
 (List.range ops.size).all λt=>decide (t<=n) || (List.range t).any λs=>decide (n<=s) && Region.waitsFor md ops t s
theorem tail_waits' {m:Nat} {listed:Array Bool} (hs:Region.sinkB md ops m) (hc:chainsB md ops m) (inv:HeadInv md ops (m+1) listed) (hm:m < ops.size):∀ (i:Nat),i < m+1->listed.getD i true=false->∀ t,m+1<=t->t ∉ Region.ready md ops listed:=by
 have low:∀ (d i:Nat),m - i=d->i<=m->listed.getD i true=false->listed.getD m true=false:=by
  intro d;induction d using Nat.strongRecOn with
  | _ d ih=>
   intro i hd hi hun;by_cases him:i=m
   ·rw [<-him];exact hun
   ·have h1:=Qg.1 hs i (Q7.2 (by omega));obtain ⟨j,hj,hj2⟩:=Vt.1 h1;simp only [JB,JA] at hj2;obtain ⟨oj,hoj,e,he,hb,hon⟩:=Region.waitsFor_spec hj2.2;have hjle:j<=m:=by have:=Q7.1 hj;omega
    cases hl:listed.getD j false with
    | true=>
     have h2:=inv.closed j oj hoj hl e he hb;rw [hon,getD_both hun] at h2;cases h2
    | false=>exact ih (m - j) (by omega) j rfl hjle (getD_in (by rw [inv.size];omega) hl)
 intro i hi hun t ht hr;have hmun:=low (m - i) i rfl (by omega) hun;obtain ⟨_,ot,hot,hall⟩:=mem_ready.1 hr;have htlt:t < ops.size:=(Q8.1 hot).1;have h1:=Qg.1 hc t (Q7.2 htlt);simp only [V0,JA] at h1;rcases h1 with h1 | h1
 ·omega
 ·obtain ⟨s,hs1,hs2⟩:=Vt.1 h1;simp only [JB,JA] at hs2;obtain ⟨o',ho',e,he,hb,hon⟩:=Region.waitsFor_spec hs2.2;have:o'=ot:=JU (ho'.symm.trans hot);subst this;have h2:=hall e he hb;have hst:=Q7.1 hs1;by_cases hsm:s=m
  ·subst hsm;rw [hon,getD_both hmun] at h2;cases h2
  ·rw [hon,getD_both (inv.tail s (by omega) (by omega))] at h2;cases h2
def orderG (md:Region.Mode) (ops:Array Oper) (n:Nat) (S:Array Bool->Bool):List Nat->Array Bool->Bool
 | [],listed=>S listed
 | k :: is,listed=>decide (k < n) && (Region.ready md ops listed).contains k && Region.free md ops listed k && orderG md ops n S is (listed.setIfInBounds k true)
theorem vI {n : Nat} {Lq : Act -> Prop} {S : Array Bool -> Bool} (hsel : Region.noSelect ops = true) (Inv : Array Bool -> Prop)
    (hinv:∀ listed j,Inv listed->j∈Region.ready md ops listed->j < n->Inv (listed.setIfInBounds j true)) (htail:∀ listed,Inv listed->TailWaits md ops n listed)
    (hS:∀ listed,S listed=true->∀ j∈Region.ready md ops listed,n<=j) :
    ∀ (is:List Nat) (l:List Oper) (listed:Array Bool) (a:Act),is.map (λi=>ops[i]?)=l.map some->Inv listed->orderG md ops n S is listed=true->rWalk P ops C Lq l a ->
     rAny P md ops C n (λlisted' a'=>S listed'=true/\Lq a') is.length listed a
 | [],[],listed,a,_,_,hB,h=>⟨hB,h⟩
 | [],_ :: _,_,_,hl,_,_,_=>by cases hl
 | _ :: _,[],_,_,hl,_,_,_=>by cases hl
 | k :: is,o :: l,listed,a,hl,inv,hB,h=>by
  simp only [Jm,Vb] at hl;obtain ⟨h0,hl⟩:=hl;simp only [orderG,JB,JA] at hB;obtain ⟨⟨⟨hkn,hr⟩,hf⟩,hB'⟩:=hB;have hr':k∈Region.ready md ops listed:=by simpa using hr
  obtain ⟨v,hy,hK⟩:=rYields.of_walk h;exact kC h0 (Region.noSelect_spec hsel) hkn Inv hinv htail (λlisted' a' hL=>hS _ hL.1) is.length listed a inv (Region.free_spec h0 hf) hr' hy
   (vI hsel Inv hinv htail hS is l _ _ hl (hinv _ _ inv hr' hkn) hB' hK)
theorem headDone_ready {n:Nat} {listed:Array Bool} (h:((List.range n).all λi=>listed.getD i false)=true):∀ j∈Region.ready md ops listed,n<=j:=by
 intro j hj;rcases Qb j n with hl | hl
 ·have h1:=Qg.1 h j (Q7.2 hl);have h2:=(mem_ready.1 hj).1;rw [getD_both h2] at h1;cases h1
 ·exact hl
theorem wp_region_slip {id:Nat} {Q:Exit->Act->World->Prop} {a:Act} {w:World} {l:List Oper} (n s:Nat) (hm:P.follows .mixedOrders) (hB:(Region.noSelect l.toArray && decide (n+1+s < l.toArray.size) && Region.sinkB .any l.toArray n && chainsB .any l.toArray n && orderG .any l.toArray (n+1) (λlisted=>(List.range (n+1)).all (λi=>listed.getD i false) && slipB .any l.toArray (l.toArray.size - (n+1) - s) s (n+1) listed) (List.range (n+1)) (Array.replicate l.toArray.size false))=true) (hQ:∀ d v c a w,Q (.panic c) (Act.put a d v) w->Q (.panic c) a w) (hC:∀ w',Below w w w'->C w') (h:rWalk P l.toArray C (λa'=>∀ w',Below w w w'->slipWalk P l.toArray (λa2=>wpList P l.toArray Q (l.drop (n+1+s)) a2 w') ((l.drop (n+1)).take s) a') (l.take (n+1)) a):(Code.region id l.toArray true).wp P Q a w:=by
 simp only [JB,JA] at hB;obtain ⟨⟨⟨⟨hsel,hn⟩,hs⟩,hc⟩,ho⟩:=hB;have hn':n+1+s < l.length:=by simpa using hn
 have hmap:(List.range (n+1)).map (λi=>l.toArray[i]?)=(l.take (n+1)).map some:=by
  apply VI;intro j;simp only [VJ,QX];by_cases hj:j < n+1
  ·simp [hj,show j < l.length by omega]
  ·simp [hj]
 have H:=vI (md:=.any) (C:=C) hsel (HeadInv .any l.toArray (n+1)) (λlisted j inv hj hjn=>inv.set hj hjn) (λlisted inv i hi hun=>tail_waits' hs hc inv (by omega) i hi hun)
  (λlisted hS=>headDone_ready (by simp only [JB] at hS;exact hS.1)) (List.range (n+1)) (l.take (n+1)) _ a hmap headInv0 ho h
 refine wp_region_any hm ?_;have:=Zl (md:=.any) (Q:=Q) (g:=s+(l.toArray.size - (n+1) - s)) (D:=λw'=>Below w w w') hC (λa b ha hb=>Ext.trans (a:=w) ha hb)
  (λlisted a' w' hw' hL=>by
   obtain ⟨h1,h2⟩:=hL;simp only [JB] at h1;have e:((l.drop (n+1)).take s).length=s:=by simp;omega
   have:=Yg (md:=.any) (Q:=Q) (l:=l.drop (n+1+s)) (g:=l.toArray.size - (n+1) - s) hsel hQ (by simp;omega) ((l.drop (n+1)).take s) (n+1) listed a' (λj=>by
    rw [show (l.drop (n+1)).take s ++ l.drop (n+1+s)=l.drop (n+1) by rw [show l.drop (n+1+s)=(l.drop (n+1)).drop s by rw [UO]];exact Jj s _];simp [Qr]) (by rw [e];exact h1.2) (h2 w' hw')
   rw [e] at this;exact this) _ _ _ { w with drawn:=w.drawn+1 } ⟨rfl,rfl,rfl,JJ _,λ_ _=>rfl⟩ H
 rw [Vc,show n+1+(s+(l.toArray.size - (n+1) - s))=l.toArray.size by omega] at this;exact this
end
attribute [local go_sem] rOper rAt rUpon cell_set
theorem ext_add (x y:Int) (hx:0<=x) (hy:0<=y) (w:World):(callFunc 185 #[.int .u64 x,.int .u64 y,.int .u64 0]).run prog w=.ok (.value (.tuple #[.int .u64 (lo x y),.int .u64 (cy x y)])) w:=by
 rw [run_callFunc_extern (e:=add64Entry) func185 (by kernel_rfl) (by kernel_rfl) (by kernel_rfl) (by kernel_rfl),run_add64 x y 0 hx hy (by omega) (by omega)];simp [lo,cy,Result.andThen]
theorem Kk (h1 l1 h2 l2:Int) (k:Ok h1 l1) (q:Ok h2 l2) (w:World):Calls prog 182 #[.agg #[h1,.int .u64 l1],.agg #[h2,.int .u64 l2]] w λe w'=>e=.returned (.tuple #[.agg #[.int .i64 (cH (V h1 l1+V h2 l2)),.int .u64 (cL (V h1 l1+V h2 l2))],.bool (fits (V h1 l1+V h2 l2))])/\Below w w w':=by
 have hx:=ext_add l1 l2 k.l0 q.l0;obtain ⟨c0,c1⟩:=cy_01 k.l0 k.l1 q.l0 q.l1
 go_enter func182,ntmps182
 go_wp2;all_goals go_returns
 ·rename_i a b
  obtain ⟨e1,e2⟩:=c_not (Xu k q a (by simpa using b));refine ⟨?_,by go_grown⟩;rw [e1,e2,Xu k q a (by simpa using b)]
 ·rename_i a b
  obtain ⟨e0,e1,e2⟩:=add_in k q (λ_=>by simpa using b);refine ⟨?_,by go_grown⟩;rw [e0,e1,e2]
 ·rename_i a
  obtain ⟨e0,e1,e2⟩:=add_in k q (λb=>absurd b a);refine ⟨?_,by go_grown⟩;rw [e0,e1,e2]
theorem cmp_i64 (a b:Int) (w:World):Calls prog 187 #[a,b] w λe w'=>e=.returned (.int .i64 (sgn (a - b)))/\w=w':=by
 go_enter func187,ntmps187
 go_wp2;all_goals go_ret
 ·exact ⟨zi (by unfold sgn;rw [JH (by omega)]),rfl⟩
 ·exact ⟨zi (by unfold sgn;rw [J0 (by omega),JH (by omega)]),rfl⟩
 ·exact ⟨zi (by unfold sgn;rw [J0 (by omega),J0 (by omega)]),rfl⟩
theorem cmp_u64 (a b:Int) (w:World):Calls prog 188 #[.int .u64 a,.int .u64 b] w λe w'=>e=.returned (.int .i64 (sgn (a - b)))/\w=w':=by
 go_enter func188,ntmps188
 go_wp2;all_goals go_ret
 ·exact ⟨zi (by unfold sgn;rw [JH (by omega)]),rfl⟩
 ·exact ⟨zi (by unfold sgn;rw [J0 (by omega),JH (by omega)]),rfl⟩
 ·exact ⟨zi (by unfold sgn;rw [J0 (by omega),J0 (by omega)]),rfl⟩
theorem cmp_any (h1 l1 h2 l2:Int) (k:Ok h1 l1) (q:Ok h2 l2) (w:World):Calls prog 186 #[.agg #[h1,.int .u64 l1],.agg #[h2,.int .u64 l2]] w (Rt w (.int .i64 (sgn (V h1 l1 - V h2 l2)))):=by
 have ea:¬ h1=h2->sgn (h1 - h2)=sgn (V h1 l1 - V h2 l2):=λc=>by
  obtain ⟨a1,a2,a3,a4⟩:=k;obtain ⟨b1,b2,b3,b4⟩:=q;unfold sgn V;split <;> split <;> (first | rfl | omega | (split <;> first | rfl | omega | (split <;> first | rfl | omega)))
 have eb:h1=h2->sgn (l1 - l2)=sgn (V h1 l1 - V h2 l2):=λc=>by
  have:V h1 l1 - V h2 l2=l1 - l2:=by unfold V;omega
  rw [this]
 have EA:=hdd ea;have EB:=hdd eb;clear ea eb
 go_enter func186,ntmps186
 by_cases c:h1=h2
 ·have cc:(h1 != h2)=false:=by simp [c]
  go_wp2_with (first | (go_at_call 188;refine (cmp_u64 _ _ _).mono ?_;rintro e w' ⟨rfl,rfl⟩))
  go_returns
  exact ⟨zi (EB.o c),by go_grown⟩
 ·have cc:(h1 != h2)=true:=by simp [c]
  go_wp2_with (first | (go_at_call 187;refine (cmp_i64 _ _ _).mono ?_;rintro e w' ⟨rfl,rfl⟩))
  go_returns
  exact ⟨zi (EA.o c),by go_grown⟩
attribute [local go_sem] sg_i64 sg_u64
theorem sign_any (h l:Int) (k:Ok h l) (w:World):Calls prog 183 #[.agg #[h,.int .u64 l]] w (Rt w (.int .i64 (sgn (V h l)))):=by
 have c:=cmp_any h l 0 0 k ⟨by omega,by omega,by omega,by omega⟩;rw [show V h l - V 0 0=V h l by unfold V;omega] at c
 go_enter func183,ntmps183
 go_wp2_with fail;refine (c _).mono ?_;rintro e w1 ⟨rfl,hb⟩;simp only [World.size_alloc] at hb;go_wp2
 go_ret
 exact ⟨rfl,((Below.refl _ _).alloc (JJ _) _).trans (hb.mono (by omega))⟩
theorem kg (h1 l1 h2 l2:Int) (k:Ok h1 l1) (q:Ok h2 l2) (w:World):Calls prog 165 #[.agg #[h1,.int .u64 l1],.agg #[h2,.int .u64 l2]] w λe w'=>e=.returned (.agg #[.int .i64 (mH (V h1 l1+V h2 l2)),.int .u64 (mL (V h1 l1+V h2 l2))])/\Below w w w':=by
 obtain ⟨e1,e2⟩:=m_sum k q;obtain ⟨c1,c2⟩:=lo_lt k.l0 k.l1 q.l0 q.l1;have e3:lo l1 l2=IntKind.u64.wrap (l1+l2):=by rw [IntKind.wrap_u64];rfl
 rw [e1,e2,e3];rw [e3] at c1 c2;clear e1 e2 e3
 go_enter func165,ntmps165
 go_wp2;all_goals go_returns
 ·rename_i h
  exact ⟨by rw [c1 h],by go_grown⟩
 ·rename_i h
  exact ⟨by rw [c2 h,VA],by go_grown⟩
theorem K3 (h l:Int) (k:Ok h l) (w:World):Calls prog 166 #[.agg #[h,.int .u64 l]] w λe w'=>e=.returned (.agg #[.int .i64 (mH (-V h l)),.int .u64 (mL (-V h l))])/\Below w w w':=by
 have x1:=xor_i64 h k.h0 k.h1;have x2:=xor_u64 l k.l0 k.l1;have c:=kg (-1 - h) (18446744073709551615 - l) 0 1 ⟨by have:=k.h0;have:=k.h1;omega,by have:=k.h0;have:=k.h1;omega,by have:=k.l0;have:=k.l1;omega,by have:=k.l0;have:=k.l1;omega⟩ ⟨by omega,by omega,by omega,by omega⟩;rw [show V (-1 - h) (18446744073709551615 - l)+V 0 1 = -V h l by unfold V;omega] at c
 go_enter func166,ntmps166
 go_wp2_with fail;refine (c _).mono ?_;rintro e w1 ⟨rfl,hb⟩;simp only [World.size_alloc] at hb;obtain ⟨hc,hf,hz,hy,hv⟩:=bcell hb (by simp only [World.size_alloc]);go_wp2;refine bodyPost_ret (by simp [results,results166,go_sem,hc];try rfl) rfl ⟨rfl,?_⟩;exact ((((Below.refl _ _).alloc (JJ _) _).alloc (by simp) _).trans (hb.mono (by omega))).setCell (by simp) _ |>.setCell (by simp) _
attribute [local go_sem] alloc_cell alloc_frozen
theorem sgn_mk {n m:Int} (h:m = -1/\n < 0\/m=0/\n=0\/m=1/\0 < n):m=sgn n:=by
 unfold sgn;split
 ·omega
 ·split <;> omega
theorem r_sign (h l:Int) (k:Ok h l) (w:World):Calls prog 167 #[.agg #[h,.int .u64 l]] w (Rt w (.int .i64 (sgn (V h l)))):=by
 have K:=hdd k;clear k
 go_enter func167,ntmps167
 go_wp2;all_goals go_ret
 all_goals refine ⟨zi (sgn_mk ?_),by go_grown⟩
 all_goals obtain ⟨a1,a2,a3,a4⟩:=K.o
 all_goals unfold V
 ·rename_i a;omega
 ·rename_i a b c;simp at c;omega
 ·rename_i a b c;simp at c;omega
 ·omega
theorem ret_two {k k':IntKind} {a b c d:Int} (h:a=c) (h2:b=d):Ending.returned (.tuple #[.int k a,.int k' b])=.returned (.tuple #[.int k c,.int k' d]):=by rw [h,h2]
theorem mul64_any (x y:Int) (x0:0<=x) (x1:x<=18446744073709551615) (y0:0<=y) (y1:y<=18446744073709551615) (w:World):Calls prog 184 #[.int .u64 x,.int .u64 y] w λe w'=>e=.returned (.tuple #[.int .u64 (x * y / 18446744073709551616),.int .u64 (x * y % 18446744073709551616)])/\w=w':=by
 have E:=hdd (mul64_arith x y x0 (by omega) y0 (by omega));have al:∀ z:Int,bits .and .u64 (z % 18446744073709551616) 4294967295=z % 18446744073709551616 % 4294967296:=λz=>and_low32 _ (by omega) (by omega);have A:=hdd al;have ax:=hdd (and_low32 x x0 (by omega));have ay:=hdd (and_low32 y y0 (by omega));clear al
 go_enter func184,ntmps184
 go_wp2
 go_ret2
 refine ⟨ret_two ?_ (by rw [IntKind.wrap_u64]),rfl⟩;simp only [ax.o,ay.o,A.o,IntKind.wrap_u64];exact E.o
theorem Yy (a b:Int) (a0 : -9223372036854775808<=a) (a1:a<=9223372036854775807) (b0 : -9223372036854775808<=b) (b1:b<=9223372036854775807) (w:World):Calls prog 180 #[a,b] w λe w'=>e=.returned (.agg #[.int .i64 (cH (a * b)),.int .u64 (cL (a * b))])/\Below w w w':=by
 have c:=mul64_any (IntKind.u64.wrap a) (IntKind.u64.wrap b) (by rw [IntKind.wrap_u64];omega) (by rw [IntKind.wrap_u64];omega) (by rw [IntKind.wrap_u64];omega) (by rw [IntKind.wrap_u64];omega);obtain ⟨e0,e1,e2,e3,e4⟩:=mul_words a b a0 a1 b0 b1;rcases VH a 0 with ha | ha <;> rcases VH b 0 with hb | hb
 ·rw [e0,e4 ha hb];clear e0 e1 e2 e3 e4
  go_enter func180,ntmps180
  go_wp2_with (first | (go_at_call 184;refine (c _).mono ?_;rintro e w' ⟨rfl,rfl⟩))
  go_returns
  exact ⟨rfl,by go_grown⟩
 ·rw [e0,e2 ha hb];have eb:IntKind.u64.wrap b=b:=by rw [IntKind.wrap_u64];omega
  rw [eb] at c ⊢;clear e0 e1 e2 e3 e4 eb
  go_enter func180,ntmps180
  go_wp2_with (first | (go_at_call 184;refine (c _).mono ?_;rintro e w' ⟨rfl,rfl⟩))
  go_returns
  exact ⟨rfl,by go_grown⟩
 ·rw [e0,e3 ha hb];have ea:IntKind.u64.wrap a=a:=by rw [IntKind.wrap_u64];omega
  rw [ea] at c ⊢;clear e0 e1 e2 e3 e4 ea
  go_enter func180,ntmps180
  go_wp2_with (first | (go_at_call 184;refine (c _).mono ?_;rintro e w' ⟨rfl,rfl⟩))
  go_returns
  exact ⟨rfl,by go_grown⟩
 ·rw [e0,e1 ha hb];have ea:IntKind.u64.wrap a=a:=by rw [IntKind.wrap_u64];omega
  rw [ea] at c ⊢;have eb:IntKind.u64.wrap b=b:=by rw [IntKind.wrap_u64];omega
  rw [eb] at c ⊢;clear e0 e1 e2 e3 e4 ea eb
  go_enter func180,ntmps180
  go_wp2_with (first | (go_at_call 184;refine (c _).mono ?_;rintro e w' ⟨rfl,rfl⟩))
  go_returns
  exact ⟨rfl,by go_grown⟩
theorem mm_two {a b c n:Int} (h:a+b+c=n):mH (V (mH (a+b)) (mL (a+b))+c)=mH n/\mL (V (mH (a+b)) (mL (a+b))+c)=mL n:=by
 obtain ⟨k,hk⟩:=V_m (a+b);exact m_cong k (by omega)
theorem mm_neg {a b c n:Int} (h:a+b+c=n):mH (-V (mH (V (mH (a+b)) (mL (a+b))+c)) (mL (V (mH (a+b)) (mL (a+b))+c)))=mH (-n)/\mL (-V (mH (V (mH (a+b)) (mL (a+b))+c)) (mL (V (mH (a+b)) (mL (a+b))+c)))=mL (-n):=by
 obtain ⟨k,hk⟩:=V_m (a+b);obtain ⟨j,hj⟩:=V_m (V (mH (a+b)) (mL (a+b))+c);exact m_cong (-j - k) (by omega)
theorem r_mul (a b:Int) (a0 : -9223372036854775808<=a) (a1:a<=9223372036854775807) (b0 : -9223372036854775808<=b) (b1:b<=9223372036854775807) (w:World):Calls prog 164 #[a,b] w λe w'=>e=.returned (.agg #[.int .i64 (cH (a * b)),.int .u64 (cL (a * b))])/\Below w w w':=by
 obtain ⟨m1,m2⟩:=m_c (XU a b a0 a1 b0 b1);rcases VH a 0 with ha | ha <;> rcases VH b 0 with hb | hb
 ·rw [<-m1,<-m2];obtain ⟨X,hX⟩:∃ X,IntKind.u64.wrap (-IntKind.u64.wrap a)=X:=⟨_,rfl⟩;have eX:X = -a:=by rw [<-hX,IntKind.wrap_u64,IntKind.wrap_u64];omega
  obtain ⟨Y,hY⟩:∃ Y,IntKind.u64.wrap (-IntKind.u64.wrap b)=Y:=⟨_,rfl⟩;have eY:Y = -b:=by rw [<-hY,IntKind.wrap_u64,IntKind.wrap_u64];omega
  have x0:0<=X:=by omega
  have x1:X<=9223372036854775808:=by omega
  have y0:0<=Y:=by omega
  have y1:Y<=9223372036854775808:=by omega
  have hx:bits .and .u64 X 4294967295=X % 4294967296:=and_low32 X x0 (by omega);have hy:bits .and .u64 Y 4294967295=Y % 4294967296:=and_low32 Y y0 (by omega);have HH:=hdd (halves X Y x0 x1 y0 y1);have HE:X * Y=a * b:=by rw [eX,eY];exact Int.neg_mul_neg a b
  have HE':=hdd HE;clear HE;have EX:=hdd eX;have EY:=hdd eY;clear eX eY m1 m2
  go_enter func164,ntmps164
  go_wp2_with fail;refine zI λW hW=>?_;have B0:Box W w [(),.int .u64 0] 184:=by rw [hW];exact (Box.new rfl).old _
  obtain ⟨d0,d1,B1⟩:∃ d0 d1,Box W (w+1) [d0,d1] 184:=⟨_,_,by rw [hW];exact Box.new (by simp)⟩;have hw:Below w w W:=by rw [hW];go_grown
  clear hW;refine (kg _ _ _ _ (ok_w _ _) (ok_w _ _) _).mono ?_;rintro e w1 ⟨rfl,hb1⟩;replace B0:=B0.ee hb1;replace B1:=B1.ee hb1;replace hw:=upB hw hb1;obtain ⟨x0',y0',z0',v0'⟩:=B0.f;obtain ⟨x1',y1',z1',v1'⟩:=B1.f;clear hb1;go_wp2_with fail;refine zI λW2 hW=>?_;replace B0:Box W2 w [(),.int .u64 0] 184:=by rw [hW];exact (B0.set_ne _ _ (by simp)).set_ne _ _ (by simp)
  obtain ⟨d2,d3,B1⟩:∃ d0 d1,Box W2 (w+1) [d0,d1] 184:=⟨_,_,by rw [hW];exact (B1.set 0 _).set 1 _⟩;replace hw:Below w w W2:=by have hl:=hw.size;rw [hW];go_grown
  clear hW x0' y0' z0' v0' x1' y1' z1' v1';refine (kg _ _ _ _ (ok_m _) (ok_w _ _) _).mono ?_;rintro e w2 ⟨rfl,hb1⟩;replace B0:=B0.ee hb1;replace B1:=B1.ee hb1;replace hw:=upB hw hb1;obtain ⟨x0',y0',z0',v0'⟩:=B0.f;obtain ⟨x1',y1',z1',v1'⟩:=B1.f;clear hb1;go_wp2_with fail;have hl:=hw.size;refine bodyPost_ret (by simp [results,results164,go_sem,x0'];try rfl) rfl ⟨?_,by go_grown⟩;obtain ⟨q1,q2⟩:=mm_two HH.o;rw [q1,q2,HE'.o]
 ·rw [<-m1,<-m2];obtain ⟨X,hX⟩:∃ X,IntKind.u64.wrap (-IntKind.u64.wrap a)=X:=⟨_,rfl⟩;have eX:X = -a:=by rw [<-hX,IntKind.wrap_u64,IntKind.wrap_u64];omega
  obtain ⟨Y,eY⟩:∃ Y,Y=b:=⟨_,rfl⟩;rw [<-eY];rw [<-eY] at hb b0 b1;have db:decide (Y < 0)=false:=Qh (by omega);have x0:0<=X:=by omega
  have x1:X<=9223372036854775808:=by omega
  have y0:0<=Y:=by omega
  have y1:Y<=9223372036854775808:=by omega
  have hx:bits .and .u64 X 4294967295=X % 4294967296:=and_low32 X x0 (by omega);have hy:bits .and .u64 Y 4294967295=Y % 4294967296:=and_low32 Y y0 (by omega);have HH:=hdd (halves X Y x0 x1 y0 y1);have HE : -(X * Y)=a * Y:=by rw [eX,Vk,Int.neg_neg]
  have HE':=hdd HE;clear HE;have EX:=hdd eX;have EY:=hdd eY;clear eX eY m1 m2
  go_enter func164,ntmps164
  go_wp2_with fail;refine zI λW hW=>?_;have B0:Box W w [(),.int .u64 0] 184:=by rw [hW];exact (Box.new rfl).old _
  obtain ⟨d0,d1,B1⟩:∃ d0 d1,Box W (w+1) [d0,d1] 184:=⟨_,_,by rw [hW];exact Box.new (by simp)⟩;have hw:Below w w W:=by rw [hW];go_grown
  clear hW;refine (kg _ _ _ _ (ok_w _ _) (ok_w _ _) _).mono ?_;rintro e w1 ⟨rfl,hb1⟩;replace B0:=B0.ee hb1;replace B1:=B1.ee hb1;replace hw:=upB hw hb1;obtain ⟨x0',y0',z0',v0'⟩:=B0.f;obtain ⟨x1',y1',z1',v1'⟩:=B1.f;clear hb1;go_wp2_with fail;refine zI λW2 hW=>?_;replace B0:Box W2 w [(),.int .u64 0] 184:=by rw [hW];exact (B0.set_ne _ _ (by simp)).set_ne _ _ (by simp)
  obtain ⟨d2,d3,B1⟩:∃ d0 d1,Box W2 (w+1) [d0,d1] 184:=⟨_,_,by rw [hW];exact (B1.set 0 _).set 1 _⟩;replace hw:Below w w W2:=by have hl:=hw.size;rw [hW];go_grown
  clear hW x0' y0' z0' v0' x1' y1' z1' v1';refine (kg _ _ _ _ (ok_m _) (ok_w _ _) _).mono ?_;rintro e w2 ⟨rfl,hb1⟩;replace B0:=B0.ee hb1;replace B1:=B1.ee hb1;replace hw:=upB hw hb1;obtain ⟨x0',y0',z0',v0'⟩:=B0.f;obtain ⟨x1',y1',z1',v1'⟩:=B1.f;clear hb1;go_wp2_with fail;refine zI λW3 hW=>?_;replace B0:Box W3 w [(),.int .u64 0] 184:=by rw [hW];exact (B0.set_ne _ _ (by simp)).set_ne _ _ (by simp)
  replace hw:Below w w W3:=by have hl:=hw.size;rw [hW];go_grown
  clear hW x0' y0' z0' v0' x1' y1' z1' v1';refine (K3 _ _ (ok_m _) _).mono ?_;rintro e w3 ⟨rfl,hb1⟩;replace B0:=B0.ee hb1;replace hw:=upB hw hb1;obtain ⟨x0',y0',z0',v0'⟩:=B0.f;clear hb1;go_wp2;have hl:=hw.size;refine bodyPost_ret (by simp [results,results164,go_sem,x0'];try rfl) rfl ⟨?_,by go_grown⟩;obtain ⟨q1,q2⟩:=mm_neg HH.o;rw [q1,q2,HE'.o]
 ·rw [<-m1,<-m2];obtain ⟨X,eX⟩:∃ X,X=a:=⟨_,rfl⟩;rw [<-eX];rw [<-eX] at ha a0 a1;have da:decide (X < 0)=false:=Qh (by omega);obtain ⟨Y,hY⟩:∃ Y,IntKind.u64.wrap (-IntKind.u64.wrap b)=Y:=⟨_,rfl⟩;have eY:Y = -b:=by rw [<-hY,IntKind.wrap_u64,IntKind.wrap_u64];omega
  have x0:0<=X:=by omega
  have x1:X<=9223372036854775808:=by omega
  have y0:0<=Y:=by omega
  have y1:Y<=9223372036854775808:=by omega
  have hx:bits .and .u64 X 4294967295=X % 4294967296:=and_low32 X x0 (by omega);have hy:bits .and .u64 Y 4294967295=Y % 4294967296:=and_low32 Y y0 (by omega);have HH:=hdd (halves X Y x0 x1 y0 y1);have HE : -(X * Y)=X * b:=by rw [eY,Ql,Int.neg_neg]
  have HE':=hdd HE;clear HE;have EX:=hdd eX;have EY:=hdd eY;clear eX eY m1 m2
  go_enter func164,ntmps164
  go_wp2_with fail;refine zI λW hW=>?_;have B0:Box W w [(),.int .u64 0] 184:=by rw [hW];exact (Box.new rfl).old _
  obtain ⟨d0,d1,B1⟩:∃ d0 d1,Box W (w+1) [d0,d1] 184:=⟨_,_,by rw [hW];exact Box.new (by simp)⟩;have hw:Below w w W:=by rw [hW];go_grown
  clear hW;refine (kg _ _ _ _ (ok_w _ _) (ok_w _ _) _).mono ?_;rintro e w1 ⟨rfl,hb1⟩;replace B0:=B0.ee hb1;replace B1:=B1.ee hb1;replace hw:=upB hw hb1;obtain ⟨x0',y0',z0',v0'⟩:=B0.f;obtain ⟨x1',y1',z1',v1'⟩:=B1.f;clear hb1;go_wp2_with fail;refine zI λW2 hW=>?_;replace B0:Box W2 w [(),.int .u64 0] 184:=by rw [hW];exact (B0.set_ne _ _ (by simp)).set_ne _ _ (by simp)
  obtain ⟨d2,d3,B1⟩:∃ d0 d1,Box W2 (w+1) [d0,d1] 184:=⟨_,_,by rw [hW];exact (B1.set 0 _).set 1 _⟩;replace hw:Below w w W2:=by have hl:=hw.size;rw [hW];go_grown
  clear hW x0' y0' z0' v0' x1' y1' z1' v1';refine (kg _ _ _ _ (ok_m _) (ok_w _ _) _).mono ?_;rintro e w2 ⟨rfl,hb1⟩;replace B0:=B0.ee hb1;replace B1:=B1.ee hb1;replace hw:=upB hw hb1;obtain ⟨x0',y0',z0',v0'⟩:=B0.f;obtain ⟨x1',y1',z1',v1'⟩:=B1.f;clear hb1;go_wp2_with fail;refine zI λW3 hW=>?_;replace B0:Box W3 w [(),.int .u64 0] 184:=by rw [hW];exact (B0.set_ne _ _ (by simp)).set_ne _ _ (by simp)
  replace hw:Below w w W3:=by have hl:=hw.size;rw [hW];go_grown
  clear hW x0' y0' z0' v0' x1' y1' z1' v1';refine (K3 _ _ (ok_m _) _).mono ?_;rintro e w3 ⟨rfl,hb1⟩;replace B0:=B0.ee hb1;replace hw:=upB hw hb1;obtain ⟨x0',y0',z0',v0'⟩:=B0.f;clear hb1;go_wp2;have hl:=hw.size;refine bodyPost_ret (by simp [results,results164,go_sem,x0'];try rfl) rfl ⟨?_,by go_grown⟩;obtain ⟨q1,q2⟩:=mm_neg HH.o;rw [q1,q2,HE'.o]
 ·rw [<-m1,<-m2];obtain ⟨X,eX⟩:∃ X,X=a:=⟨_,rfl⟩;rw [<-eX];rw [<-eX] at ha a0 a1;have da:decide (X < 0)=false:=Qh (by omega);obtain ⟨Y,eY⟩:∃ Y,Y=b:=⟨_,rfl⟩;rw [<-eY];rw [<-eY] at hb b0 b1;have db:decide (Y < 0)=false:=Qh (by omega);have x0:0<=X:=by omega
  have x1:X<=9223372036854775808:=by omega
  have y0:0<=Y:=by omega
  have y1:Y<=9223372036854775808:=by omega
  have hx:bits .and .u64 X 4294967295=X % 4294967296:=and_low32 X x0 (by omega);have hy:bits .and .u64 Y 4294967295=Y % 4294967296:=and_low32 Y y0 (by omega);have HH:=hdd (halves X Y x0 x1 y0 y1);have HE:X * Y=X * Y:=rfl;have HE':=hdd HE;clear HE;have EX:=hdd eX;have EY:=hdd eY;clear eX eY m1 m2
  go_enter func164,ntmps164
  go_wp2_with fail;refine zI λW hW=>?_;have B0:Box W w [(),.int .u64 0] 184:=by rw [hW];exact (Box.new rfl).old _
  obtain ⟨d0,d1,B1⟩:∃ d0 d1,Box W (w+1) [d0,d1] 184:=⟨_,_,by rw [hW];exact Box.new (by simp)⟩;have hw:Below w w W:=by rw [hW];go_grown
  clear hW;refine (kg _ _ _ _ (ok_w _ _) (ok_w _ _) _).mono ?_;rintro e w1 ⟨rfl,hb1⟩;replace B0:=B0.ee hb1;replace B1:=B1.ee hb1;replace hw:=upB hw hb1;obtain ⟨x0',y0',z0',v0'⟩:=B0.f;obtain ⟨x1',y1',z1',v1'⟩:=B1.f;clear hb1;go_wp2_with fail;refine zI λW2 hW=>?_;replace B0:Box W2 w [(),.int .u64 0] 184:=by rw [hW];exact (B0.set_ne _ _ (by simp)).set_ne _ _ (by simp)
  obtain ⟨d2,d3,B1⟩:∃ d0 d1,Box W2 (w+1) [d0,d1] 184:=⟨_,_,by rw [hW];exact (B1.set 0 _).set 1 _⟩;replace hw:Below w w W2:=by have hl:=hw.size;rw [hW];go_grown
  clear hW x0' y0' z0' v0' x1' y1' z1' v1';refine (kg _ _ _ _ (ok_m _) (ok_w _ _) _).mono ?_;rintro e w2 ⟨rfl,hb1⟩;replace B0:=B0.ee hb1;replace B1:=B1.ee hb1;replace hw:=upB hw hb1;obtain ⟨x0',y0',z0',v0'⟩:=B0.f;obtain ⟨x1',y1',z1',v1'⟩:=B1.f;clear hb1;go_wp2_with fail;have hl:=hw.size;refine bodyPost_ret (by simp [results,results164,go_sem,x0'];try rfl) rfl ⟨?_,by go_grown⟩;obtain ⟨q1,q2⟩:=mm_two HH.o;rw [q1,q2]
attribute [local go_sem 10000] pt_eql pt_neq
attribute [local irreducible] rWalk
def lft (a b c d:Pt):Int:=ht (way d a) * cr (way d b) (way d c)+ht (way d b) * cr (way d c) (way d a)+ht (way d c) * cr (way d a) (way d b)
theorem kT {p q:Int} (hp:0<=p/\p<=562949886312450) (hq : -562949886312450<=q/\q<=562949886312450) : -316912574500061154317695502500<=p * q/\p * q<=316912574500061154317695502500:=by
 have h1:p.natAbs<=562949886312450:=by omega
 have h2:q.natAbs<=562949886312450:=by omega
 have h3:=UP h1 h2;rw [<-Int.natAbs_mul] at h3;generalize p * q=r at *
 omega
theorem qK (a b c d:Pt) (ha:vld a) (hb:vld b) (hc:vld c) (hd:vld d) (w:World):Calls prog 175 #[a,b,c,d] w (Rt w (.int .i64 (sgn (lft a b c d)))):=by
 have d1:=jp d a hd ha;have d2:=jp d b hd hb;have d3:=jp d c hd hc;have su:=qp hd ha;have sv:=qp hd hb;have sz:=qp hd hc;have e0:lft a b c d=ht (way d a) * cr (way d b) (way d c)+ht (way d b) * cr (way d c) (way d a)+ht (way d c) * cr (way d a) (way d b):=rfl;rw [e0];clear e0 ha hb hc hd;generalize way d a=u at *
 generalize way d b=v at *
 generalize way d c=z at *
 have h1:=ja u su;have h2:=ja v sv;have h3:=ja z sz;have x1:=jP v z sv sz;have x2:=jP z u sz su;have x3:=jP u v su sv;have bu:=ht_bd su;have bv:=ht_bd sv;have bz:=ht_bd sz;have k1:=cr_bd sv sz;have k2:=cr_bd sz su;have k3:=cr_bd su sv;have m1:=Yy (ht u) (cr v z) (by omega) (by omega) (by omega) (by omega);have m2:=Yy (ht v) (cr z u) (by omega) (by omega) (by omega) (by omega);have m3:=Yy (ht z) (cr u v) (by omega) (by omega) (by omega) (by omega);have p1:=kT bu k1;have p2:=kT bv k2;have p3:=kT bz k3;clear su sv sz bu bv bz k1 k2 k3;generalize ht u * cr v z=P1 at *
 generalize ht v * cr z u=P2 at *
 generalize ht z * cr u v=P3 at *
 have s1:=Kk (cH P1) (cL P1) (cH P2) (cL P2) (ok_c _) (ok_c _);rw [V_c (zg.2 ⟨by omega,by omega⟩),V_c (zg.2 ⟨by omega,by omega⟩)] at s1;have s2:=Kk (cH (P1+P2)) (cL (P1+P2)) (cH P3) (cL P3) (ok_c _) (ok_c _);rw [V_c (zg.2 ⟨by omega,by omega⟩),V_c (zg.2 ⟨by omega,by omega⟩)] at s2;have s3:=sign_any (cH (P1+P2+P3)) (cL (P1+P2+P3)) (ok_c _);rw [V_c (zg.2 ⟨by omega,by omega⟩)] at s3;clear p1 p2 p3;generalize cH (P1+P2+P3)=H3 at *
 generalize cL (P1+P2+P3)=L3 at *
 generalize fits (P1+P2+P3)=F3 at *
 generalize P1+P2+P3=P6 at *
 generalize cH (P1+P2)=H2 at *
 generalize cL (P1+P2)=L2 at *
 generalize fits (P1+P2)=F2 at *
 generalize cH P1=H0 at *
 generalize cL P1=L0 at *
 generalize cH P2=H1 at *
 generalize cL P2=L1 at *
 generalize cH P3=H4 at *
 generalize cL P3=L4 at *
 generalize cr v z=X1 at *
 generalize cr z u=X2 at *
 generalize cr u v=X3 at *
 generalize ht u=Y1 at *
 generalize ht v=Y2 at *
 generalize ht z=Y3 at *
 go_enter func175,ntmps175
 go_wp2_with fail;refine qD4 λW1 Ba Bb Bc Bd hw=>?_;have ga:=Ba.cells;have gb:=Bb.cells;have gc:=Bc.cells;have gd:=Bd.cells;refine zn 12 [⟨9,9,34,[(),()]⟩,⟨10,10,34,[(),()]⟩,⟨11,11,34,[(),()]⟩] ?_ (by kernel_rfl) (by decide) (by decide) (by kernel_rfl) (by decide) (C:=λw'=>∃ p:Regrown,w'=grow (redrawn W1 p.d) p.os) rgB ?_
 ·simp only [QT];refine ⟨⟨_,rfl,rfl,rfl,rfl,λρ W=>by simp [execOp,go_sem]⟩,⟨_,rfl,rfl,rfl,rfl,λρ W=>by simp [execOp,go_sem]⟩,⟨_,rfl,rfl,rfl,rfl,λρ W=>by simp [execOp,go_sem]⟩,λ_ h=>(by cases h)⟩
 simp only [Q5,Qd,Jm,Qw,dropIdx,Qe,Qj,Nat.reduceBEq,Nat.reduceAdd,V6,VF,VG,QA,VZ,VT];refine wkx ?_;intro w2 β hL;simp only [putD,QY,QZ];have qu:=hL.box ⟨9,9,34,[(),()]⟩ (by simp) (by simp);simp only at qu;have qv:=hL.box ⟨10,10,34,[(),()]⟩ (by simp) (by simp);simp only at qv;have qz:=hL.box ⟨11,11,34,[(),()]⟩ (by simp) (by simp);simp only at qz;have nuv:=hL.apart 9 (by simp) 10 (by simp) (by decide);have nuz:=hL.apart 9 (by simp) 11 (by simp) (by decide);have nvu:=hL.apart 10 (by simp) 9 (by simp) (by decide);have nvz:=hL.apart 10 (by simp) 11 (by simp) (by decide);have nzu:=hL.apart 11 (by simp) 9 (by simp) (by decide);have nzv:=hL.apart 11 (by simp) 10 (by simp) (by decide);have hb:=hL.below;have la:=Ba.lt;have lb:=Bb.lt;have lc:=Bc.lt;have ld:=Bd.lt;clear ga gb gc gd;replace Ba:=Ba.ee hb;replace Bb:=Bb.ee hb;replace Bc:=Bc.ee hb;replace Bd:=Bd.ee hb;have hw0:=hw.size;replace hw:=upB hw hb;clear hb hL;generalize β 9=bku at *
 generalize β 10=bkv at *
 generalize β 11=bkz at *
 clear β;obtain ⟨fu,Bu⟩:=qu;obtain ⟨fv,Bv⟩:=qv;obtain ⟨fz,Bz⟩:=qz;simp only [Act.put];have Fu:=Bu.f;have Fv:=Bv.f;have Fz:=Bz.f;go_wp2_with fail;refine zG λW3 hW=>?_;replace Ba:=sto Ba hW;replace Bb:=sto Bb hW;replace Bc:=sto Bc hW;replace Bd:=sto Bd hW;replace Bu:=sto Bu hW;replace Bv:=sto Bv hW;replace Bz:=sto Bz hW;replace hw:=stw hw hW;clear Fu Fv Fz;clear hW;have ga:=Ba.cells;have gb:=Bb.cells;have gc:=Bc.cells;have gd:=Bd.cells;have gu:=Bu.cells;have gv:=Bv.cells;have gz:=Bz.cells;refine wp_region_late2 16 12 37 (.int .i64 H2) (.int .u64 L2) rfl rfl rfl rfl rfl rfl rfl (by simp) (λρ W=>by simp [execOp,go_sem];rfl) (by kernel_rfl) (by kernel_rfl) (C:=λw'=>∃ p:Regrown,w'=grow (redrawn W3 p.d) p.os) rgB ?_ (λρ W b e1 e2 hB=>by obtain ⟨x,y,_,_⟩:=hB.f;simp [execOp,go_sem,e1,e2,x,y,eff2]);simp only [tK1,tK0,dP1,dP0];repeat (first | (refine zK (Eq.refl false) ?_;simp only [Act.put,sT2,sT1,sT0]) | (refine rWalk_step (λK hK=>?_);go_simp;first | (refine hK _ ?_;clear hK K) | (apply Exists.intro;refine ⟨λ_=>?_,hK _ ?_⟩;(first | with_reducible exact toExt h1 _ | with_reducible exact toExt h2 _ | with_reducible exact toExt x1 _ | with_reducible exact toExt x2 _ | with_reducible exact toExt m1 _ | with_reducible exact toExt m2 _ | with_reducible exact toExt s1 _);clear hK K)))
 refine rWalk_nil ⟨rfl,?_⟩;intro w4 bks hb h1b h2b Bs;have las:=Ba.lt;have lbs:=Bb.lt;have lcs:=Bc.lt;have lds:=Bd.lt;have lus:=Bu.lt;have lvs:=Bv.lt;have lzs:=Bz.lt;have hw0z:=hw.size;clear ga gb gc gd gu gv gz;replace Ba:=Ba.ee hb;obtain ⟨Bb,Bc,Bd,Bu,Bv,Bz,hw,-⟩:=qX6 Bb Bc Bd Bu Bv Bz hw hb;have fs:=h1b;have hwz:w.heap.size<=W3.heap.size:=hw0z;clear hb h1b h2b hw0z;simp only [Act.put];go_wp2_with fail;refine zG λW9 hW=>?_;replace Ba:Box W9 w [a.x,a.y] 34:=by rw [hW];exact Ba
 replace Bb:Box W9 (w+1) [b.x,b.y] 34:=by rw [hW];exact Bb
 replace Bc:Box W9 (w+1+1) [c.x,c.y] 34:=by rw [hW];exact Bc
 replace Bd:Box W9 (w+1+1+1) [d.x,d.y] 34:=by rw [hW];exact Bd
 replace Bu:Box W9 (bku) [u.x,u.y] 34:=by rw [hW];exact Bu
 replace Bv:Box W9 (bkv) [v.x,v.y] 34:=by rw [hW];exact Bv
 replace Bz:Box W9 (bkz) [z.x,z.y] 34:=by rw [hW];exact Bz
 replace Bs:Box W9 (bks) [.int .i64 H2,.int .u64 L2] 199:=by rw [hW];exact Bs
 replace hw:Below w w W9:=by rw [hW];exact hw
 clear hW;have ga:=Ba.cells;have gb:=Bb.cells;have gc:=Bc.cells;have gd:=Bd.cells;have gu:=Bu.cells;have gv:=Bv.cells;have gz:=Bz.cells;have gs:=Bs.cells;refine wp_region_slip 8 2 (by kernel_rfl) (by kernel_rfl) (λd _ _ _ _ h=>by cases d <;> exact h) (C:=λw'=>∃ p:Regrown,w'=grow (redrawn W9 p.d) p.os) rgB ?_;simp only [tK1,tK0,dP1,dP0];refine wkx ?_;intro w5 hb;refine ⟨_,Or.inl ⟨rfl,λ_=>rfl⟩,?_⟩;refine ⟨_,Or.inl ⟨rfl,λ_=>rfl⟩,?_⟩;simp only [slipWalk,Act.put,List.setIfInBounds_toArray,VU,UH];clear ga gb gc gd gu gv gz gs;replace Ba:=Ba.ee hb;replace Bb:=Bb.ee hb;obtain ⟨Bc,Bd,Bu,Bv,Bz,Bs,hw,-⟩:=qX6 Bc Bd Bu Bv Bz Bs hw hb;have Fa:=Ba.f;have Fb:=Bb.f;have Fc:=Bc.f;have Fd:=Bd.f;have Fu:=Bu.f;have Fv:=Bv.f;have Fz:=Bz.f;have Fs:=Bs.f;go_wp2_with fail;refine zI λW6 hW=>?_;replace Ba:=sto Ba hW;replace Bb:=sto Bb hW;replace Bc:=sto Bc hW;replace Bd:=sto Bd hW;replace Bu:=sto Bu hW;replace Bv:=sto Bv hW;replace Bz:=sto Bz hW;replace Bs:=sto Bs hW;replace hw:=stw hw hW;clear Fa Fb Fc Fd Fu Fv Fz Fs;clear hW;refine (s3 _).mono ?_;rintro e w7 ⟨rfl,hb⟩;replace Ba:=Ba.ee hb;replace Bb:=Bb.ee hb;obtain ⟨Bc,Bd,Bu,Bv,Bz,Bs,hw,-⟩:=qX6 Bc Bd Bu Bv Bz Bs hw hb;clear hb;go_wp2
 go_ret
 exact ⟨rfl,hw⟩
end
section
open Go.RowKit Go.Sort
theorem rgn {P : Program} {id : Nat} {Q : Exit -> Act -> World -> Prop} {a A : Act} {w : World} {l r : List Oper} (n : Nat)
    (k:∀ w',Below w w w'->wpList P l.toArray Q r A w')
    (hm:P.follows .mixedOrders=true:=by kernel_rfl) (hB:plainB .any l.toArray n=true:=by kernel_rfl)
    (hr:l.drop n=r:=by (simp only [dP1,dP0];try rfl))
    (h:rWalk P l.toArray (λw'=>∃ p:Regrown,w'=grow (redrawn w p.d) p.os) (λa'=>a'=A) (l.take n) a:=by
     simp only [Q5,Qd];repeat (first | (refine zK (Eq.refl false) ?_;simp only [Act.put,sT2,sT1,sT0]) | (refine rWalk_step (λK hK=>?_);go_simp;first | (refine hK _ ?_;clear hK K) | (apply Exists.intro;refine ⟨λ_=>?_,hK _ ?_⟩;(with_reducible exact toExt (by assumption) _);clear hK K)))
     exact rWalk_nil rfl):(Code.region id l.toArray true).wp P Q a w:=by
 refine wp_region_tail n hm hB rgB ?_;rw [hr];have aux:∀ (L:List Oper) (b:Act) (C:World->Prop),rWalk P l.toArray C (λa'=>a'=A) L b->rWalk P l.toArray C (λa'=>∀ w',Below w w w'->wpList P l.toArray Q r a' w') L b:=by
  intro L;induction L with
  | nil=>intro b C h;simp only [rWalk] at h ⊢;rw [h];exact k
  | cons o rest ih=>
   intro b C h;simp only [rWalk] at h ⊢;split
   ·rename_i hw
    rw [JH hw] at h;obtain ⟨v,h1,h2⟩:=h;exact ⟨v,h1,ih _ _ h2⟩
   ·rename_i hw
    rw [J0 hw] at h;exact ih _ _ h
 exact aux _ _ _ h
attribute [local go_sem] rOper rAt rUpon cell_set sg_i64 sg_u64 alloc_cell alloc_frozen
attribute [local go_sem 10000] pt_eql pt_neq
attribute [local irreducible] rWalk
def lsr (p m:Pt):Pt:=if cmpP p m < 0 then p else m
def min4 (a b c d:Pt):Pt:=lsr d (lsr c (lsr b a))
def minTo (a b c d:Pt) (k:Nat):Pt:=if k=1 then a else if k=2 then lsr b a else if k=3 then lsr c (lsr b a) else min4 a b c d
theorem uQ (a b c d:Pt) (w:World) (bk:Nat) (hB:Box w bk [a.x,a.y,b.x,b.y,c.x,c.y,d.x,d.y] 34):Calls prog 176 #[.slice (some ⟨bk,0,none⟩) 4 4,.func (.func 72) #[] #[]] w (Rt w (.agg #[.int .i64 (min4 a b c d).x,.int .i64 (min4 a b c d).y])):=by
 have l0:=hB.lt;have Fs:=hB.f
 go_enter func176,ntmps176
 go_wp2_with fail
 go_loopw [6] (λi wr=>∃ (k:Nat) (m:Pt),1<=k/\k<=4/\i=.int .i64 k/\Hi (m=minTo a b c d k)/\Below w w wr/\Box wr w [(),()] 34/\Box wr (w+1) [m.x,m.y] 34/\Box wr bk [a.x,a.y,b.x,b.y,c.x,c.y,d.x,d.y] 34) (λi _=>4 - (intOf i).toNat)
 case atStart=>exact ⟨1,a,by omega,by omega,rfl,hdd rfl,by go_grown,(Box.new rfl).old _,Box.new (by simp),(hB.old _).old _⟩
 case round=>
  obtain ⟨k,m,k1,k4,rfl,hm,hw,Bz,Bm,Bs⟩:=hrel;clear Fs;have hk:k=1\/k=2\/k=3\/k=4:=by omega
  rcases hk with rfl | rfl | rfl | rfl
  ·have e1:minTo a b c d 1=m:=hm.o.symm;have Q:Hi (minTo a b c d 2=lsr b m):=hdd (by rw [<-e1];rfl);clear e1 hm;have cm:=zo b m;have Fz:=Bz.f;have Fm:=Bm.f;have Fs:=Bs.f;by_cases hc:cmpP b m < 0
   ·have eL:Hi (lsr b m=b):=hdd (by unfold lsr;rw [JH hc]);have hd:decide (cmpP b m < 0)=true:=by simpa using hc
    have nbm:¬ bk=w.heap.size+1:=by omega
    go_wp2_with fail;have G6:=J3 Bz.cells Bm.cells Bs.cells;refine rgn 7 (λw51 hb=>?_);clear G6;clear Fz Fm Fs;obtain ⟨Bz,Bm,Bs,hw,-⟩:=qX3 Bz Bm Bs hw hb;have Fz:=Bz.f;have Fm:=Bm.f;have Fs:=Bs.f;go_wp2_with fail
    go_roundw
    case rel=>
     exact ⟨2,b,by omega,by omega,rfl,hdd (by rw [Q.o,eL.o]),by go_grown,(Bz.set_ne _ _ (by simp)).set_ne _ _ (by simp),(Bm.set 0 (.int .i64 b.x)).set 1 (.int .i64 b.y),(Bs.set_ne _ _ (by simp;omega)).set_ne _ _ (by simp;omega)⟩
    case measure=>simp [intOf]
   ·have eL:Hi (lsr b m=m):=hdd (by unfold lsr;rw [J0 hc]);have hd:decide (cmpP b m < 0)=false:=by simpa using hc
    go_wp2_with fail;have G6:=J3 Bz.cells Bm.cells Bs.cells;refine rgn 7 (λw51 hb=>?_);clear G6;clear Fz Fm Fs;obtain ⟨Bz,Bm,Bs,hw,-⟩:=qX3 Bz Bm Bs hw hb;have Fz:=Bz.f;have Fm:=Bm.f;have Fs:=Bs.f;go_wp2_with fail
    go_roundw
    case rel=>exact ⟨2,m,by omega,by omega,rfl,hdd (by rw [Q.o,eL.o]),hw,Bz,Bm,Bs⟩
    case measure=>simp [intOf]
  ·have e1:minTo a b c d 2=m:=hm.o.symm;have Q:Hi (minTo a b c d 3=lsr c m):=hdd (by rw [<-e1];rfl);clear e1 hm;have cm:=zo c m;have Fz:=Bz.f;have Fm:=Bm.f;have Fs:=Bs.f;by_cases hc:cmpP c m < 0
   ·have eL:Hi (lsr c m=c):=hdd (by unfold lsr;rw [JH hc]);have hd:decide (cmpP c m < 0)=true:=by simpa using hc
    have nbm:¬ bk=w.heap.size+1:=by omega
    go_wp2_with fail;have G6:=J3 Bz.cells Bm.cells Bs.cells;refine rgn 7 (λw51 hb=>?_);clear G6;clear Fz Fm Fs;obtain ⟨Bz,Bm,Bs,hw,-⟩:=qX3 Bz Bm Bs hw hb;have Fz:=Bz.f;have Fm:=Bm.f;have Fs:=Bs.f;go_wp2_with fail
    go_roundw
    case rel=>
     exact ⟨3,c,by omega,by omega,rfl,hdd (by rw [Q.o,eL.o]),by go_grown,(Bz.set_ne _ _ (by simp)).set_ne _ _ (by simp),(Bm.set 0 (.int .i64 c.x)).set 1 (.int .i64 c.y),(Bs.set_ne _ _ (by simp;omega)).set_ne _ _ (by simp;omega)⟩
    case measure=>simp [intOf]
   ·have eL:Hi (lsr c m=m):=hdd (by unfold lsr;rw [J0 hc]);have hd:decide (cmpP c m < 0)=false:=by simpa using hc
    go_wp2_with fail;have G6:=J3 Bz.cells Bm.cells Bs.cells;refine rgn 7 (λw51 hb=>?_);clear G6;clear Fz Fm Fs;obtain ⟨Bz,Bm,Bs,hw,-⟩:=qX3 Bz Bm Bs hw hb;have Fz:=Bz.f;have Fm:=Bm.f;have Fs:=Bs.f;go_wp2_with fail
    go_roundw
    case rel=>exact ⟨3,m,by omega,by omega,rfl,hdd (by rw [Q.o,eL.o]),hw,Bz,Bm,Bs⟩
    case measure=>simp [intOf]
  ·have e1:minTo a b c d 3=m:=hm.o.symm;have Q:Hi (minTo a b c d 4=lsr d m):=hdd (by rw [<-e1];rfl);clear e1 hm;have cm:=zo d m;have Fz:=Bz.f;have Fm:=Bm.f;have Fs:=Bs.f;by_cases hc:cmpP d m < 0
   ·have eL:Hi (lsr d m=d):=hdd (by unfold lsr;rw [JH hc]);have hd:decide (cmpP d m < 0)=true:=by simpa using hc
    have nbm:¬ bk=w.heap.size+1:=by omega
    go_wp2_with fail;have G6:=J3 Bz.cells Bm.cells Bs.cells;refine rgn 7 (λw51 hb=>?_);clear G6;clear Fz Fm Fs;obtain ⟨Bz,Bm,Bs,hw,-⟩:=qX3 Bz Bm Bs hw hb;have Fz:=Bz.f;have Fm:=Bm.f;have Fs:=Bs.f;go_wp2_with fail
    go_roundw
    case rel=>
     exact ⟨4,d,by omega,by omega,rfl,hdd (by rw [Q.o,eL.o]),by go_grown,(Bz.set_ne _ _ (by simp)).set_ne _ _ (by simp),(Bm.set 0 (.int .i64 d.x)).set 1 (.int .i64 d.y),(Bs.set_ne _ _ (by simp;omega)).set_ne _ _ (by simp;omega)⟩
    case measure=>simp [intOf]
   ·have eL:Hi (lsr d m=m):=hdd (by unfold lsr;rw [J0 hc]);have hd:decide (cmpP d m < 0)=false:=by simpa using hc
    go_wp2_with fail;have G6:=J3 Bz.cells Bm.cells Bs.cells;refine rgn 7 (λw51 hb=>?_);clear G6;clear Fz Fm Fs;obtain ⟨Bz,Bm,Bs,hw,-⟩:=qX3 Bz Bm Bs hw hb;have Fz:=Bz.f;have Fm:=Bm.f;have Fs:=Bs.f;go_wp2_with fail
    go_roundw
    case rel=>exact ⟨4,m,by omega,by omega,rfl,hdd (by rw [Q.o,eL.o]),hw,Bz,Bm,Bs⟩
    case measure=>simp [intOf]
  ·have e1:min4 a b c d=m:=hm.o.symm;have E:=hdd e1;clear e1 hm;have Fz:=Bz.f;have Fm:=Bm.f;go_wp2_with fail;refine bodyPost_ret (v:=.agg #[m.x,m.y]) (by simp [results,results176,go_sem,Fz]) rfl ⟨by rw [E.o],by go_grown⟩
def tie (a b c d m:Pt) (o:Int):Int:=if peqI m.x m.y d.x d.y=true then o else if peqI m.x m.y a.x a.y=true then -ori d b c else if peqI m.x m.y b.x b.y=true then -ori a d c else -ori a b d
def circ (a b c d:Pt):Int:=
 if ori a b c=0 then 0 else if vld d=false then 0 else if peqI d.x d.y a.x a.y=true then 0 else if peqI d.x d.y b.x b.y=true then 0 else if peqI d.x d.y c.x c.y=true then 0
 else if ¬ sgn (lft a b c d)=0 then sgn (lft a b c d) else tie a b c d (min4 a b c d) (ori a b c)
theorem sgn_bd (n:Int) : -1<=sgn n/\sgn n<=1:=by unfold sgn;split <;> (try split) <;> omega
theorem y6 (a b c:Pt) : -1<=ori a b c/\ori a b c<=1:=by unfold ori;split;exact sgn_bd _;omega
theorem yz {a b c:Pt} (h:¬ ori a b c=0):vld a=true/\vld b=true/\vld c=true:=by
 unfold ori at h;split at h;assumption;exact absurd rfl h
theorem circle_0 (a b c d:Pt) (h0:ori a b c=0) (w:World):Calls prog 158 #[a,b,c,d] w (Rt w (.int .i64 0)):=by
 have co:=zJ a b c;rw [h0] at co;clear h0
 go_enter func158,ntmps158
 go_wp2_with fail;refine qE4 λW1 Ba Bb Bc Bd hw=>?_;refine qK4 (co _) Ba Bb Bc Bd hw λw2 Ba Bb Bc Bd hw=>?_;go_wp2
 go_ret
 exact ⟨rfl,hw⟩
theorem circle_1 (a b c d:Pt) (h0:¬ ori a b c=0) (hv:vld d=false) (w:World):Calls prog 158 #[a,b,c,d] w (Rt w (.int .i64 0)):=by
 have co:=zJ a b c;have cv:=zF d;rw [hv] at cv;clear hv;have bo:=y6 a b c;generalize ori a b c=o at *
 have t0:(o == 0)=false:=by simpa using h0
 clear h0
 go_enter func158,ntmps158
 go_wp2_with fail;refine qE4 λW1 Ba Bb Bc Bd hw=>?_;refine qC4 (co _) Ba Bb Bc Bd hw λw2 Ba Bb Bc Bd hw Fj=>?_;go_wp2_with fail;clear Fj;refine qC4 (cv _) Ba Bb Bc Bd hw λw3 Ba Bb Bc Bd hw Fj=>?_;go_wp2
 go_ret
 exact ⟨rfl,hw⟩
theorem circle_2 (a b c d:Pt) (h0:¬ ori a b c=0) (hv:vld d) (e1:peqI d.x d.y a.x a.y) (w:World):Calls prog 158 #[a,b,c,d] w (Rt w (.int .i64 0)):=by
 have co:=zJ a b c;have cv:=zF d;rw [hv] at cv;clear hv;have bo:=y6 a b c;generalize ori a b c=o at *
 have t0:(o == 0)=false:=by simpa using h0
 clear h0
 go_enter func158,ntmps158
 go_wp2_with fail;refine qE4 λW1 Ba Bb Bc Bd hw=>?_;refine qC4 (co _) Ba Bb Bc Bd hw λw2 Ba Bb Bc Bd hw Fj=>?_;go_wp2_with fail;clear Fj;refine qC4 (cv _) Ba Bb Bc Bd hw λw3 Ba Bb Bc Bd hw Fj=>?_;go_wp2
 go_ret
 exact ⟨rfl,hw⟩
theorem circle_3 (a b c d:Pt) (h0:¬ ori a b c=0) (hv:vld d) (e1:peqI d.x d.y a.x a.y=false) (e2:peqI d.x d.y b.x b.y) (w:World):Calls prog 158 #[a,b,c,d] w (Rt w (.int .i64 0)):=by
 have co:=zJ a b c;have cv:=zF d;rw [hv] at cv;clear hv;have bo:=y6 a b c;generalize ori a b c=o at *
 have t0:(o == 0)=false:=by simpa using h0
 clear h0
 go_enter func158,ntmps158
 go_wp2_with fail;refine qE4 λW1 Ba Bb Bc Bd hw=>?_;refine qC4 (co _) Ba Bb Bc Bd hw λw2 Ba Bb Bc Bd hw Fj=>?_;go_wp2_with fail;clear Fj;refine qC4 (cv _) Ba Bb Bc Bd hw λw3 Ba Bb Bc Bd hw Fj=>?_;go_wp2
 go_ret
 exact ⟨rfl,hw⟩
theorem circle_4 (a b c d:Pt) (h0:¬ ori a b c=0) (hv:vld d) (e1:peqI d.x d.y a.x a.y=false) (e2:peqI d.x d.y b.x b.y=false) (e3:peqI d.x d.y c.x c.y) (w:World):Calls prog 158 #[a,b,c,d] w (Rt w (.int .i64 0)):=by
 have co:=zJ a b c;have cv:=zF d;rw [hv] at cv;clear hv;have bo:=y6 a b c;generalize ori a b c=o at *
 have t0:(o == 0)=false:=by simpa using h0
 clear h0
 go_enter func158,ntmps158
 go_wp2_with fail;refine qE4 λW1 Ba Bb Bc Bd hw=>?_;refine qC4 (co _) Ba Bb Bc Bd hw λw2 Ba Bb Bc Bd hw Fj=>?_;go_wp2_with fail;clear Fj;refine qC4 (cv _) Ba Bb Bc Bd hw λw3 Ba Bb Bc Bd hw Fj=>?_;go_wp2
 go_ret
 exact ⟨rfl,hw⟩
theorem circle_5 (a b c d:Pt) (h0:¬ ori a b c=0) (hv:vld d) (e1:peqI d.x d.y a.x a.y=false) (e2:peqI d.x d.y b.x b.y=false) (e3:peqI d.x d.y c.x c.y=false) (hl:¬ sgn (lft a b c d)=0) (w:World):Calls prog 158 #[a,b,c,d] w (Rt w (.int .i64 (sgn (lft a b c d)))):=by
 have co:=zJ a b c;have cv:=zF d;rw [hv] at cv;obtain ⟨vva,vvb,vvc⟩:=yz h0;have cl:=qK a b c d vva vvb vvc hv;clear hv vva vvb vvc;have bo:=y6 a b c;generalize ori a b c=o at *
 have t0:(o == 0)=false:=by simpa using h0
 clear h0;generalize sgn (lft a b c d)=l at *
 have t1:(l != 0)=true:=by simpa using hl
 clear hl
 go_enter func158,ntmps158
 go_wp2_with fail;refine qE4 λW1 Ba Bb Bc Bd hw=>?_;refine qC4 (co _) Ba Bb Bc Bd hw λw2 Ba Bb Bc Bd hw Fj=>?_;go_wp2_with fail;clear Fj;refine qC4 (cv _) Ba Bb Bc Bd hw λw3 Ba Bb Bc Bd hw Fj=>?_;go_wp2_with fail;clear Fj;refine qK4 (cl _) Ba Bb Bc Bd hw λw4 Ba Bb Bc Bd hw=>?_;go_wp2
 go_ret
 exact ⟨rfl,hw⟩
theorem circle_6 (a b c d:Pt) (h0:¬ ori a b c=0) (hv:vld d) (e1:peqI d.x d.y a.x a.y=false) (e2:peqI d.x d.y b.x b.y=false) (e3:peqI d.x d.y c.x c.y=false) (hl:sgn (lft a b c d)=0) (m1:peqI (min4 a b c d).x (min4 a b c d).y d.x d.y=true) (w:World):Calls prog 158 #[a,b,c,d] w (Rt w (.int .i64 (ori a b c))):=by
 have co:=zJ a b c;have cv:=zF d;rw [hv] at cv;obtain ⟨vva,vvb,vvc⟩:=yz h0;have cl:=qK a b c d vva vvb vvc hv;clear hv vva vvb vvc;rw [hl] at cl;clear hl;have cm:=uQ a b c d;generalize min4 a b c d=m at *
 have bo:=y6 a b c;generalize ori a b c=o at *
 have t0:(o == 0)=false:=by simpa using h0
 clear h0
 go_enter func158,ntmps158
 go_wp2_with fail;refine qE4 λW1 Ba Bb Bc Bd hw=>?_;refine qC4 (co _) Ba Bb Bc Bd hw λw2 Ba Bb Bc Bd hw Fj=>?_;go_wp2_with fail;clear Fj;refine qC4 (cv _) Ba Bb Bc Bd hw λw3 Ba Bb Bc Bd hw Fj=>?_;go_wp2_with fail;clear Fj;refine qK4 (cl _) Ba Bb Bc Bd hw λw4 Ba Bb Bc Bd hw=>?_;have Fa:=Ba.f;have Fb:=Bb.f;have Fc:=Bc.f;have Fd:=Bd.f;go_wp2_with fail;refine zI λW5 hW=>?_;obtain ⟨bks,hbs⟩:∃ b,w4.heap.size=b:=⟨_,rfl⟩;rw [hbs];have Bs:Box W5 bks [a.x,a.y,b.x,b.y,c.x,c.y,d.x,d.y] 34:=by rw [hW];exact Box.new hbs.symm
 replace Ba:Box W5 w [a.x,a.y] 34:=by rw [hW];exact Ba.old _
 replace Bb:Box W5 (w+1) [b.x,b.y] 34:=by rw [hW];exact Bb.old _
 replace Bc:Box W5 (w+1+1) [c.x,c.y] 34:=by rw [hW];exact Bc.old _
 replace Bd:Box W5 (w+1+1+1) [d.x,d.y] 34:=by rw [hW];exact Bd.old _
 replace hw:Below w w W5:=by have hl:=hw.size;rw [hW];go_grown
 clear hW hbs;clear Fa Fb Fc Fd;refine qK5 (cm _ _ Bs) Ba Bb Bc Bd Bs hw λw6 Ba Bb Bc Bd Bs hw=>?_;have Fa:=Ba.f;have Fb:=Bb.f;have Fc:=Bc.f;have Fd:=Bd.f;have Fs:=Bs.f;go_wp2
 go_ret
 exact ⟨rfl,hw⟩
theorem circle_7 (a b c d:Pt) (h0:¬ ori a b c=0) (hv:vld d) (e1:peqI d.x d.y a.x a.y=false) (e2:peqI d.x d.y b.x b.y=false) (e3:peqI d.x d.y c.x c.y=false) (hl:sgn (lft a b c d)=0) (m1:peqI (min4 a b c d).x (min4 a b c d).y d.x d.y=false) (m2:peqI (min4 a b c d).x (min4 a b c d).y a.x a.y=true) (w:World):Calls prog 158 #[a,b,c,d] w (Rt w (.int .i64 (-ori d b c))):=by
 have co:=zJ a b c;have cv:=zF d;rw [hv] at cv;obtain ⟨vva,vvb,vvc⟩:=yz h0;have cl:=qK a b c d vva vvb vvc hv;clear hv vva vvb vvc;rw [hl] at cl;clear hl;have cm:=uQ a b c d;generalize min4 a b c d=m at *
 have bo:=y6 a b c;generalize ori a b c=o at *
 have t0:(o == 0)=false:=by simpa using h0
 clear h0;have c2:=zJ d b c;have b2:=y6 d b c;generalize ori d b c=o2 at *
 go_enter func158,ntmps158
 go_wp2_with fail;refine qE4 λW1 Ba Bb Bc Bd hw=>?_;refine qC4 (co _) Ba Bb Bc Bd hw λw2 Ba Bb Bc Bd hw Fj=>?_;go_wp2_with fail;clear Fj;refine qC4 (cv _) Ba Bb Bc Bd hw λw3 Ba Bb Bc Bd hw Fj=>?_;go_wp2_with fail;clear Fj;refine qK4 (cl _) Ba Bb Bc Bd hw λw4 Ba Bb Bc Bd hw=>?_;have Fa:=Ba.f;have Fb:=Bb.f;have Fc:=Bc.f;have Fd:=Bd.f;go_wp2_with fail;refine zI λW5 hW=>?_;obtain ⟨bks,hbs⟩:∃ b,w4.heap.size=b:=⟨_,rfl⟩;rw [hbs];have Bs:Box W5 bks [a.x,a.y,b.x,b.y,c.x,c.y,d.x,d.y] 34:=by rw [hW];exact Box.new hbs.symm
 replace Ba:Box W5 w [a.x,a.y] 34:=by rw [hW];exact Ba.old _
 replace Bb:Box W5 (w+1) [b.x,b.y] 34:=by rw [hW];exact Bb.old _
 replace Bc:Box W5 (w+1+1) [c.x,c.y] 34:=by rw [hW];exact Bc.old _
 replace Bd:Box W5 (w+1+1+1) [d.x,d.y] 34:=by rw [hW];exact Bd.old _
 replace hw:Below w w W5:=by have hl:=hw.size;rw [hW];go_grown
 clear hW hbs;clear Fa Fb Fc Fd;refine qC5 (cm _ _ Bs) Ba Bb Bc Bd Bs hw λw6 Ba Bb Bc Bd Bs hw Hz=>?_;go_wp2_with fail;clear Hz;refine qK5 (c2 _) Ba Bb Bc Bd Bs hw λw7 Ba Bb Bc Bd Bs hw=>?_;go_wp2
 go_ret
 exact ⟨rfl,hw⟩
theorem circle_8 (a b c d:Pt) (h0:¬ ori a b c=0) (hv:vld d) (e1:peqI d.x d.y a.x a.y=false) (e2:peqI d.x d.y b.x b.y=false) (e3:peqI d.x d.y c.x c.y=false) (hl:sgn (lft a b c d)=0) (m1:peqI (min4 a b c d).x (min4 a b c d).y d.x d.y=false) (m2:peqI (min4 a b c d).x (min4 a b c d).y a.x a.y=false) (m3:peqI (min4 a b c d).x (min4 a b c d).y b.x b.y=true) (w:World):Calls prog 158 #[a,b,c,d] w (Rt w (.int .i64 (-ori a d c))):=by
 have co:=zJ a b c;have cv:=zF d;rw [hv] at cv;obtain ⟨vva,vvb,vvc⟩:=yz h0;have cl:=qK a b c d vva vvb vvc hv;clear hv vva vvb vvc;rw [hl] at cl;clear hl;have cm:=uQ a b c d;generalize min4 a b c d=m at *
 have bo:=y6 a b c;generalize ori a b c=o at *
 have t0:(o == 0)=false:=by simpa using h0
 clear h0;have c2:=zJ a d c;have b2:=y6 a d c;generalize ori a d c=o2 at *
 go_enter func158,ntmps158
 go_wp2_with fail;refine qE4 λW1 Ba Bb Bc Bd hw=>?_;refine qC4 (co _) Ba Bb Bc Bd hw λw2 Ba Bb Bc Bd hw Fj=>?_;go_wp2_with fail;clear Fj;refine qC4 (cv _) Ba Bb Bc Bd hw λw3 Ba Bb Bc Bd hw Fj=>?_;go_wp2_with fail;clear Fj;refine qK4 (cl _) Ba Bb Bc Bd hw λw4 Ba Bb Bc Bd hw=>?_;have Fa:=Ba.f;have Fb:=Bb.f;have Fc:=Bc.f;have Fd:=Bd.f;go_wp2_with fail;refine zI λW5 hW=>?_;obtain ⟨bks,hbs⟩:∃ b,w4.heap.size=b:=⟨_,rfl⟩;rw [hbs];have Bs:Box W5 bks [a.x,a.y,b.x,b.y,c.x,c.y,d.x,d.y] 34:=by rw [hW];exact Box.new hbs.symm
 replace Ba:Box W5 w [a.x,a.y] 34:=by rw [hW];exact Ba.old _
 replace Bb:Box W5 (w+1) [b.x,b.y] 34:=by rw [hW];exact Bb.old _
 replace Bc:Box W5 (w+1+1) [c.x,c.y] 34:=by rw [hW];exact Bc.old _
 replace Bd:Box W5 (w+1+1+1) [d.x,d.y] 34:=by rw [hW];exact Bd.old _
 replace hw:Below w w W5:=by have hl:=hw.size;rw [hW];go_grown
 clear hW hbs;clear Fa Fb Fc Fd;refine qC5 (cm _ _ Bs) Ba Bb Bc Bd Bs hw λw6 Ba Bb Bc Bd Bs hw Hz=>?_;go_wp2_with fail;clear Hz;refine qK5 (c2 _) Ba Bb Bc Bd Bs hw λw7 Ba Bb Bc Bd Bs hw=>?_;go_wp2
 go_ret
 exact ⟨rfl,hw⟩
theorem circle_9 (a b c d:Pt) (h0:¬ ori a b c=0) (hv:vld d) (e1:peqI d.x d.y a.x a.y=false) (e2:peqI d.x d.y b.x b.y=false) (e3:peqI d.x d.y c.x c.y=false) (hl:sgn (lft a b c d)=0) (m1:peqI (min4 a b c d).x (min4 a b c d).y d.x d.y=false) (m2:peqI (min4 a b c d).x (min4 a b c d).y a.x a.y=false) (m3:peqI (min4 a b c d).x (min4 a b c d).y b.x b.y=false) (w:World):Calls prog 158 #[a,b,c,d] w (Rt w (.int .i64 (-ori a b d))):=by
 have co:=zJ a b c;have cv:=zF d;rw [hv] at cv;obtain ⟨vva,vvb,vvc⟩:=yz h0;have cl:=qK a b c d vva vvb vvc hv;clear hv vva vvb vvc;rw [hl] at cl;clear hl;have cm:=uQ a b c d;generalize min4 a b c d=m at *
 have bo:=y6 a b c;generalize ori a b c=o at *
 have t0:(o == 0)=false:=by simpa using h0
 clear h0;have c2:=zJ a b d;have b2:=y6 a b d;generalize ori a b d=o2 at *
 go_enter func158,ntmps158
 go_wp2_with fail;refine qE4 λW1 Ba Bb Bc Bd hw=>?_;refine qC4 (co _) Ba Bb Bc Bd hw λw2 Ba Bb Bc Bd hw Fj=>?_;go_wp2_with fail;clear Fj;refine qC4 (cv _) Ba Bb Bc Bd hw λw3 Ba Bb Bc Bd hw Fj=>?_;go_wp2_with fail;clear Fj;refine qK4 (cl _) Ba Bb Bc Bd hw λw4 Ba Bb Bc Bd hw=>?_;have Fa:=Ba.f;have Fb:=Bb.f;have Fc:=Bc.f;have Fd:=Bd.f;go_wp2_with fail;refine zI λW5 hW=>?_;obtain ⟨bks,hbs⟩:∃ b,w4.heap.size=b:=⟨_,rfl⟩;rw [hbs];have Bs:Box W5 bks [a.x,a.y,b.x,b.y,c.x,c.y,d.x,d.y] 34:=by rw [hW];exact Box.new hbs.symm
 replace Ba:Box W5 w [a.x,a.y] 34:=by rw [hW];exact Ba.old _
 replace Bb:Box W5 (w+1) [b.x,b.y] 34:=by rw [hW];exact Bb.old _
 replace Bc:Box W5 (w+1+1) [c.x,c.y] 34:=by rw [hW];exact Bc.old _
 replace Bd:Box W5 (w+1+1+1) [d.x,d.y] 34:=by rw [hW];exact Bd.old _
 replace hw:Below w w W5:=by have hl:=hw.size;rw [hW];go_grown
 clear hW hbs;clear Fa Fb Fc Fd;refine qC5 (cm _ _ Bs) Ba Bb Bc Bd Bs hw λw6 Ba Bb Bc Bd Bs hw Hz=>?_;go_wp2_with fail;clear Hz;refine qK5 (c2 _) Ba Bb Bc Bd Bs hw λw7 Ba Bb Bc Bd Bs hw=>?_;go_wp2
 go_ret
 exact ⟨rfl,hw⟩
theorem circle_any (a b c d:Pt) (w:World):Calls prog 158 #[a,b,c,d] w (Rt w (.int .i64 (circ a b c d))):=by
 by_cases h0:ori a b c=0
 ·rw [show circ a b c d=0 by unfold circ;rw [JH h0]];exact circle_0 a b c d h0 w
 cases hv:vld d with
 | false=>rw [show circ a b c d=0 by unfold circ;rw [J0 h0,JH hv]];exact circle_1 a b c d h0 hv w
 | true=>
 have nv:¬ vld d=false:=by rw [hv];simp
 cases e1:peqI d.x d.y a.x a.y with
 | true=>rw [show circ a b c d=0 by unfold circ;rw [J0 h0,J0 nv,JH e1]];exact circle_2 a b c d h0 hv e1 w
 | false=>
 have n1:¬ peqI d.x d.y a.x a.y=true:=by rw [e1];simp
 cases e2:peqI d.x d.y b.x b.y with
 | true=>rw [show circ a b c d=0 by unfold circ;rw [J0 h0,J0 nv,J0 n1,JH e2]];exact circle_3 a b c d h0 hv e1 e2 w
 | false=>
 have n2:¬ peqI d.x d.y b.x b.y=true:=by rw [e2];simp
 cases e3:peqI d.x d.y c.x c.y with
 | true=>rw [show circ a b c d=0 by unfold circ;rw [J0 h0,J0 nv,J0 n1,J0 n2,JH e3]];exact circle_4 a b c d h0 hv e1 e2 e3 w
 | false=>
 have n3:¬ peqI d.x d.y c.x c.y=true:=by rw [e3];simp
 by_cases hl:sgn (lft a b c d)=0
 ·have ec : circ a b c d = tie a b c d (min4 a b c d) (ori a b c) := by
    unfold circ;rw [J0 h0,J0 nv,J0 n1,J0 n2,J0 n3,J0 (λh=>h hl)]
  rw [ec];cases m1:peqI (min4 a b c d).x (min4 a b c d).y d.x d.y with
  | true=>rw [show tie a b c d (min4 a b c d) (ori a b c)=ori a b c by unfold tie;rw [JH m1]];exact circle_6 a b c d h0 hv e1 e2 e3 hl m1 w
  | false=>
  have k1:¬ peqI (min4 a b c d).x (min4 a b c d).y d.x d.y=true:=by rw [m1];simp
  cases m2:peqI (min4 a b c d).x (min4 a b c d).y a.x a.y with
  | true=>rw [show tie a b c d (min4 a b c d) (ori a b c) = -ori d b c by unfold tie;rw [J0 k1,JH m2]];exact circle_7 a b c d h0 hv e1 e2 e3 hl m1 m2 w
  | false=>
  have k2:¬ peqI (min4 a b c d).x (min4 a b c d).y a.x a.y=true:=by rw [m2];simp
  cases m3:peqI (min4 a b c d).x (min4 a b c d).y b.x b.y with
  | true=>rw [show tie a b c d (min4 a b c d) (ori a b c) = -ori a d c by unfold tie;rw [J0 k1,J0 k2,JH m3]];exact circle_8 a b c d h0 hv e1 e2 e3 hl m1 m2 m3 w
  | false=>
  have k3:¬ peqI (min4 a b c d).x (min4 a b c d).y b.x b.y=true:=by rw [m3];simp
  rw [show tie a b c d (min4 a b c d) (ori a b c) = -ori a b d by unfold tie;rw [J0 k1,J0 k2,J0 k3]];exact circle_9 a b c d h0 hv e1 e2 e3 hl m1 m2 m3 w
 ·rw [show circ a b c d=sgn (lft a b c d) by unfold circ;rw [J0 h0,J0 nv,J0 n1,J0 n2,J0 n3,JH hl]];exact circle_5 a b c d h0 hv e1 e2 e3 hl w
theorem jo (p q:Pt) : -1<=cmpP p q/\cmpP p q<=1:=by unfold cmpP;split <;> exact sgn_bd _
theorem kz {a b:Int} (ha : -1<=a/\a<=1) (hb : -1<=b/\b<=1) : -1<=a * b/\a * b<=1:=by
 have h1:a = -1\/a=0\/a=1:=by omega
 rcases h1 with rfl | rfl | rfl <;> omega
def onS (p a b:Pt):Bool:=vld p && (vld a && (vld b && (decide (ori a b p=0) && decide (0<=cmpP a p * cmpP p b))))
theorem on_0 (p a b:Pt) (hp:vld p=false) (w:World):Calls prog 108 #[p,a,b] w (Rt w (.bool false)):=by
 have cp:=zF p;rw [hp] at cp;clear hp
 go_enter func108,ntmps108
 go_wp2_with fail;refine qE3 λW1 Bp Ba Bb hw=>?_;refine qC3 (cp _) Bp Ba Bb hw λw2 Bp Ba Bb hw FY=>?_;go_wp2
 go_ret
 exact ⟨rfl,hw⟩
theorem on_1 (p a b:Pt) (hp:vld p) (ha:vld a=false) (w:World):Calls prog 108 #[p,a,b] w (Rt w (.bool false)):=by
 have cp:=zF p;rw [hp] at cp;clear hp;have ca:=zF a;rw [ha] at ca;clear ha
 go_enter func108,ntmps108
 go_wp2_with fail;refine qE3 λW1 Bp Ba Bb hw=>?_;refine qC3 (cp _) Bp Ba Bb hw λw2 Bp Ba Bb hw FY=>?_;go_wp2_with fail;clear FY;refine qC3 (ca _) Bp Ba Bb hw λw3 Bp Ba Bb hw FY=>?_;go_wp2
 go_ret
 exact ⟨rfl,hw⟩
theorem on_2 (p a b:Pt) (hp:vld p) (ha:vld a) (hb:vld b=false) (w:World):Calls prog 108 #[p,a,b] w (Rt w (.bool false)):=by
 have cp:=zF p;rw [hp] at cp;clear hp;have ca:=zF a;rw [ha] at ca;clear ha;have cb:=zF b;rw [hb] at cb;clear hb
 go_enter func108,ntmps108
 go_wp2_with fail;refine qE3 λW1 Bp Ba Bb hw=>?_;refine qC3 (cp _) Bp Ba Bb hw λw2 Bp Ba Bb hw FY=>?_;go_wp2_with fail;clear FY;refine qC3 (ca _) Bp Ba Bb hw λw3 Bp Ba Bb hw FY=>?_;go_wp2_with fail;clear FY;refine qC3 (cb _) Bp Ba Bb hw λw4 Bp Ba Bb hw FY=>?_;go_wp2
 go_ret
 exact ⟨rfl,hw⟩
theorem on_3 (p a b:Pt) (hp:vld p) (ha:vld a) (hb:vld b) (h0:¬ ori a b p=0) (w:World):Calls prog 108 #[p,a,b] w (Rt w (.bool false)):=by
 have cp:=zF p;rw [hp] at cp;clear hp;have ca:=zF a;rw [ha] at ca;clear ha;have cb:=zF b;rw [hb] at cb;clear hb;have co:=zJ a b p;generalize ori a b p=o at *
 have t0:(o == 0)=false:=by simpa using h0
 clear h0
 go_enter func108,ntmps108
 go_wp2_with fail;refine qE3 λW1 Bp Ba Bb hw=>?_;refine qC3 (cp _) Bp Ba Bb hw λw2 Bp Ba Bb hw FY=>?_;go_wp2_with fail;clear FY;refine qC3 (ca _) Bp Ba Bb hw λw3 Bp Ba Bb hw FY=>?_;go_wp2_with fail;clear FY;refine qC3 (cb _) Bp Ba Bb hw λw4 Bp Ba Bb hw FY=>?_;go_wp2;refine zG λW9 hW=>?_;subst hW;clear FY;have Hu:=J3 Bp.cells Ba.cells Bb.cells;refine rgn 15 (λw5 hb=>?_);clear Hu;obtain ⟨Bp,Ba,Bb,hw,-⟩:=qX3 Bp Ba Bb hw hb;go_wp2
 go_ret
 exact ⟨rfl,hw⟩
theorem on_4 (p a b:Pt) (hp:vld p) (ha:vld a) (hb:vld b) (h0:ori a b p=0) (w:World):Calls prog 108 #[p,a,b] w (Rt w (.bool (decide (0<=cmpP a p * cmpP p b)))):=by
 have cp:=zF p;rw [hp] at cp;clear hp;have ca:=zF a;rw [ha] at ca;clear ha;have cb:=zF b;rw [hb] at cb;clear hb;have co:=zJ a b p;rw [h0] at co;have c1:=zo a p;have c2:=zo p b;have q:=kz (jo a p) (jo p b);generalize cmpP a p=x at *
 generalize cmpP p b=y at *
 have ew:IntKind.i64.wrap (x * y)=x * y:=by rw [IntKind.wrap_i64];omega
 clear h0 q
 go_enter func108,ntmps108
 go_wp2_with fail;refine qE3 λW1 Bp Ba Bb hw=>?_;refine qC3 (cp _) Bp Ba Bb hw λw2 Bp Ba Bb hw FY=>?_;go_wp2_with fail;clear FY;refine qC3 (ca _) Bp Ba Bb hw λw3 Bp Ba Bb hw FY=>?_;go_wp2_with fail;clear FY;refine qC3 (cb _) Bp Ba Bb hw λw4 Bp Ba Bb hw FY=>?_;go_wp2;refine zG λW9 hW=>?_;subst hW;clear FY;have Hu:=J3 Bp.cells Ba.cells Bb.cells;refine rgn 15 (λw5 hb=>?_);clear Hu;obtain ⟨Bp,Ba,Bb,hw,-⟩:=qX3 Bp Ba Bb hw hb;go_wp2
 go_ret
 exact ⟨rfl,hw⟩
theorem on_any (p a b:Pt) (w:World):Calls prog 108 #[p,a,b] w (Rt w (.bool (onS p a b))):=by
 cases hp:vld p with
 | false=>rw [show onS p a b=false by unfold onS;rw [hp];rfl];exact on_0 p a b hp w
 | true=>cases ha:vld a with
  | false=>rw [show onS p a b=false by unfold onS;rw [hp,ha];rfl];exact on_1 p a b hp ha w
  | true=>cases hb:vld b with
   | false=>rw [show onS p a b=false by unfold onS;rw [hp,ha,hb];rfl];exact on_2 p a b hp ha hb w
   | true=>
    by_cases h0:ori a b p=0
    ·rw [show onS p a b=decide (0<=cmpP a p * cmpP p b) by unfold onS;rw [hp,ha,hb,h0];rfl];exact on_4 p a b hp ha hb h0 w
    ·rw [show onS p a b=false by unfold onS;rw [hp,ha,hb];simp [h0]];exact on_3 p a b hp ha hb h0 w
def lo2 (p q:Pt):Pt:=if cmpP q p < 0 then q else p
def hi2 (p q:Pt):Pt:=if cmpP q p < 0 then p else q
def mil (a b c d:Pt):Int:=if cmpP (lo2 a b) (hi2 c d) < 0 then (if cmpP (lo2 c d) (hi2 a b) < 0 then 3 else 0) else 0
theorem mil_000 (a b c d:Pt) (g1:decide (cmpP b a < 0)=false) (g2:decide (cmpP d c < 0)=false) (g3:decide (cmpP a d < 0)=false) (w:World):Calls prog 173 #[a,b,c,d] w (Rt w (.int .i64 0)):=by
 have k1:=zo b a;have k2:=zo d c;have k3:=zo a d;generalize cmpP b a=x0 at *
 generalize cmpP d c=x1 at *
 generalize cmpP a d=x2 at *
 go_enter func173,ntmps173
 go_wp2_with fail;refine qE4 λW1 Ba Bb Bc Bd hw=>?_;refine qC4 (k1 _) Ba Bb Bc Bd hw λw2 Ba Bb Bc Bd hw Fj=>?_;go_wp2_with fail;clear Fj;refine qC4 (k2 _) Ba Bb Bc Bd hw λw3 Ba Bb Bc Bd hw Fj=>?_;go_wp2_with fail;clear Fj;refine qK4 (k3 _) Ba Bb Bc Bd hw λw4 Ba Bb Bc Bd hw=>?_;go_wp2
 go_ret
 exact ⟨rfl,hw⟩
theorem mil_001 (a b c d:Pt) (g1:decide (cmpP b a < 0)=false) (g2:decide (cmpP d c < 0)=false) (g3:decide (cmpP a d < 0)=true) (g4:decide (cmpP c b < 0)=false) (w:World):Calls prog 173 #[a,b,c,d] w (Rt w (.int .i64 0)):=by
 have k1:=zo b a;have k2:=zo d c;have k3:=zo a d;have k4:=zo c b;generalize cmpP b a=x0 at *
 generalize cmpP d c=x1 at *
 generalize cmpP a d=x2 at *
 generalize cmpP c b=x3 at *
 go_enter func173,ntmps173
 go_wp2_with fail;refine qE4 λW1 Ba Bb Bc Bd hw=>?_;refine qC4 (k1 _) Ba Bb Bc Bd hw λw2 Ba Bb Bc Bd hw Fj=>?_;go_wp2_with fail;clear Fj;refine qC4 (k2 _) Ba Bb Bc Bd hw λw3 Ba Bb Bc Bd hw Fj=>?_;go_wp2_with fail;clear Fj;refine qC4 (k3 _) Ba Bb Bc Bd hw λw4 Ba Bb Bc Bd hw Fj=>?_;go_wp2_with fail;clear Fj;refine qK4 (k4 _) Ba Bb Bc Bd hw λw5 Ba Bb Bc Bd hw=>?_;go_wp2
 go_ret
 exact ⟨rfl,hw⟩
theorem mil_002 (a b c d:Pt) (g1:decide (cmpP b a < 0)=false) (g2:decide (cmpP d c < 0)=false) (g3:decide (cmpP a d < 0)=true) (g4:decide (cmpP c b < 0)=true) (w:World):Calls prog 173 #[a,b,c,d] w (Rt w (.int .i64 3)):=by
 have k1:=zo b a;have k2:=zo d c;have k3:=zo a d;have k4:=zo c b;generalize cmpP b a=x0 at *
 generalize cmpP d c=x1 at *
 generalize cmpP a d=x2 at *
 generalize cmpP c b=x3 at *
 go_enter func173,ntmps173
 go_wp2_with fail;refine qE4 λW1 Ba Bb Bc Bd hw=>?_;refine qC4 (k1 _) Ba Bb Bc Bd hw λw2 Ba Bb Bc Bd hw Fj=>?_;go_wp2_with fail;clear Fj;refine qC4 (k2 _) Ba Bb Bc Bd hw λw3 Ba Bb Bc Bd hw Fj=>?_;go_wp2_with fail;clear Fj;refine qC4 (k3 _) Ba Bb Bc Bd hw λw4 Ba Bb Bc Bd hw Fj=>?_;go_wp2_with fail;clear Fj;refine qK4 (k4 _) Ba Bb Bc Bd hw λw5 Ba Bb Bc Bd hw=>?_;go_wp2
 go_ret
 exact ⟨rfl,hw⟩
theorem mil_010 (a b c d:Pt) (g1:decide (cmpP b a < 0)=false) (g2:decide (cmpP d c < 0)=true) (g3:decide (cmpP a c < 0)=false) (w:World):Calls prog 173 #[a,b,c,d] w (Rt w (.int .i64 0)):=by
 have k1:=zo b a;have k2:=zo d c;have k3:=zo a c;generalize cmpP b a=x0 at *
 generalize cmpP d c=x1 at *
 generalize cmpP a c=x2 at *
 go_enter func173,ntmps173
 go_wp2_with fail;refine qE4 λW1 Ba Bb Bc Bd hw=>?_;refine qC4 (k1 _) Ba Bb Bc Bd hw λw2 Ba Bb Bc Bd hw Fj=>?_;go_wp2_with fail;clear Fj;refine qC4 (k2 _) Ba Bb Bc Bd hw λw3 Ba Bb Bc Bd hw Fj=>?_;go_wp2_with fail;refine zI λW4 hW=>?_;replace Ba:=sto Ba hW;replace Bb:=sto Bb hW;replace Bc:=sto Bc hW;replace Bd:=sto Bd hW;replace hw:=stw hw hW;clear Fj;clear hW;refine qK4 (k3 _) Ba Bb Bc Bd hw λw5 Ba Bb Bc Bd hw=>?_;go_wp2
 go_ret
 exact ⟨rfl,hw⟩
theorem mil_011 (a b c d:Pt) (g1:decide (cmpP b a < 0)=false) (g2:decide (cmpP d c < 0)=true) (g3:decide (cmpP a c < 0)=true) (g4:decide (cmpP d b < 0)=false) (w:World):Calls prog 173 #[a,b,c,d] w (Rt w (.int .i64 0)):=by
 have k1:=zo b a;have k2:=zo d c;have k3:=zo a c;have k4:=zo d b;generalize cmpP b a=x0 at *
 generalize cmpP d c=x1 at *
 generalize cmpP a c=x2 at *
 generalize cmpP d b=x3 at *
 go_enter func173,ntmps173
 go_wp2_with fail;refine qE4 λW1 Ba Bb Bc Bd hw=>?_;refine qC4 (k1 _) Ba Bb Bc Bd hw λw2 Ba Bb Bc Bd hw Fj=>?_;go_wp2_with fail;clear Fj;refine qC4 (k2 _) Ba Bb Bc Bd hw λw3 Ba Bb Bc Bd hw Fj=>?_;go_wp2_with fail;refine zI λW4 hW=>?_;replace Ba:=sto Ba hW;replace Bb:=sto Bb hW;replace Bc:=sto Bc hW;replace Bd:=sto Bd hW;replace hw:=stw hw hW;clear Fj;clear hW;refine qC4 (k3 _) Ba Bb Bc Bd hw λw5 Ba Bb Bc Bd hw Fj=>?_;go_wp2_with fail;clear Fj;refine qK4 (k4 _) Ba Bb Bc Bd hw λw6 Ba Bb Bc Bd hw=>?_;go_wp2
 go_ret
 exact ⟨rfl,hw⟩
theorem mil_012 (a b c d:Pt) (g1:decide (cmpP b a < 0)=false) (g2:decide (cmpP d c < 0)=true) (g3:decide (cmpP a c < 0)=true) (g4:decide (cmpP d b < 0)=true) (w:World):Calls prog 173 #[a,b,c,d] w (Rt w (.int .i64 3)):=by
 have k1:=zo b a;have k2:=zo d c;have k3:=zo a c;have k4:=zo d b;generalize cmpP b a=x0 at *
 generalize cmpP d c=x1 at *
 generalize cmpP a c=x2 at *
 generalize cmpP d b=x3 at *
 go_enter func173,ntmps173
 go_wp2_with fail;refine qE4 λW1 Ba Bb Bc Bd hw=>?_;refine qC4 (k1 _) Ba Bb Bc Bd hw λw2 Ba Bb Bc Bd hw Fj=>?_;go_wp2_with fail;clear Fj;refine qC4 (k2 _) Ba Bb Bc Bd hw λw3 Ba Bb Bc Bd hw Fj=>?_;go_wp2_with fail;refine zI λW4 hW=>?_;replace Ba:=sto Ba hW;replace Bb:=sto Bb hW;replace Bc:=sto Bc hW;replace Bd:=sto Bd hW;replace hw:=stw hw hW;clear Fj;clear hW;refine qC4 (k3 _) Ba Bb Bc Bd hw λw5 Ba Bb Bc Bd hw Fj=>?_;go_wp2_with fail;clear Fj;refine qK4 (k4 _) Ba Bb Bc Bd hw λw6 Ba Bb Bc Bd hw=>?_;go_wp2
 go_ret
 exact ⟨rfl,hw⟩
theorem mil_100 (a b c d:Pt) (g1:decide (cmpP b a < 0)=true) (g2:decide (cmpP d c < 0)=false) (g3:decide (cmpP b d < 0)=false) (w:World):Calls prog 173 #[a,b,c,d] w (Rt w (.int .i64 0)):=by
 have k1:=zo b a;have k2:=zo d c;have k3:=zo b d;generalize cmpP b a=x0 at *
 generalize cmpP d c=x1 at *
 generalize cmpP b d=x2 at *
 go_enter func173,ntmps173
 go_wp2_with fail;refine qE4 λW1 Ba Bb Bc Bd hw=>?_;refine qC4 (k1 _) Ba Bb Bc Bd hw λw2 Ba Bb Bc Bd hw Fj=>?_;go_wp2_with fail;refine zI λW3 hW=>?_;replace Ba:=sto Ba hW;replace Bb:=sto Bb hW;replace Bc:=sto Bc hW;replace Bd:=sto Bd hW;replace hw:=stw hw hW;clear Fj;clear hW;refine qC4 (k2 _) Ba Bb Bc Bd hw λw4 Ba Bb Bc Bd hw Fj=>?_;go_wp2_with fail;clear Fj;refine qK4 (k3 _) Ba Bb Bc Bd hw λw5 Ba Bb Bc Bd hw=>?_;go_wp2
 go_ret
 exact ⟨rfl,hw⟩
theorem mil_101 (a b c d:Pt) (g1:decide (cmpP b a < 0)=true) (g2:decide (cmpP d c < 0)=false) (g3:decide (cmpP b d < 0)=true) (g4:decide (cmpP c a < 0)=false) (w:World):Calls prog 173 #[a,b,c,d] w (Rt w (.int .i64 0)):=by
 have k1:=zo b a;have k2:=zo d c;have k3:=zo b d;have k4:=zo c a;generalize cmpP b a=x0 at *
 generalize cmpP d c=x1 at *
 generalize cmpP b d=x2 at *
 generalize cmpP c a=x3 at *
 go_enter func173,ntmps173
 go_wp2_with fail;refine qE4 λW1 Ba Bb Bc Bd hw=>?_;refine qC4 (k1 _) Ba Bb Bc Bd hw λw2 Ba Bb Bc Bd hw Fj=>?_;go_wp2_with fail;refine zI λW3 hW=>?_;replace Ba:=sto Ba hW;replace Bb:=sto Bb hW;replace Bc:=sto Bc hW;replace Bd:=sto Bd hW;replace hw:=stw hw hW;clear Fj;clear hW;refine qC4 (k2 _) Ba Bb Bc Bd hw λw4 Ba Bb Bc Bd hw Fj=>?_;go_wp2_with fail;clear Fj;refine qC4 (k3 _) Ba Bb Bc Bd hw λw5 Ba Bb Bc Bd hw Fj=>?_;go_wp2_with fail;clear Fj;refine qK4 (k4 _) Ba Bb Bc Bd hw λw6 Ba Bb Bc Bd hw=>?_;go_wp2
 go_ret
 exact ⟨rfl,hw⟩
theorem mil_102 (a b c d:Pt) (g1:decide (cmpP b a < 0)=true) (g2:decide (cmpP d c < 0)=false) (g3:decide (cmpP b d < 0)=true) (g4:decide (cmpP c a < 0)=true) (w:World):Calls prog 173 #[a,b,c,d] w (Rt w (.int .i64 3)):=by
 have k1:=zo b a;have k2:=zo d c;have k3:=zo b d;have k4:=zo c a;generalize cmpP b a=x0 at *
 generalize cmpP d c=x1 at *
 generalize cmpP b d=x2 at *
 generalize cmpP c a=x3 at *
 go_enter func173,ntmps173
 go_wp2_with fail;refine qE4 λW1 Ba Bb Bc Bd hw=>?_;refine qC4 (k1 _) Ba Bb Bc Bd hw λw2 Ba Bb Bc Bd hw Fj=>?_;go_wp2_with fail;refine zI λW3 hW=>?_;replace Ba:=sto Ba hW;replace Bb:=sto Bb hW;replace Bc:=sto Bc hW;replace Bd:=sto Bd hW;replace hw:=stw hw hW;clear Fj;clear hW;refine qC4 (k2 _) Ba Bb Bc Bd hw λw4 Ba Bb Bc Bd hw Fj=>?_;go_wp2_with fail;clear Fj;refine qC4 (k3 _) Ba Bb Bc Bd hw λw5 Ba Bb Bc Bd hw Fj=>?_;go_wp2_with fail;clear Fj;refine qK4 (k4 _) Ba Bb Bc Bd hw λw6 Ba Bb Bc Bd hw=>?_;go_wp2
 go_ret
 exact ⟨rfl,hw⟩
theorem mil_110 (a b c d:Pt) (g1:decide (cmpP b a < 0)=true) (g2:decide (cmpP d c < 0)=true) (g3:decide (cmpP b c < 0)=false) (w:World):Calls prog 173 #[a,b,c,d] w (Rt w (.int .i64 0)):=by
 have k1:=zo b a;have k2:=zo d c;have k3:=zo b c;generalize cmpP b a=x0 at *
 generalize cmpP d c=x1 at *
 generalize cmpP b c=x2 at *
 go_enter func173,ntmps173
 go_wp2_with fail;refine qE4 λW1 Ba Bb Bc Bd hw=>?_;refine qC4 (k1 _) Ba Bb Bc Bd hw λw2 Ba Bb Bc Bd hw Fj=>?_;go_wp2_with fail;refine zI λW3 hW=>?_;replace Ba:=sto Ba hW;replace Bb:=sto Bb hW;replace Bc:=sto Bc hW;replace Bd:=sto Bd hW;replace hw:=stw hw hW;clear Fj;clear hW;refine qC4 (k2 _) Ba Bb Bc Bd hw λw4 Ba Bb Bc Bd hw Fj=>?_;go_wp2_with fail;refine zI λW5 hW=>?_;replace Ba:=sto Ba hW;replace Bb:=sto Bb hW;replace Bc:=sto Bc hW;replace Bd:=sto Bd hW;replace hw:=stw hw hW;clear Fj;clear hW;refine qK4 (k3 _) Ba Bb Bc Bd hw λw6 Ba Bb Bc Bd hw=>?_;go_wp2
 go_ret
 exact ⟨rfl,hw⟩
theorem mil_111 (a b c d:Pt) (g1:decide (cmpP b a < 0)=true) (g2:decide (cmpP d c < 0)=true) (g3:decide (cmpP b c < 0)=true) (g4:decide (cmpP d a < 0)=false) (w:World):Calls prog 173 #[a,b,c,d] w (Rt w (.int .i64 0)):=by
 have k1:=zo b a;have k2:=zo d c;have k3:=zo b c;have k4:=zo d a;generalize cmpP b a=x0 at *
 generalize cmpP d c=x1 at *
 generalize cmpP b c=x2 at *
 generalize cmpP d a=x3 at *
 go_enter func173,ntmps173
 go_wp2_with fail;refine qE4 λW1 Ba Bb Bc Bd hw=>?_;refine qC4 (k1 _) Ba Bb Bc Bd hw λw2 Ba Bb Bc Bd hw Fj=>?_;go_wp2_with fail;refine zI λW3 hW=>?_;replace Ba:=sto Ba hW;replace Bb:=sto Bb hW;replace Bc:=sto Bc hW;replace Bd:=sto Bd hW;replace hw:=stw hw hW;clear Fj;clear hW;refine qC4 (k2 _) Ba Bb Bc Bd hw λw4 Ba Bb Bc Bd hw Fj=>?_;go_wp2_with fail;refine zI λW5 hW=>?_;replace Ba:=sto Ba hW;replace Bb:=sto Bb hW;replace Bc:=sto Bc hW;replace Bd:=sto Bd hW;replace hw:=stw hw hW;clear Fj;clear hW;refine qC4 (k3 _) Ba Bb Bc Bd hw λw6 Ba Bb Bc Bd hw Fj=>?_;go_wp2_with fail;clear Fj;refine qK4 (k4 _) Ba Bb Bc Bd hw λw7 Ba Bb Bc Bd hw=>?_;go_wp2
 go_ret
 exact ⟨rfl,hw⟩
theorem mil_112 (a b c d:Pt) (g1:decide (cmpP b a < 0)=true) (g2:decide (cmpP d c < 0)=true) (g3:decide (cmpP b c < 0)=true) (g4:decide (cmpP d a < 0)=true) (w:World):Calls prog 173 #[a,b,c,d] w (Rt w (.int .i64 3)):=by
 have k1:=zo b a;have k2:=zo d c;have k3:=zo b c;have k4:=zo d a;generalize cmpP b a=x0 at *
 generalize cmpP d c=x1 at *
 generalize cmpP b c=x2 at *
 generalize cmpP d a=x3 at *
 go_enter func173,ntmps173
 go_wp2_with fail;refine qE4 λW1 Ba Bb Bc Bd hw=>?_;refine qC4 (k1 _) Ba Bb Bc Bd hw λw2 Ba Bb Bc Bd hw Fj=>?_;go_wp2_with fail;refine zI λW3 hW=>?_;replace Ba:=sto Ba hW;replace Bb:=sto Bb hW;replace Bc:=sto Bc hW;replace Bd:=sto Bd hW;replace hw:=stw hw hW;clear Fj;clear hW;refine qC4 (k2 _) Ba Bb Bc Bd hw λw4 Ba Bb Bc Bd hw Fj=>?_;go_wp2_with fail;refine zI λW5 hW=>?_;replace Ba:=sto Ba hW;replace Bb:=sto Bb hW;replace Bc:=sto Bc hW;replace Bd:=sto Bd hW;replace hw:=stw hw hW;clear Fj;clear hW;refine qC4 (k3 _) Ba Bb Bc Bd hw λw6 Ba Bb Bc Bd hw Fj=>?_;go_wp2_with fail;clear Fj;refine qK4 (k4 _) Ba Bb Bc Bd hw λw7 Ba Bb Bc Bd hw=>?_;go_wp2
 go_ret
 exact ⟨rfl,hw⟩
theorem mil_any (a b c d:Pt) (w:World):Calls prog 173 #[a,b,c,d] w (Rt w (.int .i64 (mil a b c d))):=by
 have dt:∀ {x:Int},x < 0->decide (x < 0)=true:=λh=>by simpa using h
 have df:∀ {x:Int},¬ x < 0->decide (x < 0)=false:=λh=>by simpa using h
 unfold mil lo2 hi2;by_cases g1:cmpP b a < 0
 ·by_cases g2:cmpP d c < 0
  ·simp only [JH g1,JH g2];by_cases g3:cmpP b c < 0
   ·by_cases g4:cmpP d a < 0
    ·rw [JH g3,JH g4];exact mil_112 a b c d (dt g1) (dt g2) (dt g3) (dt g4) w
    ·rw [JH g3,J0 g4];exact mil_111 a b c d (dt g1) (dt g2) (dt g3) (df g4) w
   ·rw [J0 g3];exact mil_110 a b c d (dt g1) (dt g2) (df g3) w
  ·simp only [JH g1,J0 g2];by_cases g3:cmpP b d < 0
   ·by_cases g4:cmpP c a < 0
    ·rw [JH g3,JH g4];exact mil_102 a b c d (dt g1) (df g2) (dt g3) (dt g4) w
    ·rw [JH g3,J0 g4];exact mil_101 a b c d (dt g1) (df g2) (dt g3) (df g4) w
   ·rw [J0 g3];exact mil_100 a b c d (dt g1) (df g2) (df g3) w
 ·by_cases g2:cmpP d c < 0
  ·simp only [J0 g1,JH g2];by_cases g3:cmpP a c < 0
   ·by_cases g4:cmpP d b < 0
    ·rw [JH g3,JH g4];exact mil_012 a b c d (df g1) (dt g2) (dt g3) (dt g4) w
    ·rw [JH g3,J0 g4];exact mil_011 a b c d (df g1) (dt g2) (dt g3) (df g4) w
   ·rw [J0 g3];exact mil_010 a b c d (df g1) (dt g2) (df g3) w
  ·simp only [J0 g1,J0 g2];by_cases g3:cmpP a d < 0
   ·by_cases g4:cmpP c b < 0
    ·rw [JH g3,JH g4];exact mil_002 a b c d (df g1) (df g2) (dt g3) (dt g4) w
    ·rw [JH g3,J0 g4];exact mil_001 a b c d (df g1) (df g2) (dt g3) (df g4) w
   ·rw [J0 g3];exact mil_000 a b c d (df g1) (df g2) (df g3) w
def fin (sA sB sC sD:Int):Int:=if sA=sB then 0 else if sC=sD then 0 else if sA=0 then 2 else if sB=0 then 2 else if sC=0 then 2 else if sD=0 then 2 else 1
def meetS (a b c d:Pt):Int:=
 if vld a=false then 0 else if vld b=false then 0 else if vld c=false then 0 else if vld d=false then 0 else if peqI a.x a.y b.x b.y=true then 0 else if peqI c.x c.y d.x d.y=true then 0
 else if ori a b c=0/\ori a b d=0 then mil a b c d
 else if peqI a.x a.y c.x c.y=true then 0 else if peqI a.x a.y d.x d.y=true then 0 else if peqI b.x b.y c.x c.y=true then 0 else if peqI b.x b.y d.x d.y=true then 0
 else fin (ori c d a) (ori c d b) (ori a b c) (ori a b d)
theorem meet_v0 (a b c d:Pt) (ha:vld a=false) (w:World):Calls prog 151 #[a,b,c,d] w (Rt w (.int .i64 0)):=by
 have ca:=zF a;rw [ha] at ca;clear ha
 go_enter func151,ntmps151
 go_wp2_with fail;refine qE4 λW1 Ba Bb Bc Bd hw=>?_;refine qC4 (ca _) Ba Bb Bc Bd hw λw2 Ba Bb Bc Bd hw Fj=>?_;go_wp2
 go_ret
 exact ⟨rfl,hw⟩
theorem meet_v1 (a b c d:Pt) (ha:vld a) (hb:vld b=false) (w:World):Calls prog 151 #[a,b,c,d] w (Rt w (.int .i64 0)):=by
 have ca:=zF a;rw [ha] at ca;clear ha;have cb:=zF b;rw [hb] at cb;clear hb
 go_enter func151,ntmps151
 go_wp2_with fail;refine qE4 λW1 Ba Bb Bc Bd hw=>?_;refine qC4 (ca _) Ba Bb Bc Bd hw λw2 Ba Bb Bc Bd hw Fj=>?_;go_wp2_with fail;clear Fj;refine qC4 (cb _) Ba Bb Bc Bd hw λw3 Ba Bb Bc Bd hw Fj=>?_;go_wp2
 go_ret
 exact ⟨rfl,hw⟩
theorem meet_v2 (a b c d:Pt) (ha:vld a) (hb:vld b) (hc:vld c=false) (w:World):Calls prog 151 #[a,b,c,d] w (Rt w (.int .i64 0)):=by
 have ca:=zF a;rw [ha] at ca;clear ha;have cb:=zF b;rw [hb] at cb;clear hb;have cc:=zF c;rw [hc] at cc;clear hc
 go_enter func151,ntmps151
 go_wp2_with fail;refine qE4 λW1 Ba Bb Bc Bd hw=>?_;refine qC4 (ca _) Ba Bb Bc Bd hw λw2 Ba Bb Bc Bd hw Fj=>?_;go_wp2_with fail;clear Fj;refine qC4 (cb _) Ba Bb Bc Bd hw λw3 Ba Bb Bc Bd hw Fj=>?_;go_wp2_with fail;clear Fj;refine qC4 (cc _) Ba Bb Bc Bd hw λw4 Ba Bb Bc Bd hw Fj=>?_;go_wp2
 go_ret
 exact ⟨rfl,hw⟩
theorem meet_v3 (a b c d:Pt) (ha:vld a) (hb:vld b) (hc:vld c) (hd:vld d=false) (w:World):Calls prog 151 #[a,b,c,d] w (Rt w (.int .i64 0)):=by
 have ca:=zF a;rw [ha] at ca;clear ha;have cb:=zF b;rw [hb] at cb;clear hb;have cc:=zF c;rw [hc] at cc;clear hc;have cd:=zF d;rw [hd] at cd;clear hd
 go_enter func151,ntmps151
 go_wp2_with fail;refine qE4 λW1 Ba Bb Bc Bd hw=>?_;refine qC4 (ca _) Ba Bb Bc Bd hw λw2 Ba Bb Bc Bd hw Fj=>?_;go_wp2_with fail;clear Fj;refine qC4 (cb _) Ba Bb Bc Bd hw λw3 Ba Bb Bc Bd hw Fj=>?_;go_wp2_with fail;clear Fj;refine qC4 (cc _) Ba Bb Bc Bd hw λw4 Ba Bb Bc Bd hw Fj=>?_;go_wp2_with fail;clear Fj;refine qC4 (cd _) Ba Bb Bc Bd hw λw5 Ba Bb Bc Bd hw Fj=>?_;go_wp2
 go_ret
 exact ⟨rfl,hw⟩
theorem meet_e1 (a b c d:Pt) (ha:vld a) (hb:vld b) (hc:vld c) (hd:vld d) (e1:peqI a.x a.y b.x b.y) (w:World):Calls prog 151 #[a,b,c,d] w (Rt w (.int .i64 0)):=by
 have ca:=zF a;rw [ha] at ca;clear ha;have cb:=zF b;rw [hb] at cb;clear hb;have cc:=zF c;rw [hc] at cc;clear hc;have cd:=zF d;rw [hd] at cd;clear hd
 go_enter func151,ntmps151
 go_wp2_with fail;refine qE4 λW1 Ba Bb Bc Bd hw=>?_;refine qC4 (ca _) Ba Bb Bc Bd hw λw2 Ba Bb Bc Bd hw Fj=>?_;go_wp2_with fail;clear Fj;refine qC4 (cb _) Ba Bb Bc Bd hw λw3 Ba Bb Bc Bd hw Fj=>?_;go_wp2_with fail;clear Fj;refine qC4 (cc _) Ba Bb Bc Bd hw λw4 Ba Bb Bc Bd hw Fj=>?_;go_wp2_with fail;clear Fj;refine qC4 (cd _) Ba Bb Bc Bd hw λw5 Ba Bb Bc Bd hw Fj=>?_;go_wp2
 go_ret
 exact ⟨rfl,hw⟩
theorem meet_e2 (a b c d:Pt) (ha:vld a) (hb:vld b) (hc:vld c) (hd:vld d) (e1:peqI a.x a.y b.x b.y=false) (e2:peqI c.x c.y d.x d.y) (w:World):Calls prog 151 #[a,b,c,d] w (Rt w (.int .i64 0)):=by
 have ca:=zF a;rw [ha] at ca;clear ha;have cb:=zF b;rw [hb] at cb;clear hb;have cc:=zF c;rw [hc] at cc;clear hc;have cd:=zF d;rw [hd] at cd;clear hd
 go_enter func151,ntmps151
 go_wp2_with fail;refine qE4 λW1 Ba Bb Bc Bd hw=>?_;refine qC4 (ca _) Ba Bb Bc Bd hw λw2 Ba Bb Bc Bd hw Fj=>?_;go_wp2_with fail;clear Fj;refine qC4 (cb _) Ba Bb Bc Bd hw λw3 Ba Bb Bc Bd hw Fj=>?_;go_wp2_with fail;clear Fj;refine qC4 (cc _) Ba Bb Bc Bd hw λw4 Ba Bb Bc Bd hw Fj=>?_;go_wp2_with fail;clear Fj;refine qC4 (cd _) Ba Bb Bc Bd hw λw5 Ba Bb Bc Bd hw Fj=>?_;go_wp2
 go_ret
 exact ⟨rfl,hw⟩
theorem meet_l (a b c d:Pt) (ha:vld a) (hb:vld b) (hc:vld c) (hd:vld d) (e1:peqI a.x a.y b.x b.y=false) (e2:peqI c.x c.y d.x d.y=false) (z1:ori a b c=0) (z2:ori a b d=0) (w:World):Calls prog 151 #[a,b,c,d] w (Rt w (.int .i64 (mil a b c d))):=by
 have ca:=zF a;rw [ha] at ca;clear ha;have cb:=zF b;rw [hb] at cb;clear hb;have cc:=zF c;rw [hc] at cc;clear hc;have cd:=zF d;rw [hd] at cd;clear hd;have o1:=zJ a b c;have o2:=zJ a b d;rw [z1] at o1;rw [z2] at o2;clear z1 z2;have cm:=mil_any a b c d
 go_enter func151,ntmps151
 go_wp2_with fail;refine qE4 λW1 Ba Bb Bc Bd hw=>?_;refine qC4 (ca _) Ba Bb Bc Bd hw λw2 Ba Bb Bc Bd hw Fj=>?_;go_wp2_with fail;clear Fj;refine qC4 (cb _) Ba Bb Bc Bd hw λw3 Ba Bb Bc Bd hw Fj=>?_;go_wp2_with fail;clear Fj;refine qC4 (cc _) Ba Bb Bc Bd hw λw4 Ba Bb Bc Bd hw Fj=>?_;go_wp2_with fail;clear Fj;refine qC4 (cd _) Ba Bb Bc Bd hw λw5 Ba Bb Bc Bd hw Fj=>?_;go_wp2;refine zG λW6 hW=>?_;subst hW;clear Fj;have FK:=J4 Ba.cells Bb.cells Bc.cells Bd.cells;refine rgn 8 (λw7 hb=>?_);clear FK;obtain ⟨Ba,Bb,Bc,Bd,hw,Fj⟩:=qX4 Ba Bb Bc Bd hw hb;go_wp2_with fail;clear Fj;refine qK4 (cm _) Ba Bb Bc Bd hw λw8 Ba Bb Bc Bd hw=>?_;go_wp2
 go_ret
 exact ⟨rfl,hw⟩
theorem meet_n0 (a b c d:Pt) (ha:vld a) (hb:vld b) (hc:vld c) (hd:vld d) (e1:peqI a.x a.y b.x b.y=false) (e2:peqI c.x c.y d.x d.y=false) (z1:¬ ori a b c=0) (q1:peqI a.x a.y c.x c.y) (w:World):Calls prog 151 #[a,b,c,d] w (Rt w (.int .i64 0)):=by
 have ca:=zF a;rw [ha] at ca;clear ha;have cb:=zF b;rw [hb] at cb;clear hb;have cc:=zF c;rw [hc] at cc;clear hc;have cd:=zF d;rw [hd] at cd;clear hd;have o1:=zJ a b c;have o2:=zJ a b d;have sC:=y6 a b c;generalize ori a b c=C at *
 generalize ori a b d=D at *
 have t1:(C == 0)=false:=by simpa using z1
 clear z1
 go_enter func151,ntmps151
 go_wp2_with fail;refine qE4 λW1 Ba Bb Bc Bd hw=>?_;refine qC4 (ca _) Ba Bb Bc Bd hw λw2 Ba Bb Bc Bd hw Fj=>?_;go_wp2_with fail;clear Fj;refine qC4 (cb _) Ba Bb Bc Bd hw λw3 Ba Bb Bc Bd hw Fj=>?_;go_wp2_with fail;clear Fj;refine qC4 (cc _) Ba Bb Bc Bd hw λw4 Ba Bb Bc Bd hw Fj=>?_;go_wp2_with fail;clear Fj;refine qC4 (cd _) Ba Bb Bc Bd hw λw5 Ba Bb Bc Bd hw Fj=>?_;go_wp2;refine zG λW6 hW=>?_;subst hW;clear Fj;have FK:=J4 Ba.cells Bb.cells Bc.cells Bd.cells;refine rgn 8 (λw7 hb=>?_);clear FK;obtain ⟨Ba,Bb,Bc,Bd,hw,Fj⟩:=qX4 Ba Bb Bc Bd hw hb;go_wp2
 go_ret
 exact ⟨rfl,hw⟩
theorem meet_n1 (a b c d:Pt) (ha:vld a) (hb:vld b) (hc:vld c) (hd:vld d) (e1:peqI a.x a.y b.x b.y=false) (e2:peqI c.x c.y d.x d.y=false) (z1:¬ ori a b c=0) (q1:peqI a.x a.y c.x c.y=false) (q2:peqI a.x a.y d.x d.y) (w:World):Calls prog 151 #[a,b,c,d] w (Rt w (.int .i64 0)):=by
 have ca:=zF a;rw [ha] at ca;clear ha;have cb:=zF b;rw [hb] at cb;clear hb;have cc:=zF c;rw [hc] at cc;clear hc;have cd:=zF d;rw [hd] at cd;clear hd;have o1:=zJ a b c;have o2:=zJ a b d;have sC:=y6 a b c;generalize ori a b c=C at *
 generalize ori a b d=D at *
 have t1:(C == 0)=false:=by simpa using z1
 clear z1
 go_enter func151,ntmps151
 go_wp2_with fail;refine qE4 λW1 Ba Bb Bc Bd hw=>?_;refine qC4 (ca _) Ba Bb Bc Bd hw λw2 Ba Bb Bc Bd hw Fj=>?_;go_wp2_with fail;clear Fj;refine qC4 (cb _) Ba Bb Bc Bd hw λw3 Ba Bb Bc Bd hw Fj=>?_;go_wp2_with fail;clear Fj;refine qC4 (cc _) Ba Bb Bc Bd hw λw4 Ba Bb Bc Bd hw Fj=>?_;go_wp2_with fail;clear Fj;refine qC4 (cd _) Ba Bb Bc Bd hw λw5 Ba Bb Bc Bd hw Fj=>?_;go_wp2;refine zG λW6 hW=>?_;subst hW;clear Fj;have FK:=J4 Ba.cells Bb.cells Bc.cells Bd.cells;refine rgn 8 (λw7 hb=>?_);clear FK;obtain ⟨Ba,Bb,Bc,Bd,hw,Fj⟩:=qX4 Ba Bb Bc Bd hw hb;go_wp2
 go_ret
 exact ⟨rfl,hw⟩
theorem meet_n2 (a b c d:Pt) (ha:vld a) (hb:vld b) (hc:vld c) (hd:vld d) (e1:peqI a.x a.y b.x b.y=false) (e2:peqI c.x c.y d.x d.y=false) (z1:¬ ori a b c=0) (q1:peqI a.x a.y c.x c.y=false) (q2:peqI a.x a.y d.x d.y=false) (q3:peqI b.x b.y c.x c.y) (w:World):Calls prog 151 #[a,b,c,d] w (Rt w (.int .i64 0)):=by
 have ca:=zF a;rw [ha] at ca;clear ha;have cb:=zF b;rw [hb] at cb;clear hb;have cc:=zF c;rw [hc] at cc;clear hc;have cd:=zF d;rw [hd] at cd;clear hd;have o1:=zJ a b c;have o2:=zJ a b d;have sC:=y6 a b c;generalize ori a b c=C at *
 generalize ori a b d=D at *
 have t1:(C == 0)=false:=by simpa using z1
 clear z1
 go_enter func151,ntmps151
 go_wp2_with fail;refine qE4 λW1 Ba Bb Bc Bd hw=>?_;refine qC4 (ca _) Ba Bb Bc Bd hw λw2 Ba Bb Bc Bd hw Fj=>?_;go_wp2_with fail;clear Fj;refine qC4 (cb _) Ba Bb Bc Bd hw λw3 Ba Bb Bc Bd hw Fj=>?_;go_wp2_with fail;clear Fj;refine qC4 (cc _) Ba Bb Bc Bd hw λw4 Ba Bb Bc Bd hw Fj=>?_;go_wp2_with fail;clear Fj;refine qC4 (cd _) Ba Bb Bc Bd hw λw5 Ba Bb Bc Bd hw Fj=>?_;go_wp2;refine zG λW6 hW=>?_;subst hW;clear Fj;have FK:=J4 Ba.cells Bb.cells Bc.cells Bd.cells;refine rgn 8 (λw7 hb=>?_);clear FK;obtain ⟨Ba,Bb,Bc,Bd,hw,Fj⟩:=qX4 Ba Bb Bc Bd hw hb;go_wp2
 go_ret
 exact ⟨rfl,hw⟩
theorem meet_n3 (a b c d:Pt) (ha:vld a) (hb:vld b) (hc:vld c) (hd:vld d) (e1:peqI a.x a.y b.x b.y=false) (e2:peqI c.x c.y d.x d.y=false) (z1:¬ ori a b c=0) (q1:peqI a.x a.y c.x c.y=false) (q2:peqI a.x a.y d.x d.y=false) (q3:peqI b.x b.y c.x c.y=false) (q4:peqI b.x b.y d.x d.y) (w:World):Calls prog 151 #[a,b,c,d] w (Rt w (.int .i64 0)):=by
 have ca:=zF a;rw [ha] at ca;clear ha;have cb:=zF b;rw [hb] at cb;clear hb;have cc:=zF c;rw [hc] at cc;clear hc;have cd:=zF d;rw [hd] at cd;clear hd;have o1:=zJ a b c;have o2:=zJ a b d;have sC:=y6 a b c;generalize ori a b c=C at *
 generalize ori a b d=D at *
 have t1:(C == 0)=false:=by simpa using z1
 clear z1
 go_enter func151,ntmps151
 go_wp2_with fail;refine qE4 λW1 Ba Bb Bc Bd hw=>?_;refine qC4 (ca _) Ba Bb Bc Bd hw λw2 Ba Bb Bc Bd hw Fj=>?_;go_wp2_with fail;clear Fj;refine qC4 (cb _) Ba Bb Bc Bd hw λw3 Ba Bb Bc Bd hw Fj=>?_;go_wp2_with fail;clear Fj;refine qC4 (cc _) Ba Bb Bc Bd hw λw4 Ba Bb Bc Bd hw Fj=>?_;go_wp2_with fail;clear Fj;refine qC4 (cd _) Ba Bb Bc Bd hw λw5 Ba Bb Bc Bd hw Fj=>?_;go_wp2;refine zG λW6 hW=>?_;subst hW;clear Fj;have FK:=J4 Ba.cells Bb.cells Bc.cells Bd.cells;refine rgn 8 (λw7 hb=>?_);clear FK;obtain ⟨Ba,Bb,Bc,Bd,hw,Fj⟩:=qX4 Ba Bb Bc Bd hw hb;go_wp2
 go_ret
 exact ⟨rfl,hw⟩
theorem meet_n4 (a b c d:Pt) (ha:vld a) (hb:vld b) (hc:vld c) (hd:vld d) (e1:peqI a.x a.y b.x b.y=false) (e2:peqI c.x c.y d.x d.y=false) (z1:¬ ori a b c=0) (q1:peqI a.x a.y c.x c.y=false) (q2:peqI a.x a.y d.x d.y=false) (q3:peqI b.x b.y c.x c.y=false) (q4:peqI b.x b.y d.x d.y=false) (w:World):Calls prog 151 #[a,b,c,d] w (Rt w (.int .i64 (fin (ori c d a) (ori c d b) (ori a b c) (ori a b d)))):=by
 have ca:=zF a;rw [ha] at ca;clear ha;have cb:=zF b;rw [hb] at cb;clear hb;have cc:=zF c;rw [hc] at cc;clear hc;have cd:=zF d;rw [hd] at cd;clear hd;have o1:=zJ a b c;have o2:=zJ a b d;have o3:=zJ c d a;have o4:=zJ c d b;generalize ori c d a=A at *
 generalize ori c d b=B at *
 have sC:=y6 a b c;generalize ori a b c=C at *
 generalize ori a b d=D at *
 have t1:(C == 0)=false:=by simpa using z1
 clear z1
 go_enter func151,ntmps151
 go_wp2_with fail;refine qE4 λW1 Ba Bb Bc Bd hw=>?_;refine qC4 (ca _) Ba Bb Bc Bd hw λw2 Ba Bb Bc Bd hw Fj=>?_;go_wp2_with fail;clear Fj;refine qC4 (cb _) Ba Bb Bc Bd hw λw3 Ba Bb Bc Bd hw Fj=>?_;go_wp2_with fail;clear Fj;refine qC4 (cc _) Ba Bb Bc Bd hw λw4 Ba Bb Bc Bd hw Fj=>?_;go_wp2_with fail;clear Fj;refine qC4 (cd _) Ba Bb Bc Bd hw λw5 Ba Bb Bc Bd hw Fj=>?_;go_wp2;refine zG λW6 hW=>?_;subst hW;clear Fj;have FK:=J4 Ba.cells Bb.cells Bc.cells Bd.cells;refine rgn 8 (λw7 hb=>?_);clear FK;obtain ⟨Ba,Bb,Bc,Bd,hw,Fj⟩:=qX4 Ba Bb Bc Bd hw hb;go_wp2;refine zG λW8 hW=>?_;subst hW;clear Fj;have FK:=J4 Ba.cells Bb.cells Bc.cells Bd.cells;refine rgn 8 (λw9 hb=>?_);clear FK;obtain ⟨Ba,Bb,Bc,Bd,hw,-⟩:=qX4 Ba Bb Bc Bd hw hb;go_wp2;all_goals go_ret
 all_goals exact ⟨zi (by unfold fin;simp_all),hw⟩
theorem meet_z0 (a b c d:Pt) (ha:vld a) (hb:vld b) (hc:vld c) (hd:vld d) (e1:peqI a.x a.y b.x b.y=false) (e2:peqI c.x c.y d.x d.y=false) (z1:ori a b c=0) (z2:¬ ori a b d=0) (q1:peqI a.x a.y c.x c.y) (w:World):Calls prog 151 #[a,b,c,d] w (Rt w (.int .i64 0)):=by
 have ca:=zF a;rw [ha] at ca;clear ha;have cb:=zF b;rw [hb] at cb;clear hb;have cc:=zF c;rw [hc] at cc;clear hc;have cd:=zF d;rw [hd] at cd;clear hd;have o1:=zJ a b c;have o2:=zJ a b d;rw [z1] at o1;generalize ori a b d=D at *
 have t1:(D == 0)=false:=by simpa using z2
 clear z1 z2
 go_enter func151,ntmps151
 go_wp2_with fail;refine qE4 λW1 Ba Bb Bc Bd hw=>?_;refine qC4 (ca _) Ba Bb Bc Bd hw λw2 Ba Bb Bc Bd hw Fj=>?_;go_wp2_with fail;clear Fj;refine qC4 (cb _) Ba Bb Bc Bd hw λw3 Ba Bb Bc Bd hw Fj=>?_;go_wp2_with fail;clear Fj;refine qC4 (cc _) Ba Bb Bc Bd hw λw4 Ba Bb Bc Bd hw Fj=>?_;go_wp2_with fail;clear Fj;refine qC4 (cd _) Ba Bb Bc Bd hw λw5 Ba Bb Bc Bd hw Fj=>?_;go_wp2;refine zG λW6 hW=>?_;subst hW;clear Fj;have FK:=J4 Ba.cells Bb.cells Bc.cells Bd.cells;refine rgn 8 (λw7 hb=>?_);clear FK;obtain ⟨Ba,Bb,Bc,Bd,hw,Fj⟩:=qX4 Ba Bb Bc Bd hw hb;go_wp2
 go_ret
 exact ⟨rfl,hw⟩
theorem meet_z1 (a b c d:Pt) (ha:vld a) (hb:vld b) (hc:vld c) (hd:vld d) (e1:peqI a.x a.y b.x b.y=false) (e2:peqI c.x c.y d.x d.y=false) (z1:ori a b c=0) (z2:¬ ori a b d=0) (q1:peqI a.x a.y c.x c.y=false) (q2:peqI a.x a.y d.x d.y) (w:World):Calls prog 151 #[a,b,c,d] w (Rt w (.int .i64 0)):=by
 have ca:=zF a;rw [ha] at ca;clear ha;have cb:=zF b;rw [hb] at cb;clear hb;have cc:=zF c;rw [hc] at cc;clear hc;have cd:=zF d;rw [hd] at cd;clear hd;have o1:=zJ a b c;have o2:=zJ a b d;rw [z1] at o1;generalize ori a b d=D at *
 have t1:(D == 0)=false:=by simpa using z2
 clear z1 z2
 go_enter func151,ntmps151
 go_wp2_with fail;refine qE4 λW1 Ba Bb Bc Bd hw=>?_;refine qC4 (ca _) Ba Bb Bc Bd hw λw2 Ba Bb Bc Bd hw Fj=>?_;go_wp2_with fail;clear Fj;refine qC4 (cb _) Ba Bb Bc Bd hw λw3 Ba Bb Bc Bd hw Fj=>?_;go_wp2_with fail;clear Fj;refine qC4 (cc _) Ba Bb Bc Bd hw λw4 Ba Bb Bc Bd hw Fj=>?_;go_wp2_with fail;clear Fj;refine qC4 (cd _) Ba Bb Bc Bd hw λw5 Ba Bb Bc Bd hw Fj=>?_;go_wp2;refine zG λW6 hW=>?_;subst hW;clear Fj;have FK:=J4 Ba.cells Bb.cells Bc.cells Bd.cells;refine rgn 8 (λw7 hb=>?_);clear FK;obtain ⟨Ba,Bb,Bc,Bd,hw,Fj⟩:=qX4 Ba Bb Bc Bd hw hb;go_wp2
 go_ret
 exact ⟨rfl,hw⟩
theorem meet_z2 (a b c d:Pt) (ha:vld a) (hb:vld b) (hc:vld c) (hd:vld d) (e1:peqI a.x a.y b.x b.y=false) (e2:peqI c.x c.y d.x d.y=false) (z1:ori a b c=0) (z2:¬ ori a b d=0) (q1:peqI a.x a.y c.x c.y=false) (q2:peqI a.x a.y d.x d.y=false) (q3:peqI b.x b.y c.x c.y) (w:World):Calls prog 151 #[a,b,c,d] w (Rt w (.int .i64 0)):=by
 have ca:=zF a;rw [ha] at ca;clear ha;have cb:=zF b;rw [hb] at cb;clear hb;have cc:=zF c;rw [hc] at cc;clear hc;have cd:=zF d;rw [hd] at cd;clear hd;have o1:=zJ a b c;have o2:=zJ a b d;rw [z1] at o1;generalize ori a b d=D at *
 have t1:(D == 0)=false:=by simpa using z2
 clear z1 z2
 go_enter func151,ntmps151
 go_wp2_with fail;refine qE4 λW1 Ba Bb Bc Bd hw=>?_;refine qC4 (ca _) Ba Bb Bc Bd hw λw2 Ba Bb Bc Bd hw Fj=>?_;go_wp2_with fail;clear Fj;refine qC4 (cb _) Ba Bb Bc Bd hw λw3 Ba Bb Bc Bd hw Fj=>?_;go_wp2_with fail;clear Fj;refine qC4 (cc _) Ba Bb Bc Bd hw λw4 Ba Bb Bc Bd hw Fj=>?_;go_wp2_with fail;clear Fj;refine qC4 (cd _) Ba Bb Bc Bd hw λw5 Ba Bb Bc Bd hw Fj=>?_;go_wp2;refine zG λW6 hW=>?_;subst hW;clear Fj;have FK:=J4 Ba.cells Bb.cells Bc.cells Bd.cells;refine rgn 8 (λw7 hb=>?_);clear FK;obtain ⟨Ba,Bb,Bc,Bd,hw,Fj⟩:=qX4 Ba Bb Bc Bd hw hb;go_wp2
 go_ret
 exact ⟨rfl,hw⟩
theorem meet_z3 (a b c d:Pt) (ha:vld a) (hb:vld b) (hc:vld c) (hd:vld d) (e1:peqI a.x a.y b.x b.y=false) (e2:peqI c.x c.y d.x d.y=false) (z1:ori a b c=0) (z2:¬ ori a b d=0) (q1:peqI a.x a.y c.x c.y=false) (q2:peqI a.x a.y d.x d.y=false) (q3:peqI b.x b.y c.x c.y=false) (q4:peqI b.x b.y d.x d.y) (w:World):Calls prog 151 #[a,b,c,d] w (Rt w (.int .i64 0)):=by
 have ca:=zF a;rw [ha] at ca;clear ha;have cb:=zF b;rw [hb] at cb;clear hb;have cc:=zF c;rw [hc] at cc;clear hc;have cd:=zF d;rw [hd] at cd;clear hd;have o1:=zJ a b c;have o2:=zJ a b d;rw [z1] at o1;generalize ori a b d=D at *
 have t1:(D == 0)=false:=by simpa using z2
 clear z1 z2
 go_enter func151,ntmps151
 go_wp2_with fail;refine qE4 λW1 Ba Bb Bc Bd hw=>?_;refine qC4 (ca _) Ba Bb Bc Bd hw λw2 Ba Bb Bc Bd hw Fj=>?_;go_wp2_with fail;clear Fj;refine qC4 (cb _) Ba Bb Bc Bd hw λw3 Ba Bb Bc Bd hw Fj=>?_;go_wp2_with fail;clear Fj;refine qC4 (cc _) Ba Bb Bc Bd hw λw4 Ba Bb Bc Bd hw Fj=>?_;go_wp2_with fail;clear Fj;refine qC4 (cd _) Ba Bb Bc Bd hw λw5 Ba Bb Bc Bd hw Fj=>?_;go_wp2;refine zG λW6 hW=>?_;subst hW;clear Fj;have FK:=J4 Ba.cells Bb.cells Bc.cells Bd.cells;refine rgn 8 (λw7 hb=>?_);clear FK;obtain ⟨Ba,Bb,Bc,Bd,hw,Fj⟩:=qX4 Ba Bb Bc Bd hw hb;go_wp2
 go_ret
 exact ⟨rfl,hw⟩
theorem meet_z4 (a b c d:Pt) (ha:vld a) (hb:vld b) (hc:vld c) (hd:vld d) (e1:peqI a.x a.y b.x b.y=false) (e2:peqI c.x c.y d.x d.y=false) (z1:ori a b c=0) (z2:¬ ori a b d=0) (q1:peqI a.x a.y c.x c.y=false) (q2:peqI a.x a.y d.x d.y=false) (q3:peqI b.x b.y c.x c.y=false) (q4:peqI b.x b.y d.x d.y=false) (w:World):Calls prog 151 #[a,b,c,d] w (Rt w (.int .i64 (fin (ori c d a) (ori c d b) 0 (ori a b d)))):=by
 have ca:=zF a;rw [ha] at ca;clear ha;have cb:=zF b;rw [hb] at cb;clear hb;have cc:=zF c;rw [hc] at cc;clear hc;have cd:=zF d;rw [hd] at cd;clear hd;have o1:=zJ a b c;have o2:=zJ a b d;have o3:=zJ c d a;have o4:=zJ c d b;generalize ori c d a=A at *
 generalize ori c d b=B at *
 rw [z1] at o1;generalize ori a b d=D at *
 have t1:(D == 0)=false:=by simpa using z2
 clear z1 z2
 go_enter func151,ntmps151
 go_wp2_with fail;refine qE4 λW1 Ba Bb Bc Bd hw=>?_;refine qC4 (ca _) Ba Bb Bc Bd hw λw2 Ba Bb Bc Bd hw Fj=>?_;go_wp2_with fail;clear Fj;refine qC4 (cb _) Ba Bb Bc Bd hw λw3 Ba Bb Bc Bd hw Fj=>?_;go_wp2_with fail;clear Fj;refine qC4 (cc _) Ba Bb Bc Bd hw λw4 Ba Bb Bc Bd hw Fj=>?_;go_wp2_with fail;clear Fj;refine qC4 (cd _) Ba Bb Bc Bd hw λw5 Ba Bb Bc Bd hw Fj=>?_;go_wp2;refine zG λW6 hW=>?_;subst hW;clear Fj;have FK:=J4 Ba.cells Bb.cells Bc.cells Bd.cells;refine rgn 8 (λw7 hb=>?_);clear FK;obtain ⟨Ba,Bb,Bc,Bd,hw,Fj⟩:=qX4 Ba Bb Bc Bd hw hb;go_wp2;refine zG λW8 hW=>?_;subst hW;clear Fj;have FK:=J4 Ba.cells Bb.cells Bc.cells Bd.cells;refine rgn 8 (λw9 hb=>?_);clear FK;obtain ⟨Ba,Bb,Bc,Bd,hw,-⟩:=qX4 Ba Bb Bc Bd hw hb;go_wp2;all_goals go_ret
 all_goals exact ⟨zi (by unfold fin;simp_all),hw⟩
theorem uR (a b c d:Pt) (w:World):Calls prog 151 #[a,b,c,d] w (Rt w (.int .i64 (meetS a b c d))):=by
 cases ha:vld a with
 | false=>rw [show meetS a b c d=0 by unfold meetS;rw [JH ha]];exact meet_v0 a b c d ha w
 | true=>
 have n_ha:¬ vld a=false:=by rw [ha];simp
 cases hb:vld b with
 | false=>rw [show meetS a b c d=0 by unfold meetS;rw [J0 n_ha,JH hb]];exact meet_v1 a b c d ha hb w
 | true=>
 have n_hb:¬ vld b=false:=by rw [hb];simp
 cases hc:vld c with
 | false=>rw [show meetS a b c d=0 by unfold meetS;rw [J0 n_ha,J0 n_hb,JH hc]];exact meet_v2 a b c d ha hb hc w
 | true=>
 have n_hc:¬ vld c=false:=by rw [hc];simp
 cases hd:vld d with
 | false=>rw [show meetS a b c d=0 by unfold meetS;rw [J0 n_ha,J0 n_hb,J0 n_hc,JH hd]];exact meet_v3 a b c d ha hb hc hd w
 | true=>
 have n_hd:¬ vld d=false:=by rw [hd];simp
 cases e1:peqI a.x a.y b.x b.y with
 | true=>rw [show meetS a b c d=0 by unfold meetS;rw [J0 n_ha,J0 n_hb,J0 n_hc,J0 n_hd,JH e1]];exact meet_e1 a b c d ha hb hc hd e1 w
 | false=>
 have n_e1:¬ peqI a.x a.y b.x b.y=true:=by rw [e1];simp
 cases e2:peqI c.x c.y d.x d.y with
 | true=>rw [show meetS a b c d=0 by unfold meetS;rw [J0 n_ha,J0 n_hb,J0 n_hc,J0 n_hd,J0 n_e1,JH e2]];exact meet_e2 a b c d ha hb hc hd e1 e2 w
 | false=>
 have n_e2:¬ peqI c.x c.y d.x d.y=true:=by rw [e2];simp
 by_cases z1:ori a b c=0
 ·by_cases z2:ori a b d=0
  ·rw [show meetS a b c d=mil a b c d by unfold meetS;rw [J0 n_ha,J0 n_hb,J0 n_hc,J0 n_hd,J0 n_e1,J0 n_e2,JH ⟨z1,z2⟩]];exact meet_l a b c d ha hb hc hd e1 e2 z1 z2 w
  ·have nz:¬ (ori a b c=0/\ori a b d=0):=λh=>z2 h.2;cases q1:peqI a.x a.y c.x c.y with
   | true=>rw [show meetS a b c d=0 by unfold meetS;rw [J0 n_ha,J0 n_hb,J0 n_hc,J0 n_hd,J0 n_e1,J0 n_e2,J0 nz,JH q1]];exact meet_z0 a b c d ha hb hc hd e1 e2 z1 z2 q1 w
   | false=>
   have k1:¬ peqI a.x a.y c.x c.y=true:=by rw [q1];simp
   cases q2:peqI a.x a.y d.x d.y with
   | true=>rw [show meetS a b c d=0 by unfold meetS;rw [J0 n_ha,J0 n_hb,J0 n_hc,J0 n_hd,J0 n_e1,J0 n_e2,J0 nz,J0 k1,JH q2]];exact meet_z1 a b c d ha hb hc hd e1 e2 z1 z2 q1 q2 w
   | false=>
   have k2:¬ peqI a.x a.y d.x d.y=true:=by rw [q2];simp
   cases q3:peqI b.x b.y c.x c.y with
   | true=>rw [show meetS a b c d=0 by unfold meetS;rw [J0 n_ha,J0 n_hb,J0 n_hc,J0 n_hd,J0 n_e1,J0 n_e2,J0 nz,J0 k1,J0 k2,JH q3]];exact meet_z2 a b c d ha hb hc hd e1 e2 z1 z2 q1 q2 q3 w
   | false=>
   have k3:¬ peqI b.x b.y c.x c.y=true:=by rw [q3];simp
   cases q4:peqI b.x b.y d.x d.y with
   | true=>rw [show meetS a b c d=0 by unfold meetS;rw [J0 n_ha,J0 n_hb,J0 n_hc,J0 n_hd,J0 n_e1,J0 n_e2,J0 nz,J0 k1,J0 k2,J0 k3,JH q4]];exact meet_z3 a b c d ha hb hc hd e1 e2 z1 z2 q1 q2 q3 q4 w
   | false=>
   have k4:¬ peqI b.x b.y d.x d.y=true:=by rw [q4];simp
   rw [show meetS a b c d=fin (ori c d a) (ori c d b) (ori a b c) (ori a b d) by unfold meetS;rw [J0 n_ha,J0 n_hb,J0 n_hc,J0 n_hd,J0 n_e1,J0 n_e2,J0 nz,J0 k1,J0 k2,J0 k3,J0 k4]];rw [z1];exact meet_z4 a b c d ha hb hc hd e1 e2 z1 z2 q1 q2 q3 q4 w
 ·have nz:¬ (ori a b c=0/\ori a b d=0):=λh=>z1 h.1;cases q1:peqI a.x a.y c.x c.y with
  | true=>rw [show meetS a b c d=0 by unfold meetS;rw [J0 n_ha,J0 n_hb,J0 n_hc,J0 n_hd,J0 n_e1,J0 n_e2,J0 nz,JH q1]];exact meet_n0 a b c d ha hb hc hd e1 e2 z1 q1 w
  | false=>
  have k1:¬ peqI a.x a.y c.x c.y=true:=by rw [q1];simp
  cases q2:peqI a.x a.y d.x d.y with
  | true=>rw [show meetS a b c d=0 by unfold meetS;rw [J0 n_ha,J0 n_hb,J0 n_hc,J0 n_hd,J0 n_e1,J0 n_e2,J0 nz,J0 k1,JH q2]];exact meet_n1 a b c d ha hb hc hd e1 e2 z1 q1 q2 w
  | false=>
  have k2:¬ peqI a.x a.y d.x d.y=true:=by rw [q2];simp
  cases q3:peqI b.x b.y c.x c.y with
  | true=>rw [show meetS a b c d=0 by unfold meetS;rw [J0 n_ha,J0 n_hb,J0 n_hc,J0 n_hd,J0 n_e1,J0 n_e2,J0 nz,J0 k1,J0 k2,JH q3]];exact meet_n2 a b c d ha hb hc hd e1 e2 z1 q1 q2 q3 w
  | false=>
  have k3:¬ peqI b.x b.y c.x c.y=true:=by rw [q3];simp
  cases q4:peqI b.x b.y d.x d.y with
  | true=>rw [show meetS a b c d=0 by unfold meetS;rw [J0 n_ha,J0 n_hb,J0 n_hc,J0 n_hd,J0 n_e1,J0 n_e2,J0 nz,J0 k1,J0 k2,J0 k3,JH q4]];exact meet_n3 a b c d ha hb hc hd e1 e2 z1 q1 q2 q3 q4 w
  | false=>
  have k4:¬ peqI b.x b.y d.x d.y=true:=by rw [q4];simp
  rw [show meetS a b c d=fin (ori c d a) (ori c d b) (ori a b c) (ori a b d) by unfold meetS;rw [J0 n_ha,J0 n_hb,J0 n_hc,J0 n_hd,J0 n_e1,J0 n_e2,J0 nz,J0 k1,J0 k2,J0 k3,J0 k4]];exact meet_n4 a b c d ha hb hc hd e1 e2 z1 q1 q2 q3 q4 w
theorem z7 (p:Pt) (w:World):Calls prog 79 #[p] w (Rt w (.bool (vld p))):=by
 have Hv:=hdd (show vld p=(inG p.x && inG p.y) from rfl)
 go_enter func79,ntmps79
 go_wp2;all_goals go_ret
 all_goals exact ⟨yO (by rw [Hv.o,Qm];simp [inG];omega),by go_grown⟩
theorem zV (p q:Pt) (w:World):Calls prog 76 #[p,q] w (Rt w (.int .i64 (cmpP p q))):=by
 have H:Hi (∀ n:Int,(n = -1/\(p.x < q.x\/p.x=q.x/\p.y < q.y)\/n=0/\p.x=q.x/\p.y=q.y\/n=1/\(q.x < p.x\/p.x=q.x/\q.y < p.y))->n=cmpP p q):=hdd (λn h=>by
  unfold cmpP cmpN sgn
  (repeat' split) <;> omega)
 rcases V5 p.x q.x with h | h | h
 ·go_enter func76,ntmps76
  go_wp2
  go_ret
  exact ⟨zi (H.o _ (by omega)),by go_grown⟩
 ·rcases V5 p.y q.y with k | k | k
  all_goals have e1:(p.x == q.x)=true:=by simpa using h
  all_goals have e2:decide (p.x < q.x)=false:=by simp;omega
  ·have e3:decide (p.y < q.y)=true:=by simpa using k
   go_enter func76,ntmps76
   have h':=hdd h;clear h;go_wp2
   go_ret
   exact ⟨zi (H.o _ (by have:=h'.o;omega)),by go_grown⟩
  ·have e3:decide (p.y < q.y)=false:=by simp;omega
   have e4:peqI p.x p.y q.x q.y=true:=by rw [xJ];exact ⟨h,k⟩
   have h':=hdd h;clear h;have k':=hdd k;clear k
   go_enter func76,ntmps76
   go_wp2
   go_ret
   exact ⟨zi (H.o _ (by have:=h'.o;have:=k'.o;omega)),by go_grown⟩
  ·have e3:decide (p.y < q.y)=false:=by simp;omega
   have e4:peqI p.x p.y q.x q.y=false:=by rw [<-QO,xJ];omega
   have h':=hdd h;clear h
   go_enter func76,ntmps76
   go_wp2
   go_ret
   exact ⟨zi (H.o _ (by have:=h'.o;omega)),by go_grown⟩
 ·have e1:(p.x == q.x)=false:=by simp;omega
  have e2:decide (p.x < q.x)=false:=by simp;omega
  have e4:peqI p.x p.y q.x q.y=false:=by rw [<-QO,xJ];omega
  go_enter func76,ntmps76
  go_wp2
  go_ret
  exact ⟨zi (H.o _ (by omega)),by go_grown⟩
theorem Zd (n:Int) (w:World):Calls prog 129 #[n] w λe w'=>e=.returned (.int .i64 (sgn n))/\w=w':=by
 go_enter func129,ntmps129
 go_wp2;all_goals go_ret
 all_goals exact ⟨zi (by unfold sgn;(repeat' split) <;> omega),rfl⟩
theorem kB (a b c:Pt) (ha:vld a) (hb:vld b) (hc:vld c) (w:World):Calls prog 130 #[a,b,c] w (Rt w (.int .i64 (det a b c))):=by
 have s1:=qp ha hb;have s2:=qp ha hc;have h1:=yV s1.1 s2.2;have h2:=yV s1.2 s2.1;have e:wrap64 (wrap64 (wrap64 (b.x - a.x) * wrap64 (c.y - a.y)) - wrap64 (wrap64 (b.y - a.y) * wrap64 (c.x - a.x)))=det a b c:=by
  rw [zh] at ha hb hc;rw [show wrap64 (b.x - a.x)=(way a b).x by rw [w64];unfold way;simp only;omega,show wrap64 (c.y - a.y)=(way a c).y by rw [w64];unfold way;simp only;omega,show wrap64 (b.y - a.y)=(way a b).y by rw [w64];unfold way;simp only;omega,show wrap64 (c.x - a.x)=(way a c).x by rw [w64];unfold way;simp only;omega];show _=(way a b).x * (way a c).y - (way a b).y * (way a c).x;generalize (way a b).x * (way a c).y=p at *
  generalize (way a b).y * (way a c).x=q at *
  simp only [w64];omega
 have E:=hdd e;clear e h1 h2 s1 s2 ha hb hc
 go_enter func130,ntmps130
 go_wp2
 go_ret
 exact ⟨zi (by simpa using E.o),by go_grown⟩
theorem rorient_0 (a b c:Pt) (ha:vld a=false) (w:World):Calls prog 75 #[a,b,c] w (Rt w (.int .i64 0)):=by
 have ca:=z7 a;rw [ha] at ca;clear ha
 go_enter func75,ntmps75
 go_wp2_with fail;refine qE3 λW1 Ba Bb Bc hw=>?_;refine qC3 (ca _) Ba Bb Bc hw λw2 Ba Bb Bc hw FW=>?_;go_wp2
 go_ret
 exact ⟨rfl,hw⟩
theorem rorient_1 (a b c:Pt) (ha:vld a) (hb:vld b=false) (w:World):Calls prog 75 #[a,b,c] w (Rt w (.int .i64 0)):=by
 have ca:=z7 a;rw [ha] at ca;have cb:=z7 b;rw [hb] at cb;clear ha hb
 go_enter func75,ntmps75
 go_wp2_with fail;refine qE3 λW1 Ba Bb Bc hw=>?_;refine qC3 (ca _) Ba Bb Bc hw λw2 Ba Bb Bc hw FW=>?_;go_wp2_with fail;clear FW;refine qC3 (cb _) Ba Bb Bc hw λw3 Ba Bb Bc hw FW=>?_;go_wp2
 go_ret
 exact ⟨rfl,hw⟩
theorem rorient_2 (a b c:Pt) (ha:vld a) (hb:vld b) (hc:vld c=false) (w:World):Calls prog 75 #[a,b,c] w (Rt w (.int .i64 0)):=by
 have ca:=z7 a;rw [ha] at ca;have cb:=z7 b;rw [hb] at cb;have cc:=z7 c;rw [hc] at cc;clear ha hb hc
 go_enter func75,ntmps75
 go_wp2_with fail;refine qE3 λW1 Ba Bb Bc hw=>?_;refine qC3 (ca _) Ba Bb Bc hw λw2 Ba Bb Bc hw FW=>?_;go_wp2_with fail;clear FW;refine qC3 (cb _) Ba Bb Bc hw λw3 Ba Bb Bc hw FW=>?_;go_wp2_with fail;clear FW;refine qC3 (cc _) Ba Bb Bc hw λw4 Ba Bb Bc hw FW=>?_;go_wp2
 go_ret
 exact ⟨rfl,hw⟩
theorem rorient_3 (a b c:Pt) (ha:vld a) (hb:vld b) (hc:vld c) (w:World):Calls prog 75 #[a,b,c] w (Rt w (.int .i64 (sgn (det a b c)))):=by
 have ca:=z7 a;rw [ha] at ca;have cb:=z7 b;rw [hb] at cb;have cc:=z7 c;rw [hc] at cc;have ct:=kB a b c ha hb hc;generalize det a b c=D at *
 have cs:=qD (Zd D);clear ha hb hc
 go_enter func75,ntmps75
 go_wp2_with fail;refine qE3 λW1 Ba Bb Bc hw=>?_;refine qC3 (ca _) Ba Bb Bc hw λw2 Ba Bb Bc hw FW=>?_;go_wp2_with fail;clear FW;refine qC3 (cb _) Ba Bb Bc hw λw3 Ba Bb Bc hw FW=>?_;go_wp2_with fail;clear FW;refine qC3 (cc _) Ba Bb Bc hw λw4 Ba Bb Bc hw FW=>?_;go_wp2_with fail;clear FW;refine qC3 (ct _) Ba Bb Bc hw λw5 Ba Bb Bc hw FW=>?_;go_wp2_with fail;clear FW;refine qC3 (cs _) Ba Bb Bc hw λw6 Ba Bb Bc hw FW=>?_;go_wp2
 go_ret
 exact ⟨rfl,hw⟩
theorem zH (a b c:Pt) (w:World):Calls prog 75 #[a,b,c] w (Rt w (.int .i64 (ori a b c))):=by
 cases ha:vld a with
 | false=>rw [show ori a b c=0 by simp [ori,ha]];exact rorient_0 a b c ha w
 | true=>cases hb:vld b with
  | false=>rw [show ori a b c=0 by simp [ori,hb]];exact rorient_1 a b c ha hb w
  | true=>cases hc:vld c with
   | false=>rw [show ori a b c=0 by simp [ori,hc]];exact rorient_2 a b c ha hb hc w
   | true=>rw [show ori a b c=sgn (det a b c) by simp [ori,ha,hb,hc]];exact rorient_3 a b c ha hb hc w
def btw (n a b:Int):Bool:=decide (min a b<=n/\n<=max a b)
theorem Xj (n a b:Int) (w:World):Calls prog 168 #[n,a,b] w λe w'=>e=.returned (.bool (btw n a b))/\w=w':=by
 go_enter func168,ntmps168
 go_wp2;all_goals go_ret
 all_goals exact ⟨yO (by unfold btw;rw [Qm];simp;omega),rfl⟩
def onR (p a b:Pt):Bool:=vld p && (vld a && (vld b && (decide (det a b p=0) && (btw p.x a.x b.x && btw p.y a.y b.y))))
theorem ron_0 (p a b:Pt) (hp:vld p=false) (w:World):Calls prog 138 #[p,a,b] w (Rt w (.bool false)):=by
 have cp:=z7 p;rw [hp] at cp;clear hp
 go_enter func138,ntmps138
 go_wp2_with fail;refine qE3 λW1 Bp Ba Bb hw=>?_;refine qC3 (cp _) Bp Ba Bb hw λw2 Bp Ba Bb hw FY=>?_;go_wp2
 go_ret
 exact ⟨rfl,hw⟩
theorem ron_1 (p a b:Pt) (hp:vld p) (ha:vld a=false) (w:World):Calls prog 138 #[p,a,b] w (Rt w (.bool false)):=by
 have cp:=z7 p;rw [hp] at cp;have ca:=z7 a;rw [ha] at ca;clear hp ha
 go_enter func138,ntmps138
 go_wp2_with fail;refine qE3 λW1 Bp Ba Bb hw=>?_;refine qC3 (cp _) Bp Ba Bb hw λw2 Bp Ba Bb hw FY=>?_;go_wp2_with fail;clear FY;refine qC3 (ca _) Bp Ba Bb hw λw3 Bp Ba Bb hw FY=>?_;go_wp2
 go_ret
 exact ⟨rfl,hw⟩
theorem ron_2 (p a b:Pt) (hp:vld p) (ha:vld a) (hb:vld b=false) (w:World):Calls prog 138 #[p,a,b] w (Rt w (.bool false)):=by
 have cp:=z7 p;rw [hp] at cp;have ca:=z7 a;rw [ha] at ca;have cb:=z7 b;rw [hb] at cb;clear hp ha hb
 go_enter func138,ntmps138
 go_wp2_with fail;refine qE3 λW1 Bp Ba Bb hw=>?_;refine qC3 (cp _) Bp Ba Bb hw λw2 Bp Ba Bb hw FY=>?_;go_wp2_with fail;clear FY;refine qC3 (ca _) Bp Ba Bb hw λw3 Bp Ba Bb hw FY=>?_;go_wp2_with fail;clear FY;refine qC3 (cb _) Bp Ba Bb hw λw4 Bp Ba Bb hw FY=>?_;go_wp2
 go_ret
 exact ⟨rfl,hw⟩
theorem ron_3 (p a b:Pt) (hp:vld p) (ha:vld a) (hb:vld b) (h0:¬ det a b p=0) (w:World):Calls prog 138 #[p,a,b] w (Rt w (.bool false)):=by
 have cp:=z7 p;rw [hp] at cp;have ca:=z7 a;rw [ha] at ca;have cb:=z7 b;rw [hb] at cb;have ct:=kB a b p ha hb hp;clear ha hb hp;generalize det a b p=D at *
 have t0:(D == 0)=false:=by simpa using h0
 clear h0
 go_enter func138,ntmps138
 go_wp2_with fail;refine qE3 λW1 Bp Ba Bb hw=>?_;refine qC3 (cp _) Bp Ba Bb hw λw2 Bp Ba Bb hw FY=>?_;go_wp2_with fail;clear FY;refine qC3 (ca _) Bp Ba Bb hw λw3 Bp Ba Bb hw FY=>?_;go_wp2_with fail;clear FY;refine qC3 (cb _) Bp Ba Bb hw λw4 Bp Ba Bb hw FY=>?_;go_wp2_with fail;clear FY;refine qC3 (ct _) Bp Ba Bb hw λw5 Bp Ba Bb hw FY=>?_;go_wp2
 go_ret
 exact ⟨rfl,hw⟩
theorem ron_4 (p a b:Pt) (hp:vld p) (ha:vld a) (hb:vld b) (h0:det a b p=0) (h1:btw p.x a.x b.x=false) (w:World):Calls prog 138 #[p,a,b] w (Rt w (.bool false)):=by
 have cp:=z7 p;rw [hp] at cp;have ca:=z7 a;rw [ha] at ca;have cb:=z7 b;rw [hb] at cb;have ct:=kB a b p ha hb hp;clear ha hb hp;rw [h0] at ct;clear h0;have k1:=qD (Xj p.x a.x b.x);rw [h1] at k1;clear h1
 go_enter func138,ntmps138
 go_wp2_with fail;refine qE3 λW1 Bp Ba Bb hw=>?_;refine qC3 (cp _) Bp Ba Bb hw λw2 Bp Ba Bb hw FY=>?_;go_wp2_with fail;clear FY;refine qC3 (ca _) Bp Ba Bb hw λw3 Bp Ba Bb hw FY=>?_;go_wp2_with fail;clear FY;refine qC3 (cb _) Bp Ba Bb hw λw4 Bp Ba Bb hw FY=>?_;go_wp2_with fail;clear FY;refine qC3 (ct _) Bp Ba Bb hw λw5 Bp Ba Bb hw FY=>?_;go_wp2_with fail;clear FY;refine qC3 (k1 _) Bp Ba Bb hw λw6 Bp Ba Bb hw FY=>?_;go_wp2
 go_ret
 exact ⟨rfl,hw⟩
theorem ron_5 (p a b:Pt) (hp:vld p) (ha:vld a) (hb:vld b) (h0:det a b p=0) (h1:btw p.x a.x b.x) (w:World):Calls prog 138 #[p,a,b] w (Rt w (.bool (btw p.y a.y b.y))):=by
 have cp:=z7 p;rw [hp] at cp;have ca:=z7 a;rw [ha] at ca;have cb:=z7 b;rw [hb] at cb;have ct:=kB a b p ha hb hp;clear ha hb hp;rw [h0] at ct;clear h0;have k1:=qD (Xj p.x a.x b.x);rw [h1] at k1;clear h1;have k2:=qD (Xj p.y a.y b.y);generalize btw p.y a.y b.y=B at *
 go_enter func138,ntmps138
 go_wp2_with fail;refine qE3 λW1 Bp Ba Bb hw=>?_;refine qC3 (cp _) Bp Ba Bb hw λw2 Bp Ba Bb hw FY=>?_;go_wp2_with fail;clear FY;refine qC3 (ca _) Bp Ba Bb hw λw3 Bp Ba Bb hw FY=>?_;go_wp2_with fail;clear FY;refine qC3 (cb _) Bp Ba Bb hw λw4 Bp Ba Bb hw FY=>?_;go_wp2_with fail;clear FY;refine qC3 (ct _) Bp Ba Bb hw λw5 Bp Ba Bb hw FY=>?_;go_wp2_with fail;clear FY;refine qC3 (k1 _) Bp Ba Bb hw λw6 Bp Ba Bb hw FY=>?_;go_wp2_with fail;clear FY;refine qC3 (k2 _) Bp Ba Bb hw λw7 Bp Ba Bb hw FY=>?_;go_wp2
 go_ret
 exact ⟨rfl,hw⟩
theorem vG (p a b:Pt) (w:World):Calls prog 138 #[p,a,b] w (Rt w (.bool (onR p a b))):=by
 cases hp:vld p with
 | false=>rw [show onR p a b=false by unfold onR;rw [hp];rfl];exact ron_0 p a b hp w
 | true=>cases ha:vld a with
  | false=>rw [show onR p a b=false by unfold onR;rw [hp,ha];rfl];exact ron_1 p a b hp ha w
  | true=>cases hb:vld b with
   | false=>rw [show onR p a b=false by unfold onR;rw [hp,ha,hb];rfl];exact ron_2 p a b hp ha hb w
   | true=>
    by_cases h0:det a b p=0
    ·cases h1:btw p.x a.x b.x with
     | false=>rw [show onR p a b=false by unfold onR;rw [hp,ha,hb,h0,h1];rfl];exact ron_4 p a b hp ha hb h0 h1 w
     | true=>rw [show onR p a b=btw p.y a.y b.y by unfold onR;rw [hp,ha,hb,h0,h1];rfl];exact ron_5 p a b hp ha hb h0 h1 w
    ·rw [show onR p a b=false by unfold onR;rw [hp,ha,hb];simp [h0]];exact ron_3 p a b hp ha hb h0 w
def rl (p q:Pt):Pt:=if cmpP p q < 0 then p else q
theorem rl_0 (p q:Pt) (h:decide (cmpP p q < 0)=false) (w:World):Calls prog 80 #[p,q] w (Rt w (.agg #[q.x,q.y])):=by
 have c:=zV p q;generalize cmpP p q=n at *
 go_enter func80,ntmps80
 go_wp2_with fail;refine qE3 λW1 Bp Bq Br hw=>?_;refine qK3 (c _) Bp Bq Br hw λw2 Bp Bq Br hw=>?_;have Fp:=Bp.f;have Fq:=Bq.f;have Fr:=Br.f;go_wp2_with fail;refine bodyPost_ret (v:=.agg #[q.x,q.y]) (by simp [results,results80,go_sem,Fr]) rfl ⟨rfl,by have hl:=hw.size;go_grown⟩
theorem rl_1 (p q:Pt) (h:decide (cmpP p q < 0)=true) (w:World):Calls prog 80 #[p,q] w (Rt w (.agg #[p.x,p.y])):=by
 have c:=zV p q;generalize cmpP p q=n at *
 go_enter func80,ntmps80
 go_wp2_with fail;refine qE3 λW1 Bp Bq Br hw=>?_;refine qK3 (c _) Bp Bq Br hw λw2 Bp Bq Br hw=>?_;have Fp:=Bp.f;have Fq:=Bq.f;have Fr:=Br.f;go_wp2_with fail;refine bodyPost_ret (v:=.agg #[p.x,p.y]) (by simp [results,results80,go_sem,Fr]) rfl ⟨rfl,by have hl:=hw.size;go_grown⟩
theorem ju (p q:Pt) (w:World):Calls prog 80 #[p,q] w (Rt w (.agg #[.int .i64 (rl p q).x,.int .i64 (rl p q).y])):=by
 by_cases h:cmpP p q < 0
 ·rw [show rl p q=p by unfold rl;rw [JH h]];exact rl_1 p q (by simpa using h) w
 ·rw [show rl p q=q by unfold rl;rw [J0 h]];exact rl_0 p q (by simpa using h) w
def rg (p q:Pt):Pt:=if cmpP p q < 0 then q else p
theorem rg_0 (p q:Pt) (h:decide (cmpP p q < 0)=false) (w:World):Calls prog 81 #[p,q] w (Rt w (.agg #[p.x,p.y])):=by
 have c:=zV p q;generalize cmpP p q=n at *
 go_enter func81,ntmps81
 go_wp2_with fail;refine qE3 λW1 Bp Bq Br hw=>?_;refine qK3 (c _) Bp Bq Br hw λw2 Bp Bq Br hw=>?_;have Fp:=Bp.f;have Fq:=Bq.f;have Fr:=Br.f;go_wp2_with fail;refine bodyPost_ret (v:=.agg #[p.x,p.y]) (by simp [results,results81,go_sem,Fr]) rfl ⟨rfl,by have hl:=hw.size;go_grown⟩
theorem rg_1 (p q:Pt) (h:decide (cmpP p q < 0)=true) (w:World):Calls prog 81 #[p,q] w (Rt w (.agg #[q.x,q.y])):=by
 have c:=zV p q;generalize cmpP p q=n at *
 go_enter func81,ntmps81
 go_wp2_with fail;refine qE3 λW1 Bp Bq Br hw=>?_;refine qK3 (c _) Bp Bq Br hw λw2 Bp Bq Br hw=>?_;have Fp:=Bp.f;have Fq:=Bq.f;have Fr:=Br.f;go_wp2_with fail;refine bodyPost_ret (v:=.agg #[q.x,q.y]) (by simp [results,results81,go_sem,Fr]) rfl ⟨rfl,by have hl:=hw.size;go_grown⟩
theorem jv (p q:Pt) (w:World):Calls prog 81 #[p,q] w (Rt w (.agg #[.int .i64 (rg p q).x,.int .i64 (rg p q).y])):=by
 by_cases h:cmpP p q < 0
 ·rw [show rg p q=q by unfold rg;rw [JH h]];exact rg_1 p q (by simpa using h) w
 ·rw [show rg p q=p by unfold rg;rw [J0 h]];exact rg_0 p q (by simpa using h) w
def tch (p a b:Pt):Int:=if onR p a b=false then 0 else if peqI p.x p.y a.x a.y=true then 0 else if peqI p.x p.y b.x b.y=true then 0 else 2
theorem tch_0 (p a b:Pt) (h:onR p a b=false) (w:World):Calls prog 169 #[p,a,b] w (Rt w (.int .i64 0)):=by
 have c:=vG p a b;rw [h] at c;clear h
 go_enter func169,ntmps169
 go_wp2_with fail;refine qE3 λW1 Bp Ba Bb hw=>?_;refine qC3 (c _) Bp Ba Bb hw λw2 Bp Ba Bb hw FY=>?_;go_wp2
 go_ret
 exact ⟨rfl,hw⟩
theorem tch_1 (p a b:Pt) (h:onR p a b) (e1:peqI p.x p.y a.x a.y) (w:World):Calls prog 169 #[p,a,b] w (Rt w (.int .i64 0)):=by
 have c:=vG p a b;rw [h] at c;clear h
 go_enter func169,ntmps169
 go_wp2_with fail;refine qE3 λW1 Bp Ba Bb hw=>?_;refine qC3 (c _) Bp Ba Bb hw λw2 Bp Ba Bb hw FY=>?_;go_wp2
 go_ret
 exact ⟨rfl,hw⟩
theorem tch_2 (p a b:Pt) (h:onR p a b) (e1:peqI p.x p.y a.x a.y=false) (e2:peqI p.x p.y b.x b.y) (w:World):Calls prog 169 #[p,a,b] w (Rt w (.int .i64 0)):=by
 have c:=vG p a b;rw [h] at c;clear h
 go_enter func169,ntmps169
 go_wp2_with fail;refine qE3 λW1 Bp Ba Bb hw=>?_;refine qC3 (c _) Bp Ba Bb hw λw2 Bp Ba Bb hw FY=>?_;go_wp2
 go_ret
 exact ⟨rfl,hw⟩
theorem tch_3 (p a b:Pt) (h:onR p a b) (e1:peqI p.x p.y a.x a.y=false) (e2:peqI p.x p.y b.x b.y=false) (w:World):Calls prog 169 #[p,a,b] w (Rt w (.int .i64 2)):=by
 have c:=vG p a b;rw [h] at c;clear h
 go_enter func169,ntmps169
 go_wp2_with fail;refine qE3 λW1 Bp Ba Bb hw=>?_;refine qC3 (c _) Bp Ba Bb hw λw2 Bp Ba Bb hw FY=>?_;go_wp2
 go_ret
 exact ⟨rfl,hw⟩
theorem xy (p a b:Pt) (w:World):Calls prog 169 #[p,a,b] w (Rt w (.int .i64 (tch p a b))):=by
 cases h:onR p a b with
 | false=>rw [show tch p a b=0 by unfold tch;rw [JH h]];exact tch_0 p a b h w
 | true=>
  cases e1:peqI p.x p.y a.x a.y with
  | true=>rw [show tch p a b=0 by unfold tch;simp [h,e1]];exact tch_1 p a b h e1 w
  | false=>cases e2:peqI p.x p.y b.x b.y with
   | true=>rw [show tch p a b=0 by unfold tch;simp [h,e1,e2]];exact tch_2 p a b h e1 e2 w
   | false=>rw [show tch p a b=2 by unfold tch;simp [h,e1,e2]];exact tch_3 p a b h e1 e2 w
theorem xI (n:Int):sgn (-n) = -sgn n:=by unfold sgn;(repeat' split) <;> omega
theorem sgn_n {n:Int} (h:n < 0):sgn n = -1:=by unfold sgn;rw [JH h]
theorem sgn_p {n:Int} (h:0 < n):sgn n=1:=by unfold sgn;rw [J0 (by omega),JH h]
theorem KF (a b:Int):sgn (a * b)=sgn a * sgn b:=by
 rcases V5 a 0 with ha | ha | ha <;> rcases V5 b 0 with hb | hb | hb
 ·rw [sgn_n ha,sgn_n hb,sgn_p (Qt ha hb)];rfl
 ·subst hb;simp [sgn]
 ·rw [sgn_n ha,sgn_p hb,sgn_n (Int.mul_neg_of_neg_of_pos ha hb)];rfl
 ·subst ha;simp [sgn]
 ·subst ha;simp [sgn]
 ·subst ha;simp [sgn]
 ·rw [sgn_p ha,sgn_n hb,sgn_n (QE ha hb)];rfl
 ·subst hb;simp [sgn]
 ·rw [sgn_p ha,sgn_p hb,sgn_p (JP ha hb)];rfl
theorem yZ {n:Int}:sgn n=0↔n=0:=by unfold sgn;(repeat' split) <;> omega
theorem sgn_pos {n:Int}:sgn n=1↔0 < n:=by unfold sgn;(repeat' split) <;> omega
theorem zL (n:Int):sgn n = -1/\n < 0\/sgn n=0/\n=0\/sgn n=1/\0 < n:=by unfold sgn;(repeat' split) <;> omega
theorem ori_v {a b c:Pt} (ha:vld a) (hb:vld b) (hc:vld c):ori a b c=sgn (det a b c):=by unfold ori;rw [JH ⟨ha,hb,hc⟩]
theorem zX (a b c:Pt):det b c a=det a b c:=by unfold det;grind
theorem zW (a b c:Pt):det b a c = -det a b c:=by unfold det;grind
theorem yi (a b c:Pt):ori b c a=ori a b c:=by
 unfold ori;rw [zX];by_cases h:vld a=true/\vld b=true/\vld c=true
 ·rw [JH h,JH ⟨h.2.1,h.2.2,h.1⟩]
 ·rw [J0 h,J0 (λk=>h ⟨k.2.2,k.1,k.2.1⟩)]
theorem qH (a b c:Pt):ori b a c = -ori a b c:=by
 unfold ori;rw [zW,xI];by_cases h:vld a=true/\vld b=true/\vld c=true
 ·rw [JH h,JH ⟨h.2.1,h.1,h.2.2⟩]
 ·rw [J0 h,J0 (λk=>h ⟨k.2.1,k.1,k.2.2⟩)];rfl
theorem kF (a b c:Pt):ori a c b = -ori a b c:=by
 rw [<-yi a c b,qH b c a,yi a b c]
theorem jZ (a b c d:Pt):lft b c a d=lft a b c d:=by unfold lft;omega
theorem lft_swap (a b c d:Pt):lft b a c d = -lft a b c d:=by unfold lft ht cr;grind
theorem lft_last (a b c d:Pt):lft a b d c = -lft a b c d:=by unfold lft ht cr way;grind
def key (p:Pt):Int:=p.x * 16777216+p.y
theorem xO {p q:Pt} (hp:vld p) (hq:vld q):cmpP p q=sgn (key p - key q):=by
 rw [zh] at hp hq;unfold cmpP cmpN key;unfold sgn
 (repeat' split) <;> omega
theorem yj {p q:Pt} (hp:vld p) (hq:vld q) (h:key p=key q):p=q:=by
 rw [zh] at hp hq;rw [Pt.eq_iff];unfold key at h;omega
theorem q9 {p m:Pt} (hp:vld p) (hm:vld m):vld (lsr p m)=true:=by unfold lsr;split <;> assumption
theorem vR {p m:Pt} (hp:vld p) (hm:vld m):key (lsr p m)=min (key p) (key m):=by
 unfold lsr;rw [xO hp hm];have:=zL (key p - key m);split <;> omega
theorem kE {p q:Pt}:peqI p.x p.y q.x q.y=true↔p=q:=by rw [xJ,Pt.eq_iff]
theorem yM {p q:Pt}:peqI p.x p.y q.x q.y=false↔p≠q:=by rw [<-QO,kE]
theorem pp {p q:Pt} (h:p=q):peqI p.x p.y q.x q.y=true:=kE.2 h
theorem np {p q:Pt} (h:¬ p=q):¬ peqI p.x p.y q.x q.y=true:=λk=>h (kE.1 k)
theorem Kt (p m:Pt):lsr p m=p\/lsr p m=m:=by unfold lsr;split <;> simp
theorem X0 (a b c d:Pt):min4 a b c d=a\/min4 a b c d=b\/min4 a b c d=c\/min4 a b c d=d:=by
 unfold min4;rcases Kt d (lsr c (lsr b a)) with h | h <;> rw [h]
 ·simp
 rcases Kt c (lsr b a) with h | h <;> rw [h]
 ·simp
 rcases Kt b a with h | h <;> rw [h] <;> simp
section
variable {a b c d:Pt} (ha:vld a) (hb:vld b) (hc:vld c) (hd:vld d)
include ha hb hc hd
theorem qs:vld (min4 a b c d)=true:=q9 hd (q9 hc (q9 hb ha))
theorem qJ:key (min4 a b c d)=min (key d) (min (key c) (min (key b) (key a))):=by
 unfold min4;rw [vR hd (q9 hc (q9 hb ha)),vR hc (q9 hb ha),vR hb ha]
theorem min4_r:lsr c (lsr b (lsr a d))=min4 a b c d:=by
 refine yj (q9 hc (q9 hb (q9 ha hd))) (qs ha hb hc hd) ?_;rw [qJ ha hb hc hd,vR hc (q9 hb (q9 ha hd)),vR hb (q9 ha hd),vR ha hd];omega
theorem min4_swap:min4 b a c d=min4 a b c d:=by
 refine yj (qs hb ha hc hd) (qs ha hb hc hd) ?_;rw [qJ ha hb hc hd,qJ hb ha hc hd];omega
theorem min4_cyc:min4 b c a d=min4 a b c d:=by
 refine yj (qs hb hc ha hd) (qs ha hb hc hd) ?_;rw [qJ ha hb hc hd,qJ hb hc ha hd];omega
theorem min4_last:min4 a b d c=min4 a b c d:=by
 refine yj (qs ha hb hd hc) (qs ha hb hc hd) ?_;rw [qJ ha hb hc hd,qJ ha hb hd hc];omega
end
theorem yx {a b c d:Pt} (h0:¬ ori a b c=0) (hv:vld d) (e1:d≠a) (e2:d≠b) (e3:d≠c):circ a b c d=if ¬ sgn (lft a b c d)=0 then sgn (lft a b c d) else tie a b c d (min4 a b c d) (ori a b c):=by
 unfold circ;rw [J0 h0,J0 (by rw [hv];simp),J0 (np e1),J0 (np e2),J0 (np e3)]
theorem zc {a b c d:Pt} (h:ori a b c=0\/vld d=false\/d=a\/d=b\/d=c):circ a b c d=0:=by
 unfold circ;rcases h with h | h | h | h | h
 ·rw [JH h]
 ·simp [h]
 all_goals (have k:=pp h;simp [k])
theorem yf {a b c:Pt} (h:¬ ori a b c=0):b≠a/\c≠a/\c≠b:=by
 refine ⟨?_,?_,?_⟩;all_goals (rintro rfl;apply h;unfold ori;split)
 all_goals first | rfl | (rw [yZ];unfold det;grind)
theorem tie_swap {a b c d m:Pt} {o:Int} (n1:b≠a):tie b a c d m (-o) = -tie a b c d m o:=by
 unfold tie;by_cases h1:m=d
 ·rw [JH (pp h1),JH (pp h1)]
 rw [J0 (np h1),J0 (np h1)];by_cases h2:m=a
 ·have h3:¬ m=b:=by rw [h2];exact n1.symm
  rw [J0 (np h3),JH (pp h2),JH (pp h2)];rw [qH d b c]
 ·rw [J0 (np h2) (c:=peqI m.x m.y a.x a.y=true) (e:=if peqI m.x m.y b.x b.y=true then -ori a d c else -ori a b d)];by_cases h3:m=b
  ·rw [JH (pp h3),JH (pp h3),qH a d c]
  ·rw [J0 (np h3),J0 (np h2),J0 (np h3),qH a b d]
theorem tie_cyc {a b c d m:Pt} {o:Int} (hm:m=a\/m=b\/m=c\/m=d) (n1:b≠a) (n2:c≠a) (n3:c≠b):tie b c a d m o=tie a b c d m o:=by
 unfold tie;by_cases h1:m=d
 ·rw [JH (pp h1),JH (pp h1)]
 rw [J0 (np h1),J0 (np h1)];rcases hm with h | h | h | h
 ·subst h;rw [J0 (np n1.symm),J0 (np n2.symm),JH (pp rfl)];rw [<-yi d b c]
 ·subst h;rw [JH (pp rfl),J0 (np n1),JH (pp rfl)];rw [yi a d c]
 ·subst h;rw [J0 (np n3),JH (pp rfl),J0 (np n2),J0 (np n3)];rw [yi a b d]
 ·exact absurd h h1
theorem um (a b c d:Pt):circ b a c d = -circ a b c d:=by
 by_cases h0:ori a b c=0
 ·rw [zc (.inl h0),zc (.inl (by rw [qH,h0];rfl))];rfl
 cases hv:vld d with
 | false=>rw [zc (.inr (.inl hv)),zc (.inr (.inl hv))];rfl
 | true=>
 by_cases e1:d=a
 ·rw [zc (.inr (.inr (.inl e1))),zc (.inr (.inr (.inr (.inl e1))))];rfl
 by_cases e2:d=b
 ·rw [zc (.inr (.inr (.inl e2))),zc (.inr (.inr (.inr (.inl e2))))];rfl
 by_cases e3:d=c
 ·rw [zc (.inr (.inr (.inr (.inr e3)))),zc (.inr (.inr (.inr (.inr e3))))];rfl
 obtain ⟨va,vb,vc⟩:=yz h0;obtain ⟨n1,n2,n3⟩:=yf h0;rw [yx h0 hv e1 e2 e3,yx (by rw [qH];omega) hv e2 e1 e3,lft_swap,xI,min4_swap va vb vc hv,qH,tie_swap n1];split <;> split <;> omega
theorem un (a b c d:Pt):circ b c a d=circ a b c d:=by
 by_cases h0:ori a b c=0
 ·rw [zc (.inl h0),zc (.inl (by rw [yi,h0]))]
 cases hv:vld d with
 | false=>rw [zc (.inr (.inl hv)),zc (.inr (.inl hv))]
 | true=>
 by_cases e1:d=a
 ·rw [zc (.inr (.inr (.inl e1))),zc (.inr (.inr (.inr (.inr e1))))]
 by_cases e2:d=b
 ·rw [zc (.inr (.inr (.inl e2))),zc (.inr (.inr (.inr (.inl e2))))]
 by_cases e3:d=c
 ·rw [zc (.inr (.inr (.inr (.inl e3)))),zc (.inr (.inr (.inr (.inr e3))))]
 obtain ⟨va,vb,vc⟩:=yz h0;obtain ⟨n1,n2,n3⟩:=yf h0;rw [yx h0 hv e1 e2 e3,yx (by rw [yi];omega) hv e2 e3 e1,jZ,min4_cyc va vb vc hv,yi,tie_cyc (X0 a b c d) n1 n2 n3]
theorem ki {a b c d:Pt} (hl:lft a b c d=0) (h0:det a b c≠0) (e2:d≠b) (e3:d≠c):det d b c≠0:=by
 intro hd;have e0:det a b c=cr (way d b) (way d c)+cr (way d c) (way d a)+cr (way d a) (way d b):=by unfold det cr way;grind
 have ed:det d b c=cr (way d b) (way d c):=by unfold det cr way;grind
 have n2:way d b≠⟨0,0⟩:=λh=>e2 (by rw [Pt.eq_iff] at h ⊢;unfold way at h;simp only at h;omega);have n3:way d c≠⟨0,0⟩:=λh=>e3 (by rw [Pt.eq_iff] at h ⊢;unfold way at h;simp only at h;omega);rw [ed] at hd;rw [e0] at h0;unfold lft at hl;generalize way d a=u at *
 generalize way d b=v at *
 generalize way d c=z at *
 have i1:ht u * cr v z+ht v * cr z u+ht z * cr u v=ht u * cr v z+(v.x * z.x+v.y * z.y) * (cr v u+cr u z) - cr v z * (v.x * u.x+v.y * u.y+z.x * u.x+z.y * u.y):=by unfold ht cr;grind
 have i2:cr v u+cr u z = -(cr z u+cr u v):=by unfold cr;grind
 have i3:ht v * ht z=(v.x * z.x+v.y * z.y) * (v.x * z.x+v.y * z.y)+cr v z * cr v z:=by unfold ht cr;grind
 rw [hl,i2,hd] at i1;simp only [Jh,Jn,Vn,Qp] at i1;have h1:(v.x * z.x+v.y * z.y)=0:=by
  rcases JF.1 i1.symm with h | h
  ·exact h
  ·exfalso;apply h0;omega
 rw [h1,hd] at i3;simp only [Jh,Vn] at i3;have key0:∀ p:Pt,ht p=0->p=⟨0,0⟩:=λp hp=>by
  have a1:=qB p.x;have a2:=qB p.y;unfold ht at hp;have b1:p.x * p.x=0:=by omega
  have b2:p.y * p.y=0:=by omega
  rw [Pt.eq_iff];exact ⟨by rcases JF.1 b1 with h | h <;> exact h,by rcases JF.1 b2 with h | h <;> exact h⟩
 rcases JF.1 i3 with h | h
 ·exact n2 (key0 v h)
 ·exact n3 (key0 z h)
theorem circ_sign {a b c d:Pt} (h0:¬ ori a b c=0) (hv:vld d) (e1:d≠a) (e2:d≠b) (e3:d≠c):circ a b c d=1\/circ a b c d = -1:=by
 rw [yx h0 hv e1 e2 e3];obtain ⟨va,vb,vc⟩:=yz h0;have o3:∀ p q r:Pt,vld p=true->vld q=true->vld r=true->det p q r≠0->ori p q r=1\/ori p q r = -1:=λp q r hp hq hr h=>by
  rw [ori_v hp hq hr];have:=zL (det p q r);omega
 have hdet:det a b c≠0:=λh=>h0 (by rw [ori_v va vb vc,h];rfl);split
 ·rename_i h;have:=zL (lft a b c d);omega
 ·rename_i h
  have hl:lft a b c d=0:=by rw [<-yZ];omega
  unfold tie;split
  ·exact o3 _ _ _ va vb vc hdet
  split
  ·have:=o3 d b c hv vb vc (ki hl hdet e2 e3);omega
  split
  ·have h3:=ki (a:=b) (b:=c) (c:=a) (d:=d) (by rw [jZ];exact hl) (by rw [zX];exact hdet) e3 e1;have:=o3 a d c va hv vc (by rw [<-zX a d c];exact h3);omega
  ·have h3:=ki (a:=c) (b:=a) (c:=b) (d:=d) (by rw [jZ b c a,jZ];exact hl) (by rw [zX b c a,zX];exact hdet) e1 e2;have:=o3 a b d va vb hv (by rw [<-zX a b d,<-zX b d a];exact h3);omega
theorem YP {a b c d:Pt} (h0:¬ ori a b c=0) (h1:¬ ori a b d=0) (e:d≠c):circ a b d c = -circ a b c d:=by
 obtain ⟨va,vb,vc⟩:=yz h0;obtain ⟨_,_,vd⟩:=yz h1;obtain ⟨n1,n2,n3⟩:=yf h0;obtain ⟨_,k2,k3⟩:=yf h1;rw [yx h0 vd k2 k3 e,yx h1 vc n2 n3 e.symm,lft_last,xI,min4_last va vb vc vd];by_cases hs:sgn (lft a b c d)=0
 ·rw [J0 (by omega),J0 (by omega)];unfold tie;rcases X0 a b c d with h | h | h | h <;> rw [h]
  ·rw [J0 (np n2.symm),JH (pp rfl),J0 (np k2.symm),JH (pp rfl),qH b c d,yi d b c]
  ·rw [J0 (np n3.symm),J0 (np n1),JH (pp rfl),J0 (np k3.symm),J0 (np n1),JH (pp rfl),kF]
  ·rw [JH (pp rfl),J0 (np e.symm),J0 (np n2),J0 (np n3)];omega
  ·rw [J0 (np e),J0 (np k2),J0 (np k3),JH (pp rfl)]
 ·rw [JH (by omega),JH hs]
end
end Go.Proofs.YthhcehmmglmlfaaGreat
