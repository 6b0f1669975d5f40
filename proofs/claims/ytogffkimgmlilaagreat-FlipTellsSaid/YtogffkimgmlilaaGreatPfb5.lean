/- Put together: Slip, WideA, WideB, WideD, WideG, WideH. -/
import Derived.Test.YtogffkimgmlilaaGreatPfb2
import Derived.Test.YtogffkimgmlilaaGreatPfb1
import Derived.WalkSpells
import Derived.WalkLawsBesides
import Derived.Laws.Externs
import Derived.Deep.QuietTactic
import Derived.BigQuiet
import Derived.Laws.MathBits
set_option maxRecDepth 100000
set_option maxHeartbeats 8000000
set_option linter.all false
namespace Go.Proofs.YtogffkimgmlilaaGreat
open _root_.Go.Proofs.Tryz
section
open Go.RowKit Go.Sort
section
variable {P:Program} {ops:Array Oper} {md:Region.Mode} {C:World→Prop}
theorem zKj {n g : Nat} {Q : Exit → Act → World → Prop} {L : Array Bool → Act → Prop} {D : World → Prop} (hD : ∀ w, D w → C w) (hDe : ∀ w w', D w → Ext w w' → D w')
    (hL:∀ listed a w,D w→L listed a→wpAny P md ops Q g listed a w) :
    ∀ (f:Nat) (listed:Array Bool) (a:Act) (w:World),D w→rAny P md ops C n L f listed a→wpAny P md ops Q (f+g) listed a w
 | 0,listed,a,w,hw,h=>by rw [jCa];exact hL _ _ _ hw h
 | f+1,listed,a,w,hw,h=>by
  rw [show f+1+g=(f+g)+1 by omega];refine ⟨fun h0=>absurd h0 h.1,fun i hi=>?_⟩;obtain ⟨hin,o,v,ho,hy,hK⟩:=h.2 i hi;refine zB0 ho (hD w hw) hy fun w' hw'=>?_;exact zKj hD hDe hL f _ _ w' (hDe _ _ hw hw') hK
def slipB (md:Region.Mode) (ops:Array Oper) (g:Nat):Nat→Nat→Array Bool→Bool
 | 0,k,listed=>Region.seqB md ops g k listed
 | s+1,k,listed=>(Region.ready md ops listed).contains k && Region.free md ops listed k && slipB md ops g s (k+1) (listed.setIfInBounds k true)
def slipWalk (P:Program) (ops:Array Oper) (K:Act→Prop):List Oper→Act→Prop
 | [],a=>K a
 | o :: r,a=>∃ v,Yields P ops o v a∧slipWalk P ops K r (a.put o.dst v)
theorem zLw {g : Nat} {Q : Exit → Act → World → Prop} {w : World} {l : List Oper} (hs : Region.noSelect ops = true) (hQ : ∀ d v c a w, Q (.panic c) (Act.put a d v) w → Q (.panic c) a w) (hg : l.length = g) :
    ∀ (r:List Oper) (k:Nat) (listed:Array Bool) (a:Act),(∀ j,(r ++ l)[j]? = ops[k+j]?)→slipB md ops g r.length k listed=true→slipWalk P ops (fun a=>wpList P ops Q l a w) r a→wpAny P md ops Q (r.length+g) listed a w
 | [],k,listed,a,hl,hB,h=>by
  subst hg;rw [jCy,jCa];exact wpAny_of_seq l k listed a w (by simpa using hl) hB h
 | o :: r,k,listed,a,hl,hB,h=>by
  have h0:ops[k]? = some o:=by simpa using (hl 0).symm
  simp only [jAm,slipB,jA3] at hB;obtain ⟨⟨hr,hf⟩,hB'⟩:=hB;obtain ⟨v,hy,hK⟩:=h;rw [jAm,show r.length+1+g=(r.length+g)+1 by omega];exact wpAny_take h0 hs hf hr (fun c a w=>hQ _ _ c a w) hy (zLw hs hQ hg r (k+1) _ _ (fun j=>by have:=hl (j+1);simpa [Nat.add_assoc,Nat.add_comm 1 j] using this) hB' hK)
def chainsB (md:Region.Mode) (ops:Array Oper) (n:Nat):Bool:=
 (List.range ops.size).all fun t=>decide (t≤n) || (List.range t).any fun s=>decide (n≤s) && Region.waitsFor md ops t s
theorem tail_waits' {m:Nat} {listed:Array Bool} (hs:Region.sinkB md ops m=true) (hc:chainsB md ops m=true) (inv:HeadInv md ops (m+1) listed) (hm:m < ops.size):∀ (i:Nat),i < m+1→listed.getD i true=false→∀ t,m+1≤t→t ∉ Region.ready md ops listed:=by
 have low:∀ (d i:Nat),m - i=d→i≤m→listed.getD i true=false→listed.getD m true=false:=by
  intro d;induction d using Nat.strongRecOn with
  | _ d ih=>
   intro i hd hi hun;by_cases him:i=m
   ·rw [←him];exact hun
   ·have h1:=jCf.1 hs i (jBh.2 (by omega));obtain ⟨j,hj,hj2⟩:=jEp.1 h1;simp only [jA3,jA4] at hj2;obtain ⟨oj,hoj,e,he,hb,hon⟩:=Region.waitsFor_spec hj2.2;have hjle:j≤m:=by have:=jBh.1 hj;omega
    cases hl:listed.getD j false with
    | true=>
     have h2:=inv.closed j oj hoj hl e he hb;rw [hon,getD_both hun] at h2;cases h2
    | false=>exact ih (m - j) (by omega) j rfl hjle (getD_in (by rw [inv.size];omega) hl)
 intro i hi hun t ht hr;have hmun:=low (m - i) i rfl (by omega) hun;obtain ⟨_,ot,hot,hall⟩:=mem_ready.1 hr;have htlt:t < ops.size:=(jBg.1 hot).1;have h1:=jCf.1 hc t (jBh.2 htlt);simp only [jD6,jA4] at h1;rcases h1 with h1 | h1
 ·omega
 ·obtain ⟨s,hs1,hs2⟩:=jEp.1 h1;simp only [jA3,jA4] at hs2;obtain ⟨o',ho',e,he,hb,hon⟩:=Region.waitsFor_spec hs2.2;have:o'=ot:=jAl (ho'.symm.trans hot);subst this;have h2:=hall e he hb;have hst:=jBh.1 hs1;by_cases hsm:s=m
  ·subst hsm;rw [hon,getD_both hmun] at h2;cases h2
  ·rw [hon,getD_both (inv.tail s (by omega) (by omega))] at h2;cases h2
def orderG (md:Region.Mode) (ops:Array Oper) (n:Nat) (S:Array Bool→Bool):List Nat→Array Bool→Bool
 | [],listed=>S listed
 | k :: is,listed=>decide (k < n) && (Region.ready md ops listed).contains k && Region.free md ops listed k && orderG md ops n S is (listed.setIfInBounds k true)
theorem zH1 {n : Nat} {Lq : Act → Prop} {S : Array Bool → Bool} (hsel : Region.noSelect ops = true) (Inv : Array Bool → Prop)
    (hinv:∀ listed j,Inv listed→j∈Region.ready md ops listed→j < n→Inv (listed.setIfInBounds j true)) (htail:∀ listed,Inv listed→TailWaits md ops n listed)
    (hS:∀ listed,S listed=true→∀ j∈Region.ready md ops listed,n≤j) :
    ∀ (is:List Nat) (l:List Oper) (listed:Array Bool) (a:Act),is.map (fun i=>ops[i]?)=l.map some→Inv listed→orderG md ops n S is listed=true→rWalk P ops C Lq l a →
     rAny P md ops C n (fun listed' a'=>S listed'=true∧Lq a') is.length listed a
 | [],[],listed,a,_,_,hB,h=>⟨hB,h⟩
 | [],_ :: _,_,_,hl,_,_,_=>by cases hl
 | _ :: _,[],_,_,hl,_,_,_=>by cases hl
 | k :: is,o :: l,listed,a,hl,inv,hB,h=>by
  simp only [jAv,jDy] at hl;obtain ⟨h0,hl⟩:=hl;simp only [orderG,jA3,jA4] at hB;obtain ⟨⟨⟨hkn,hr⟩,hf⟩,hB'⟩:=hB;have hr':k∈Region.ready md ops listed:=by simpa using hr
  obtain ⟨v,hy,hK⟩:=rYields.of_walk h;exact zEb h0 (Region.noSelect_spec hsel) hkn Inv hinv htail (fun listed' a' hL=>hS _ hL.1) is.length listed a inv (Region.free_spec h0 hf) hr' hy
   (zH1 hsel Inv hinv htail hS is l _ _ hl (hinv _ _ inv hr' hkn) hB' hK)
theorem headDone_ready {n:Nat} {listed:Array Bool} (h:((List.range n).all fun i=>listed.getD i false)=true):∀ j∈Region.ready md ops listed,n≤j:=by
 intro j hj;rcases jCm j n with hl | hl
 ·have h1:=jCf.1 h j (jBh.2 hl);have h2:=(mem_ready.1 hj).1;rw [getD_both h2] at h1;cases h1
 ·exact hl
theorem wp_region_slip {id:Nat} {Q:Exit→Act→World→Prop} {a:Act} {w:World} {l:List Oper} (n s:Nat) (hm:P.follows .mixedOrders=true) (hB:(Region.noSelect l.toArray && decide (n+1+s < l.toArray.size) && Region.sinkB .any l.toArray n && chainsB .any l.toArray n && orderG .any l.toArray (n+1) (fun listed=>(List.range (n+1)).all (fun i=>listed.getD i false) && slipB .any l.toArray (l.toArray.size - (n+1) - s) s (n+1) listed) (List.range (n+1)) (Array.replicate l.toArray.size false))=true) (hQ:∀ d v c a w,Q (.panic c) (Act.put a d v) w→Q (.panic c) a w) (hC:∀ w',Below w w w'→C w') (h:rWalk P l.toArray C (fun a'=>∀ w',Below w w w'→slipWalk P l.toArray (fun a2=>wpList P l.toArray Q (l.drop (n+1+s)) a2 w') ((l.drop (n+1)).take s) a') (l.take (n+1)) a):(Code.region id l.toArray true).wp P Q a w:=by
 simp only [jA3,jA4] at hB;obtain ⟨⟨⟨⟨hsel,hn⟩,hs⟩,hc⟩,ho⟩:=hB;have hn':n+1+s < l.length:=by simpa using hn
 have hmap:(List.range (n+1)).map (fun i=>l.toArray[i]?)=(l.take (n+1)).map some:=by
  apply jD4;intro j;simp only [jDj,jBw];by_cases hj:j < n+1
  ·simp [hj,show j < l.length by omega]
  ·simp [hj]
 have H:=zH1 (md:=.any) (C:=C) hsel (HeadInv .any l.toArray (n+1)) (fun listed j inv hj hjn=>inv.set hj hjn) (fun listed inv i hi hun=>tail_waits' hs hc inv (by omega) i hi hun)
  (fun listed hS=>headDone_ready (by simp only [jA3] at hS;exact hS.1)) (List.range (n+1)) (l.take (n+1)) _ a hmap headInv0 ho h
 refine wp_region_any hm ?_;have:=zKj (md:=.any) (Q:=Q) (g:=s+(l.toArray.size - (n+1) - s)) (D:=fun w'=>Below w w w') hC (fun a b ha hb=>Ext.trans (a:=w) ha hb)
  (fun listed a' w' hw' hL=>by
   obtain ⟨h1,h2⟩:=hL;simp only [jA3] at h1;have e:((l.drop (n+1)).take s).length=s:=by simp;omega
   have:=zLw (md:=.any) (Q:=Q) (l:=l.drop (n+1+s)) (g:=l.toArray.size - (n+1) - s) hsel hQ (by simp;omega) ((l.drop (n+1)).take s) (n+1) listed a' (fun j=>by
    rw [show (l.drop (n+1)).take s ++ l.drop (n+1+s)=l.drop (n+1) by rw [show l.drop (n+1+s)=(l.drop (n+1)).drop s by rw [jF6]];exact jBu s _];simp [jCr]) (by rw [e];exact h1.2) (h2 w' hw')
   rw [e] at this;exact this) _ _ _ { w with drawn:=w.drawn+1 } ⟨rfl,rfl,rfl,jA9 _,fun _ _=>rfl⟩ H
 rw [jDv,show n+1+(s+(l.toArray.size - (n+1) - s))=l.toArray.size by omega] at this;exact this
end
end
section
open Go.RowKit
attribute [local go_sem] rOper rAt rUpon cell_set
theorem ext_add (x y:Int) (hx:0≤x) (hy:0≤y) (w:World):(callFunc 185 #[.int .u64 x,.int .u64 y,.int .u64 0]).run prog w=.ok (.value (.tuple #[.int .u64 (lo x y),.int .u64 (cy x y)])) w:=by
 rw [run_callFunc_extern (e:=add64Entry) func185 (by kernel_rfl) (by kernel_rfl) (by kernel_rfl) (by kernel_rfl),run_add64 x y 0 hx hy (by omega) (by omega)];simp [lo,cy,Result.andThen]
theorem zOk (h1 l1 h2 l2:Int) (k:Ok h1 l1) (q:Ok h2 l2) (w:World):Calls prog 179 #[.agg #[h1,.int .u64 l1],.agg #[h2,.int .u64 l2]] w fun e w'=>e=.returned (.tuple #[.agg #[.int .i64 (cH (V h1 l1+V h2 l2)),.int .u64 (cL (V h1 l1+V h2 l2))],.bool (fits (V h1 l1+V h2 l2))])∧Below w w w':=by
 have hx:=ext_add l1 l2 k.l0 q.l0;obtain ⟨c0,c1⟩:=cy_01 k.l0 k.l1 q.l0 q.l1
 go_enter func179,ntmps179
 go_wp2;all_goals go_returns
 ·rename_i a b
  obtain ⟨e1,e2⟩:=c_not (zNi k q a (by simpa using b));refine ⟨?_,by go_grown⟩;rw [e1,e2,zNi k q a (by simpa using b)]
 ·rename_i a b
  obtain ⟨e0,e1,e2⟩:=add_in k q (fun _=>by simpa using b);refine ⟨?_,by go_grown⟩;rw [e0,e1,e2]
 ·rename_i a
  obtain ⟨e0,e1,e2⟩:=add_in k q (fun b=>absurd b a);refine ⟨?_,by go_grown⟩;rw [e0,e1,e2]
theorem cmp_i64 (a b:Int) (w:World):Calls prog 187 #[a,b] w fun e w'=>e=.returned (.int .i64 (sgn (a - b)))∧w=w':=by
 go_enter func187,ntmps187
 go_wp2;all_goals go_ret
 ·exact ⟨zAp (by unfold sgn;rw [jAc (by omega)]),rfl⟩
 ·exact ⟨zAp (by unfold sgn;rw [jA0 (by omega),jAc (by omega)]),rfl⟩
 ·exact ⟨zAp (by unfold sgn;rw [jA0 (by omega),jA0 (by omega)]),rfl⟩
theorem cmp_u64 (a b:Int) (w:World):Calls prog 188 #[.int .u64 a,.int .u64 b] w fun e w'=>e=.returned (.int .i64 (sgn (a - b)))∧w=w':=by
 go_enter func188,ntmps188
 go_wp2;all_goals go_ret
 ·exact ⟨zAp (by unfold sgn;rw [jAc (by omega)]),rfl⟩
 ·exact ⟨zAp (by unfold sgn;rw [jA0 (by omega),jAc (by omega)]),rfl⟩
 ·exact ⟨zAp (by unfold sgn;rw [jA0 (by omega),jA0 (by omega)]),rfl⟩
theorem cmp_any (h1 l1 h2 l2:Int) (k:Ok h1 l1) (q:Ok h2 l2) (w:World):Calls prog 186 #[.agg #[h1,.int .u64 l1],.agg #[h2,.int .u64 l2]] w (Rt w (.int .i64 (sgn (V h1 l1 - V h2 l2)))):=by
 have ea:¬ h1=h2→sgn (h1 - h2)=sgn (V h1 l1 - V h2 l2):=fun c=>by
  obtain ⟨a1,a2,a3,a4⟩:=k;obtain ⟨b1,b2,b3,b4⟩:=q;unfold sgn V;split <;> split <;> (first | rfl | omega | (split <;> first | rfl | omega | (split <;> first | rfl | omega)))
 have eb:h1=h2→sgn (l1 - l2)=sgn (V h1 l1 - V h2 l2):=fun c=>by
  have:V h1 l1 - V h2 l2=l1 - l2:=by unfold V;omega
  rw [this]
 have EA:=hdd ea;have EB:=hdd eb;clear ea eb
 go_enter func186,ntmps186
 by_cases c:h1=h2
 ·have cc:(h1 != h2)=false:=by simp [c]
  go_wp2_with (first | (go_at_call 188;refine (cmp_u64 _ _ _).mono ?_;rintro e w' ⟨rfl,rfl⟩))
  go_returns
  exact ⟨zAp (EB.out c),by go_grown⟩
 ·have cc:(h1 != h2)=true:=by simp [c]
  go_wp2_with (first | (go_at_call 187;refine (cmp_i64 _ _ _).mono ?_;rintro e w' ⟨rfl,rfl⟩))
  go_returns
  exact ⟨zAp (EA.out c),by go_grown⟩
end
section
open Go.RowKit
attribute [local go_sem] rOper rAt rUpon cell_set sg_i64 sg_u64
theorem sign_any (h l:Int) (k:Ok h l) (w:World):Calls prog 180 #[.agg #[h,.int .u64 l]] w (Rt w (.int .i64 (sgn (V h l)))):=by
 have c:=cmp_any h l 0 0 k ⟨by omega,by omega,by omega,by omega⟩;rw [show V h l - V 0 0=V h l by unfold V;omega] at c
 go_enter func180,ntmps180
 go_wp2_with fail;refine (c _).mono ?_;rintro e w1 ⟨rfl,hb⟩;simp only [World.size_alloc] at hb;go_wp2
 go_ret
 exact ⟨rfl,((Below.refl _ _).alloc (jA9 _) _).trans (hb.mono (by omega))⟩
theorem zF0 (h1 l1 h2 l2:Int) (k:Ok h1 l1) (q:Ok h2 l2) (w:World):Calls prog 60 #[.agg #[h1,.int .u64 l1],.agg #[h2,.int .u64 l2]] w fun e w'=>e=.returned (.agg #[.int .i64 (mH (V h1 l1+V h2 l2)),.int .u64 (mL (V h1 l1+V h2 l2))])∧Below w w w':=by
 obtain ⟨e1,e2⟩:=m_sum k q;obtain ⟨c1,c2⟩:=lo_lt k.l0 k.l1 q.l0 q.l1;have e3:lo l1 l2=IntKind.u64.wrap (l1+l2):=by rw [IntKind.wrap_u64];rfl
 rw [e1,e2,e3];rw [e3] at c1 c2;clear e1 e2 e3
 go_enter func60,ntmps60
 go_wp2;all_goals go_returns
 ·rename_i h
  exact ⟨by rw [c1 h],by go_grown⟩
 ·rename_i h
  exact ⟨by rw [c2 h,jD1],by go_grown⟩
theorem zNl (h l:Int) (k:Ok h l) (w:World):Calls prog 61 #[.agg #[h,.int .u64 l]] w fun e w'=>e=.returned (.agg #[.int .i64 (mH (-V h l)),.int .u64 (mL (-V h l))])∧Below w w w':=by
 have x1:=xor_i64 h k.h0 k.h1;have x2:=xor_u64 l k.l0 k.l1;have c:=zF0 (-1 - h) (18446744073709551615 - l) 0 1 ⟨by have:=k.h0;have:=k.h1;omega,by have:=k.h0;have:=k.h1;omega,by have:=k.l0;have:=k.l1;omega,by have:=k.l0;have:=k.l1;omega⟩ ⟨by omega,by omega,by omega,by omega⟩;rw [show V (-1 - h) (18446744073709551615 - l)+V 0 1 = -V h l by unfold V;omega] at c
 go_enter func61,ntmps61
 go_wp2_with fail;refine (c _).mono ?_;rintro e w1 ⟨rfl,hb⟩;simp only [World.size_alloc] at hb;obtain ⟨hc,hf,hz,hy,hv⟩:=bcell hb (by simp only [World.size_alloc]);go_wp2;refine bodyPost_ret (by simp [results,results61,go_sem,hc];try rfl) rfl ⟨rfl,?_⟩;exact ((((Below.refl _ _).alloc (jA9 _) _).alloc (by simp) _).trans (hb.mono (by omega))).setCell (by simp) _ |>.setCell (by simp) _
end
section
open Go.RowKit
attribute [local go_sem] rOper rAt rUpon cell_set sg_i64 sg_u64 alloc_cell alloc_frozen
theorem sgn_mk {n m:Int} (h:m = -1∧n < 0∨m=0∧n=0∨m=1∧0 < n):m=sgn n:=by
 unfold sgn;split
 ·omega
 ·split <;> omega
theorem r_sign (h l:Int) (k:Ok h l) (w:World):Calls prog 62 #[.agg #[h,.int .u64 l]] w (Rt w (.int .i64 (sgn (V h l)))):=by
 have K:=hdd k;clear k
 go_enter func62,ntmps62
 go_wp2;all_goals go_ret
 all_goals refine ⟨zAp (sgn_mk ?_),by go_grown⟩
 all_goals obtain ⟨a1,a2,a3,a4⟩:=K.out
 all_goals unfold V
 ·rename_i a;omega
 ·rename_i a b c;simp at c;omega
 ·rename_i a b c;simp at c;omega
 ·omega
theorem ret_two {k k':IntKind} {a b c d:Int} (h:a=c) (h2:b=d):Ending.returned (.tuple #[.int k a,.int k' b])=.returned (.tuple #[.int k c,.int k' d]):=by rw [h,h2]
theorem mul64_any (x y:Int) (x0:0≤x) (x1:x≤18446744073709551615) (y0:0≤y) (y1:y≤18446744073709551615) (w:World):Calls prog 184 #[.int .u64 x,.int .u64 y] w fun e w'=>e=.returned (.tuple #[.int .u64 (x * y / 18446744073709551616),.int .u64 (x * y % 18446744073709551616)])∧w=w':=by
 have E:=hdd (mul64_arith x y x0 (by omega) y0 (by omega));have al:∀ z:Int,bits .and .u64 (z % 18446744073709551616) 4294967295=z % 18446744073709551616 % 4294967296:=fun z=>and_low32 _ (by omega) (by omega);have A:=hdd al;have ax:=hdd (and_low32 x x0 (by omega));have ay:=hdd (and_low32 y y0 (by omega));clear al
 go_enter func184,ntmps184
 go_wp2
 go_ret2
 refine ⟨ret_two ?_ (by rw [IntKind.wrap_u64]),rfl⟩;simp only [ax.out,ay.out,A.out,IntKind.wrap_u64];exact E.out
theorem zMb (a b:Int) (a0 : -9223372036854775808≤a) (a1:a≤9223372036854775807) (b0 : -9223372036854775808≤b) (b1:b≤9223372036854775807) (w:World):Calls prog 177 #[a,b] w fun e w'=>e=.returned (.agg #[.int .i64 (cH (a * b)),.int .u64 (cL (a * b))])∧Below w w w':=by
 have c:=mul64_any (IntKind.u64.wrap a) (IntKind.u64.wrap b) (by rw [IntKind.wrap_u64];omega) (by rw [IntKind.wrap_u64];omega) (by rw [IntKind.wrap_u64];omega) (by rw [IntKind.wrap_u64];omega);obtain ⟨e0,e1,e2,e3,e4⟩:=mul_words a b a0 a1 b0 b1;rcases jDi a 0 with ha | ha <;> rcases jDi b 0 with hb | hb
 ·rw [e0,e4 ha hb];clear e0 e1 e2 e3 e4
  go_enter func177,ntmps177
  go_wp2_with (first | (go_at_call 184;refine (c _).mono ?_;rintro e w' ⟨rfl,rfl⟩))
  go_returns
  exact ⟨rfl,by go_grown⟩
 ·rw [e0,e2 ha hb];have eb:IntKind.u64.wrap b=b:=by rw [IntKind.wrap_u64];omega
  rw [eb] at c ⊢;clear e0 e1 e2 e3 e4 eb
  go_enter func177,ntmps177
  go_wp2_with (first | (go_at_call 184;refine (c _).mono ?_;rintro e w' ⟨rfl,rfl⟩))
  go_returns
  exact ⟨rfl,by go_grown⟩
 ·rw [e0,e3 ha hb];have ea:IntKind.u64.wrap a=a:=by rw [IntKind.wrap_u64];omega
  rw [ea] at c ⊢;clear e0 e1 e2 e3 e4 ea
  go_enter func177,ntmps177
  go_wp2_with (first | (go_at_call 184;refine (c _).mono ?_;rintro e w' ⟨rfl,rfl⟩))
  go_returns
  exact ⟨rfl,by go_grown⟩
 ·rw [e0,e1 ha hb];have ea:IntKind.u64.wrap a=a:=by rw [IntKind.wrap_u64];omega
  rw [ea] at c ⊢;have eb:IntKind.u64.wrap b=b:=by rw [IntKind.wrap_u64];omega
  rw [eb] at c ⊢;clear e0 e1 e2 e3 e4 ea eb
  go_enter func177,ntmps177
  go_wp2_with (first | (go_at_call 184;refine (c _).mono ?_;rintro e w' ⟨rfl,rfl⟩))
  go_returns
  exact ⟨rfl,by go_grown⟩
theorem mm_two {a b c n:Int} (h:a+b+c=n):mH (V (mH (a+b)) (mL (a+b))+c)=mH n∧mL (V (mH (a+b)) (mL (a+b))+c)=mL n:=by
 obtain ⟨k,hk⟩:=V_m (a+b);exact m_cong k (by omega)
theorem mm_neg {a b c n:Int} (h:a+b+c=n):mH (-V (mH (V (mH (a+b)) (mL (a+b))+c)) (mL (V (mH (a+b)) (mL (a+b))+c)))=mH (-n)∧mL (-V (mH (V (mH (a+b)) (mL (a+b))+c)) (mL (V (mH (a+b)) (mL (a+b))+c)))=mL (-n):=by
 obtain ⟨k,hk⟩:=V_m (a+b);obtain ⟨j,hj⟩:=V_m (V (mH (a+b)) (mL (a+b))+c);exact m_cong (-j - k) (by omega)
theorem r_mul (a b:Int) (a0 : -9223372036854775808≤a) (a1:a≤9223372036854775807) (b0 : -9223372036854775808≤b) (b1:b≤9223372036854775807) (w:World):Calls prog 59 #[a,b] w fun e w'=>e=.returned (.agg #[.int .i64 (cH (a * b)),.int .u64 (cL (a * b))])∧Below w w w':=by
 obtain ⟨m1,m2⟩:=m_c (zMx a b a0 a1 b0 b1);rcases jDi a 0 with ha | ha <;> rcases jDi b 0 with hb | hb
 ·rw [←m1,←m2];obtain ⟨X,hX⟩:∃ X,IntKind.u64.wrap (-IntKind.u64.wrap a)=X:=⟨_,rfl⟩;have eX:X = -a:=by rw [←hX,IntKind.wrap_u64,IntKind.wrap_u64];omega
  obtain ⟨Y,hY⟩:∃ Y,IntKind.u64.wrap (-IntKind.u64.wrap b)=Y:=⟨_,rfl⟩;have eY:Y = -b:=by rw [←hY,IntKind.wrap_u64,IntKind.wrap_u64];omega
  have x0:0≤X:=by omega
  have x1:X≤9223372036854775808:=by omega
  have y0:0≤Y:=by omega
  have y1:Y≤9223372036854775808:=by omega
  have hx:bits .and .u64 X 4294967295=X % 4294967296:=and_low32 X x0 (by omega);have hy:bits .and .u64 Y 4294967295=Y % 4294967296:=and_low32 Y y0 (by omega);have HH:=hdd (halves X Y x0 x1 y0 y1);have HE:X * Y=a * b:=by rw [eX,eY];exact Int.neg_mul_neg a b
  have HE':=hdd HE;clear HE;have EX:=hdd eX;have EY:=hdd eY;clear eX eY m1 m2
  go_enter func59,ntmps59
  go_wp2_with fail;refine zA4 fun W hW=>?_;have B0:Box W w [(),.int .u64 0] 111:=by rw [hW];exact (Box.new rfl).old _
  obtain ⟨d0,d1,B1⟩:∃ d0 d1,Box W (w+1) [d0,d1] 111:=⟨_,_,by rw [hW];exact Box.new (by simp)⟩;have hw:Below w w W:=by rw [hW];go_grown
  clear hW;refine (zF0 _ _ _ _ (ok_w _ _) (ok_w _ _) _).mono ?_;rintro e w1 ⟨rfl,hb1⟩;replace B0:=B0.ee hb1;replace B1:=B1.ee hb1;replace hw:=upB hw hb1;obtain ⟨x0',y0',z0',v0'⟩:=B0.f;obtain ⟨x1',y1',z1',v1'⟩:=B1.f;clear hb1;go_wp2_with fail;refine zA4 fun W2 hW=>?_;replace B0:Box W2 w [(),.int .u64 0] 111:=by rw [hW];exact (B0.set_ne _ _ (by simp)).set_ne _ _ (by simp)
  obtain ⟨d2,d3,B1⟩:∃ d0 d1,Box W2 (w+1) [d0,d1] 111:=⟨_,_,by rw [hW];exact (B1.set 0 _).set 1 _⟩;replace hw:Below w w W2:=by have hl:=hw.size;rw [hW];go_grown
  clear hW x0' y0' z0' v0' x1' y1' z1' v1';refine (zF0 _ _ _ _ (ok_m _) (ok_w _ _) _).mono ?_;rintro e w2 ⟨rfl,hb1⟩;replace B0:=B0.ee hb1;replace B1:=B1.ee hb1;replace hw:=upB hw hb1;obtain ⟨x0',y0',z0',v0'⟩:=B0.f;obtain ⟨x1',y1',z1',v1'⟩:=B1.f;clear hb1;go_wp2_with fail;have hl:=hw.size;refine bodyPost_ret (by simp [results,results59,go_sem,x0'];try rfl) rfl ⟨?_,by go_grown⟩;obtain ⟨q1,q2⟩:=mm_two HH.out;rw [q1,q2,HE'.out]
 ·rw [←m1,←m2];obtain ⟨X,hX⟩:∃ X,IntKind.u64.wrap (-IntKind.u64.wrap a)=X:=⟨_,rfl⟩;have eX:X = -a:=by rw [←hX,IntKind.wrap_u64,IntKind.wrap_u64];omega
  obtain ⟨Y,eY⟩:∃ Y,Y=b:=⟨_,rfl⟩;rw [←eY];rw [←eY] at hb b0 b1;have db:decide (Y < 0)=false:=jCd (by omega);have x0:0≤X:=by omega
  have x1:X≤9223372036854775808:=by omega
  have y0:0≤Y:=by omega
  have y1:Y≤9223372036854775808:=by omega
  have hx:bits .and .u64 X 4294967295=X % 4294967296:=and_low32 X x0 (by omega);have hy:bits .and .u64 Y 4294967295=Y % 4294967296:=and_low32 Y y0 (by omega);have HH:=hdd (halves X Y x0 x1 y0 y1);have HE : -(X * Y)=a * Y:=by rw [eX,jE1,Int.neg_neg]
  have HE':=hdd HE;clear HE;have EX:=hdd eX;have EY:=hdd eY;clear eX eY m1 m2
  go_enter func59,ntmps59
  go_wp2_with fail;refine zA4 fun W hW=>?_;have B0:Box W w [(),.int .u64 0] 111:=by rw [hW];exact (Box.new rfl).old _
  obtain ⟨d0,d1,B1⟩:∃ d0 d1,Box W (w+1) [d0,d1] 111:=⟨_,_,by rw [hW];exact Box.new (by simp)⟩;have hw:Below w w W:=by rw [hW];go_grown
  clear hW;refine (zF0 _ _ _ _ (ok_w _ _) (ok_w _ _) _).mono ?_;rintro e w1 ⟨rfl,hb1⟩;replace B0:=B0.ee hb1;replace B1:=B1.ee hb1;replace hw:=upB hw hb1;obtain ⟨x0',y0',z0',v0'⟩:=B0.f;obtain ⟨x1',y1',z1',v1'⟩:=B1.f;clear hb1;go_wp2_with fail;refine zA4 fun W2 hW=>?_;replace B0:Box W2 w [(),.int .u64 0] 111:=by rw [hW];exact (B0.set_ne _ _ (by simp)).set_ne _ _ (by simp)
  obtain ⟨d2,d3,B1⟩:∃ d0 d1,Box W2 (w+1) [d0,d1] 111:=⟨_,_,by rw [hW];exact (B1.set 0 _).set 1 _⟩;replace hw:Below w w W2:=by have hl:=hw.size;rw [hW];go_grown
  clear hW x0' y0' z0' v0' x1' y1' z1' v1';refine (zF0 _ _ _ _ (ok_m _) (ok_w _ _) _).mono ?_;rintro e w2 ⟨rfl,hb1⟩;replace B0:=B0.ee hb1;replace B1:=B1.ee hb1;replace hw:=upB hw hb1;obtain ⟨x0',y0',z0',v0'⟩:=B0.f;obtain ⟨x1',y1',z1',v1'⟩:=B1.f;clear hb1;go_wp2_with fail;refine zA4 fun W3 hW=>?_;replace B0:Box W3 w [(),.int .u64 0] 111:=by rw [hW];exact (B0.set_ne _ _ (by simp)).set_ne _ _ (by simp)
  replace hw:Below w w W3:=by have hl:=hw.size;rw [hW];go_grown
  clear hW x0' y0' z0' v0' x1' y1' z1' v1';refine (zNl _ _ (ok_m _) _).mono ?_;rintro e w3 ⟨rfl,hb1⟩;replace B0:=B0.ee hb1;replace hw:=upB hw hb1;obtain ⟨x0',y0',z0',v0'⟩:=B0.f;clear hb1;go_wp2;have hl:=hw.size;refine bodyPost_ret (by simp [results,results59,go_sem,x0'];try rfl) rfl ⟨?_,by go_grown⟩;obtain ⟨q1,q2⟩:=mm_neg HH.out;rw [q1,q2,HE'.out]
 ·rw [←m1,←m2];obtain ⟨X,eX⟩:∃ X,X=a:=⟨_,rfl⟩;rw [←eX];rw [←eX] at ha a0 a1;have da:decide (X < 0)=false:=jCd (by omega);obtain ⟨Y,hY⟩:∃ Y,IntKind.u64.wrap (-IntKind.u64.wrap b)=Y:=⟨_,rfl⟩;have eY:Y = -b:=by rw [←hY,IntKind.wrap_u64,IntKind.wrap_u64];omega
  have x0:0≤X:=by omega
  have x1:X≤9223372036854775808:=by omega
  have y0:0≤Y:=by omega
  have y1:Y≤9223372036854775808:=by omega
  have hx:bits .and .u64 X 4294967295=X % 4294967296:=and_low32 X x0 (by omega);have hy:bits .and .u64 Y 4294967295=Y % 4294967296:=and_low32 Y y0 (by omega);have HH:=hdd (halves X Y x0 x1 y0 y1);have HE : -(X * Y)=X * b:=by rw [eY,jCj,Int.neg_neg]
  have HE':=hdd HE;clear HE;have EX:=hdd eX;have EY:=hdd eY;clear eX eY m1 m2
  go_enter func59,ntmps59
  go_wp2_with fail;refine zA4 fun W hW=>?_;have B0:Box W w [(),.int .u64 0] 111:=by rw [hW];exact (Box.new rfl).old _
  obtain ⟨d0,d1,B1⟩:∃ d0 d1,Box W (w+1) [d0,d1] 111:=⟨_,_,by rw [hW];exact Box.new (by simp)⟩;have hw:Below w w W:=by rw [hW];go_grown
  clear hW;refine (zF0 _ _ _ _ (ok_w _ _) (ok_w _ _) _).mono ?_;rintro e w1 ⟨rfl,hb1⟩;replace B0:=B0.ee hb1;replace B1:=B1.ee hb1;replace hw:=upB hw hb1;obtain ⟨x0',y0',z0',v0'⟩:=B0.f;obtain ⟨x1',y1',z1',v1'⟩:=B1.f;clear hb1;go_wp2_with fail;refine zA4 fun W2 hW=>?_;replace B0:Box W2 w [(),.int .u64 0] 111:=by rw [hW];exact (B0.set_ne _ _ (by simp)).set_ne _ _ (by simp)
  obtain ⟨d2,d3,B1⟩:∃ d0 d1,Box W2 (w+1) [d0,d1] 111:=⟨_,_,by rw [hW];exact (B1.set 0 _).set 1 _⟩;replace hw:Below w w W2:=by have hl:=hw.size;rw [hW];go_grown
  clear hW x0' y0' z0' v0' x1' y1' z1' v1';refine (zF0 _ _ _ _ (ok_m _) (ok_w _ _) _).mono ?_;rintro e w2 ⟨rfl,hb1⟩;replace B0:=B0.ee hb1;replace B1:=B1.ee hb1;replace hw:=upB hw hb1;obtain ⟨x0',y0',z0',v0'⟩:=B0.f;obtain ⟨x1',y1',z1',v1'⟩:=B1.f;clear hb1;go_wp2_with fail;refine zA4 fun W3 hW=>?_;replace B0:Box W3 w [(),.int .u64 0] 111:=by rw [hW];exact (B0.set_ne _ _ (by simp)).set_ne _ _ (by simp)
  replace hw:Below w w W3:=by have hl:=hw.size;rw [hW];go_grown
  clear hW x0' y0' z0' v0' x1' y1' z1' v1';refine (zNl _ _ (ok_m _) _).mono ?_;rintro e w3 ⟨rfl,hb1⟩;replace B0:=B0.ee hb1;replace hw:=upB hw hb1;obtain ⟨x0',y0',z0',v0'⟩:=B0.f;clear hb1;go_wp2;have hl:=hw.size;refine bodyPost_ret (by simp [results,results59,go_sem,x0'];try rfl) rfl ⟨?_,by go_grown⟩;obtain ⟨q1,q2⟩:=mm_neg HH.out;rw [q1,q2,HE'.out]
 ·rw [←m1,←m2];obtain ⟨X,eX⟩:∃ X,X=a:=⟨_,rfl⟩;rw [←eX];rw [←eX] at ha a0 a1;have da:decide (X < 0)=false:=jCd (by omega);obtain ⟨Y,eY⟩:∃ Y,Y=b:=⟨_,rfl⟩;rw [←eY];rw [←eY] at hb b0 b1;have db:decide (Y < 0)=false:=jCd (by omega);have x0:0≤X:=by omega
  have x1:X≤9223372036854775808:=by omega
  have y0:0≤Y:=by omega
  have y1:Y≤9223372036854775808:=by omega
  have hx:bits .and .u64 X 4294967295=X % 4294967296:=and_low32 X x0 (by omega);have hy:bits .and .u64 Y 4294967295=Y % 4294967296:=and_low32 Y y0 (by omega);have HH:=hdd (halves X Y x0 x1 y0 y1);have HE:X * Y=X * Y:=rfl;have HE':=hdd HE;clear HE;have EX:=hdd eX;have EY:=hdd eY;clear eX eY m1 m2
  go_enter func59,ntmps59
  go_wp2_with fail;refine zA4 fun W hW=>?_;have B0:Box W w [(),.int .u64 0] 111:=by rw [hW];exact (Box.new rfl).old _
  obtain ⟨d0,d1,B1⟩:∃ d0 d1,Box W (w+1) [d0,d1] 111:=⟨_,_,by rw [hW];exact Box.new (by simp)⟩;have hw:Below w w W:=by rw [hW];go_grown
  clear hW;refine (zF0 _ _ _ _ (ok_w _ _) (ok_w _ _) _).mono ?_;rintro e w1 ⟨rfl,hb1⟩;replace B0:=B0.ee hb1;replace B1:=B1.ee hb1;replace hw:=upB hw hb1;obtain ⟨x0',y0',z0',v0'⟩:=B0.f;obtain ⟨x1',y1',z1',v1'⟩:=B1.f;clear hb1;go_wp2_with fail;refine zA4 fun W2 hW=>?_;replace B0:Box W2 w [(),.int .u64 0] 111:=by rw [hW];exact (B0.set_ne _ _ (by simp)).set_ne _ _ (by simp)
  obtain ⟨d2,d3,B1⟩:∃ d0 d1,Box W2 (w+1) [d0,d1] 111:=⟨_,_,by rw [hW];exact (B1.set 0 _).set 1 _⟩;replace hw:Below w w W2:=by have hl:=hw.size;rw [hW];go_grown
  clear hW x0' y0' z0' v0' x1' y1' z1' v1';refine (zF0 _ _ _ _ (ok_m _) (ok_w _ _) _).mono ?_;rintro e w2 ⟨rfl,hb1⟩;replace B0:=B0.ee hb1;replace B1:=B1.ee hb1;replace hw:=upB hw hb1;obtain ⟨x0',y0',z0',v0'⟩:=B0.f;obtain ⟨x1',y1',z1',v1'⟩:=B1.f;clear hb1;go_wp2_with fail;have hl:=hw.size;refine bodyPost_ret (by simp [results,results59,go_sem,x0'];try rfl) rfl ⟨?_,by go_grown⟩;obtain ⟨q1,q2⟩:=mm_two HH.out;rw [q1,q2]
end
end Go.Proofs.YtogffkimgmlilaaGreat
