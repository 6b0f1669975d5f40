import Derived.Test.YtmpfadapbbjbkaaGreatPgt13
set_option maxRecDepth 100000
set_option maxHeartbeats 8000000
set_option linter.all false
namespace Go.Proofs.YtmpfadapbbjbkaaGreat
section
open Go.RowKit Go.Sort
theorem onV_some (o:Option Wl):∃ (V:Wl) (ob:Bool),onV o=.tuple #[.agg #[V.A.x,V.A.y,V.B.x,V.B.y,V.K],.bool ob]/\ob=o.isSome/\∀ X,o=some X->V=X:=by
 cases o with
 | none=>exact ⟨⟨⟨0,0⟩,⟨0,0⟩,0⟩,false,rfl,rfl,λX h=>by cases h⟩
 | some x=>exact ⟨x,true,rfl,rfl,λX h=>JL h⟩
theorem rim_five (s:Int) (x:Pt):(atRim s s x/\(x.x == 0)=true)\/(atRim s s x/\(x.x == 0)=false/\(x.y == 0)=true)\/(atRim s s x/\(x.x == 0)=false/\(x.y == 0)=false/\(x.x == s)=true)\/(atRim s s x/\(x.x == 0)=false/\(x.y == 0)=false/\(x.x == s)=false/\(x.y == s)=true)\/(¬ atRim s s x/\(x.x == 0)=false/\(x.y == 0)=false/\(x.x == s)=false/\(x.y == s)=false):=by
 unfold atRim;simp only [beq_iff_eq,beq_eq_false_iff_ne,ne_eq];omega
theorem built9_two {s:Int} {P:List Int} {m0:Nat} {w w':World} {e:Ending} (h:Built9Post s P m0 w e w'):∃ m2 b2 sb v cb mb b db vd E E1 L D,e=.returned (.tuple #[pt0 m2,pt0 sb,pt0 cb])/\Two9 s w.heap.size w' m2 b2 sb v E L D cb mb b db vd E1 L D/\L.length<=2+2 * P.length/\D.length<=6000/\Below w w w':=by
 obtain ⟨n0,m2,b2,sb,v,cb,mb,b,db,vd,E,E1,L,D,rfl,B2,H2,G2,S2,C2,I2,_,hL,hD,_,hb,hbb,hdb,hn0,⟨hc1,hc2,hc3,hc4,hc5⟩,hm1,hb1,hs1,ho1,_,hF⟩:=h;have hA:∀ {k:Nat},k < n0->Apt b2 sb v k:=λ{k} hk=>⟨by omega,λh=>by
  rcases h with h | h
  ·omega
  ·have:=ho1 k h;omega⟩
 exact ⟨m2,b2,sb,v,cb,mb,b,db,vd,E,E1,L,D,rfl,⟨⟨B2,H2,S2,⟨G2,I2.fix,I2.kinds,I2.wal,I2.rim⟩,hF⟩,C2,I2,⟨hA hc1,hA hc2,hA hc3,hA hc4,λg hg=>hA (hc5 g hg),by omega,by omega,by omega,λk h=>by
  rcases h with h | h
  ·omega
  ·have:=ho1 k h;omega,hbb,hdb⟩⟩,hL,hD,hb⟩
theorem gv_facts {s:Int} {x:Pt} {L L':List Tri3} {D D':List Wl} {r:Int} {sl:Nat} {ob:Bool} (hx:inBox s s x) (hl:L.length<=52/\D.length<=6000) (hst:sl=0↔¬ someC L x) (T:GTold s L D x r L' D') (hob:ob=(D.find? (onD x)).isSome):(sl≠0->r=5/\L'.length=L.length)/\(sl=0->r=0/\(atRim s s x->wrap64 ((L.length:Int)+1)=(L'.length:Int))/\(¬ atRim s s x->wrap64 ((L.length:Int)+2)=(L'.length:Int))/\(ob=true->wrap64 ((D.length:Int)+1)=(D'.length:Int)/\wrap64 ((D.length:Int)+1)=(D'.length:Int))/\(ob=false->wrap64 ((D.length:Int)+0)=(D'.length:Int)/\wrap64 (D.length:Int)=(D'.length:Int))):=by
 obtain ⟨t1,_,_,_,t3,t4⟩:=T;constructor
 ·intro h0;have hc:someC L x:=by
   by_cases k:someC L x
   ·exact k
   ·exact absurd (hst.2 k) h0
  rcases t1 with ⟨_,h⟩ | ⟨h,_⟩ | ⟨_,_,h⟩
  ·exact absurd hx h
  ·exact ⟨h,by rw [(t4 (by omega)).1]⟩
  ·exact absurd hc h
 ·intro h0;have hc:=hst.1 h0;have hr:r=0:=by
   rcases t1 with ⟨_,h⟩ | ⟨_,_,h⟩ | ⟨h,_⟩
   ·exact absurd hx h
   ·exact absurd h hc
   ·exact h
  obtain ⟨_,h2,h3⟩:=t3 hr;refine ⟨hr,λha=>?_,λha=>?_,λhb=>?_,λhb=>?_⟩
  ·rcases h2 with ⟨_,k⟩ | ⟨k,_⟩
   ·exact absurd ha k
   ·rw [w64];omega
  ·rcases h2 with ⟨k,_⟩ | ⟨_,k⟩
   ·rw [w64];omega
   ·exact absurd k ha
  ·rw [hob] at hb;rw [J1 hb] at h3;rw [w64];omega
  ·rw [hob] at hb;rw [Kl (by rw [hb];decide)] at h3;rw [w64,w64];omega
theorem gv_area {s:Int} (h0:0 < s) (h1:s<=40) {E:Es} {L:List Tri3} {D:List Wl} (i:CInvW s s E L D):(∀ U∈srt cmpT (heads (λ_=>true) E),valT U=true)/\sumA (srt cmpT (heads (λ_=>true) E))=2 * s * s/\wrap64 (2 * s)=2 * s/\wrap64 (2 * s * s)=2 * s * s:=by
 have hp:=(zS (c:=cmpT) (heads (λ_=>true) E)).trans i.good.heads;have m1:0<=s * s:=Kr (by omega) (by omega);have m2:s * s<=40 * 40:=Int.mul_le_mul h1 h1 (by omega) (by omega);refine ⟨λU hU=>i.good.val U (hp.mem_iff.1 hU),?_,by rw [w64];omega,?_⟩
 ·rw [ZM hp,i.fix.tiles.area,Int.mul_assoc]
 ·rw [Int.mul_assoc];generalize s * s=z at *
  rw [w64];omega
theorem KI {L:List Tri3} (hv:∀ U∈L,valT U=true) {k:Nat} (hk:k < L.length):sumA (L.take (k+1))=sumA (L.take k)+twi L[k]:=by
 have h:twi L[k]=det L[k].A L[k].B L[k].C:=by unfold twi;rw [J1 (hv _ (JP hk))]
 rw [JD hk,ju,h];show _+(_+0)=_;omega
theorem gv_bd {L:List Tri3} (hv:∀ U∈L,valT U=true):∀ k,k<=L.length->0<=sumA (L.take k)/\sumA (L.take k)<=k * 562949886312450
 | 0,_=>by simp [sumA]
 | k+1,hk=>by
  have h:=gv_bd hv k (by omega);have h2:=twi_bd L[k];rw [KI hv (by omega)];omega
theorem gv_sum {L:List Tri3} (hv:∀ U∈L,valT U=true) (hl:L.length<=1000) {k:Nat} (hk:k < L.length):wrap64 (sumA (L.take k)+twi L[k])=sumA (L.take (k+1)):=by
 have h:=gv_bd hv (k+1) hk;rw [<-KI hv hk,w64];omega
end
end Go.Proofs.YtmpfadapbbjbkaaGreat
