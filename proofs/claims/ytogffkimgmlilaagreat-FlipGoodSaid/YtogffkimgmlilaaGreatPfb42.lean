/- Put together: Blt8n. -/
import Derived.Test.YtogffkimgmlilaaGreatPfb41
set_option maxRecDepth 100000
set_option maxHeartbeats 8000000
set_option linter.all false
namespace Go.Proofs.YtogffkimgmlilaaGreat
open Go.RowKit Go.Sort _root_.Go.Proofs.Tryz
section
attribute [local go_sem] rOper rAt rUpon cell_set sg_i64 sg_u64 alloc_cell alloc_frozen
attribute [local go_sem 10000] pt_eql pt_neq tri_eql
attribute [local irreducible] rWalk
def Built8nPost (s:Int) (P:List Int) (w:World) (e:Ending) (w':World):Prop:=
 ∃ m2 b2 sb a0 c0 cb mb b db v E2 E L D,e=.returned (.tuple #[pt0 m2,pt0 sb,pt0 cb])∧Box w' m2 [.map (some b2)] 81∧HoldsMap eW eT okW w' b2 E2∧Good E2 L∧SetRd w' sb a0 c0 D.length D ∧
  CdtAt w' cb mb b db v s s E D∧CInvW s s E L D∧(∀ q,someC L q↔PutPt s P q)∧L.length≤2+2 * P.length∧D.length≤100000∧(∀ x∈D,x.K=2)∧Below w w w'∧w.heap.size≤m2∧w.heap.size≤b2∧(w.heap.size≤b∧w.heap.size≤db)∧m2≠b∧m2≠db∧b2≠b∧b2≠db
theorem built8n_any (s:Int) (hs:0 < s) (hs2:s≤60) (a0 a1:Option Addr) (n m0 c0 c1:Nat) (P:List Int) (hP:Hid (P.length=n)) (hn:n≤30) (hm0:Hid (m0=0)) (w:World) (h0:RowAt cI 1 w a0 P):Calls prog 9 #[s,.slice a0 n c0,.slice a1 m0 c1] w (Built8nPost s P w):=by
 have cn:=zG5 s s hs hs (by omega) (by omega);have csp:=fun x=>zHi s x hs hs2
 go_enter func9,ntmps9
 go_wp2_with fail;refine (cn _).mono ?_;rintro e w1 ⟨cb,mb,b,db,v,E,L,D,rfl,S,hI,hL,hC,hD,hw,hb1,hb2,hb3,hb4⟩;have hC':=hdd (show ∀ q,someC L q↔PutPt s [] q from fun q=>by rw [hC q];simp [PutPt]);have hI':=hdd hI;have hL':=hdd (show L.length≤2+2 * 0 by omega);have hD':=hdd (show D.length≤4+2 * 0 by rw [hD.length_eq];simp);have hK':=hdd (show ∀ x∈D,x.K=2 from fun x hx=>by
  obtain ⟨a,b,e,_⟩:=zG0 hs hs (by omega) (by omega) 0;have hm:=hD.mem_iff.1 hx;simp only [jA1,jA6,jAw] at hm;have hk:∀ i,(sqW s s i).K=2:=fun i=>by
   obtain ⟨a,b,e,_⟩:=zG0 hs hs (by omega) (by omega) i;rw [e]
  rcases hm with rfl | rfl | rfl | rfl <;> exact hk _)
 replace hb1:=hdd hb1;replace hb2:=hdd hb2;clear cn hI hL hC hD;go_wp2_with fail
 go_loopw [10] (fun vi wr=>∃ (k:Nat) (v:Value) (E:Es) (L:List Tri3) (D:List Wl),vi=.int .i64 k∧k≤n∧CdtAt wr cb mb b db v s s E D∧Hid (CInvW s s E L D)∧Hid (∀ q,someC L q↔PutPt s (P.take k) q)∧Hid (L.length≤2+2 * k)∧Hid (D.length≤4+2 * k)∧Hid (∀ x∈D,x.K=2)∧Below w w wr) (fun vi _=>n - (intOf vi).toNat)
 case atStart=>exact ⟨0,v,E,L,D,rfl,jAt _,S,hI',by simpa using hC',hL',hD',hK',hw⟩
 case round=>
  clear S hI' hC' hL' hD' hK' hw;obtain ⟨k,v,E,L,D,rfl,hk,S,hI,hC,hL,hD,hK,hw⟩:=hrel;by_cases hlt:k < n
  case neg=>
   obtain rfl:n=k:=by omega
   have hC2:=hdd (show ∀ q,someC L q↔PutPt s P q from fun q=>by rw [hC.out q,jAe (by rw [hP.out];omega)]);clear hC hlt hk;have hDQ:=hdd (show D.length≤64+186 * 0 by have:=hD.out;omega);have hKQ:=hK;clear hK;have hLQ:=hdd (show L.length≤2+2 * n from hL.out);clear hD hL;go_wp2
   go_loopw [11] (fun vi wr=>∃ (k:Nat) (v:Value) (E:Es) (L:List Tri3) (D:List Wl),vi=.int .i64 k∧k≤m0∧CdtAt wr cb mb b db v s s E D∧Hid (CInvW s s E L D)∧Hid (∀ q,someC L q↔PutPt s P q)∧Hid (L.length≤2+2 * n)∧Hid (D.length≤64+186 * k)∧Hid (k=0→∀ x∈D,x.K=2)∧Below w w wr) (fun vi _=>m0 - (intOf vi).toNat)
   case atStart=>exact ⟨0,v,E,L,D,rfl,jAt _,S,hI,hC2,hLQ,hDQ,hdd (fun _=>hKQ.out),hw⟩
   case round=>
    clear S hI hC2 hLQ hDQ hKQ hw;obtain ⟨k,v,E,L,D,rfl,hk,S,hI,hC2,hL,hD,hKQ,hw⟩:=hrel;by_cases hlt:k < m0
    case neg=>
     have hkn:¬ (k:Int) < (m0:Int):=by omega
     clear hlt;have hG:=hI.out.good;have hLk:=hL.out;have hE:E.length≤1000000:=by rw [hG.len];omega
     have ht:=fun W B H=>rtris_any mb b E hE W B H;have hp0:(srt cmpT (heads (fun _=>true) E)).Perm L:=(srt_perm _).trans hG.heads;generalize srt cmpT (heads (fun _=>true) E)=I at *
     obtain ⟨m,hm⟩:∃ m,I.length=m:=⟨_,rfl⟩;rw [hm] at ht;have hm1:m≤1000000:=by rw [←hm,hp0.length_eq];omega
     have hv:∀ T∈I,valT T=true:=fun T h=>hG.val T (hp0.mem_iff.1 h);have hgo:=Good.puts (I:=I) (E:=[]) (M:=[]) ⟨by simp,by simp [KeysNodup],by simp⟩ hv (by
      rw [jAs];exact ((hp0.flatMap_right ways).nodup_iff).2 hG.once)
     rw [jAs,hm] at hgo;obtain ⟨hg1,hg2⟩:=hgo;have hG2:=hdd (show Good (putRun [] I).2 L from ⟨hg2.perm.trans (hp0.flatMap_right wys),hg2.nodup,hG.val⟩);have hn2:=fun a cap W H=>mnew_1 a cap m I (hdd hm) hm1 (fun T h=>zB7 (hv T h)) hg1 W H;clear hg1 hg2 hv hp0 hm1 hE hG hLk hm;have Fs:=S.box.f;go_wp2_with fail;clear Fs;refine (ht _ S.mesh S.map).mono ?_;rintro e w5 ⟨a5,c5,rfl,hr5,hb⟩;replace S:=S.ee hb;have hw5:=(upB hw hb);clear hb ht hw;go_wp2_with fail;refine (hn2 _ _ _ hr5).mono ?_;rintro e w6 ⟨m2,b2,rfl,B2,H2,h1,h2,hb⟩;have S6:=S.ee hb;have hw6:=(upB hw5 hb);have hbl:=S.map.lt;have hdl:=S.doc.box.lt;clear hb hn2 hr5;obtain ⟨a9,c9,rfl,Dr,hz⟩:=S6.doc.rd;have hD9:D.length < 1000000:=by have:=hD.out;have:=hm0.out;omega
     have cw:=fun W R=>zO0 (a:=a9) (c:=c9) hD9 Dr.flat (fun e=>(hz e).1) hI.out.wal.ris hI.out.wal.apart hI.out.wal.good W R;have Fs:=S6.box.f;have Fd:=Dr.box.f;go_wp2_with fail;clear Fs Fd;refine (cw _ Dr.row).mono ?_;rintro e w7 ⟨sb,v7,rfl,A7,hs7,_,hb⟩;obtain ⟨a7,c7,rfl,R7⟩:=A7.rd;have S7:=S6.ee hb;have hw7:=(upB hw6 hb);have B7:=B2.ee hb;have H7:=H2.ee hb;clear hb cw A7;go_wp2;refine bodyPost_ret (v:=.tuple #[pt0 m2,pt0 sb,pt0 cb]) (by simp [results,results9,go_sem]) rfl ?_;exact ⟨m2,b2,sb,a7,c7,cb,mb,b,db,_,_,E,L,D,rfl,B7,H7,hG2.out,R7,S7,hI.out,hC2.out,by rw [hP.out];exact hL.out,by have:=hD.out;have:=hm0.out;omega,hKQ.out (by have:=hm0.out;omega),hw7,jAp hw5.size h2,jAp hw5.size h1,⟨hb1.out,hb2.out⟩,by omega,by omega,by omega,by omega⟩
    case pos=>exact absurd hlt (by have:=hm0.out;omega)
  case pos=>
   have hlk:k < P.length:=hP.out▸hlt;have HN:=hdd (show P.take (k+1)=P.take k ++ [P[k]] from jAb hlk);obtain ⟨ad,ea,hab0,hA0⟩:=h0.num hlk;have hA:=(h0.ee hw).num hlk;obtain ⟨ad2,ea2,hab,hA⟩:=hA;obtain rfl:ad=ad2:=by rw [ea] at ea2;exact jAl ea2
   clear hA0 ea2;generalize P[k]=x at *
   go_wp2_with fail;refine (csp x _).mono ?_;rintro e w3 ⟨rfl,hb⟩;replace S:=S.ee hb;replace hw:=upB hw hb;clear hb hA;go_wp2_with fail;have hLk:=hL.out;have hDk:=hD.out;refine (zIn cb mb b db v s s hs hs (by omega) (by omega) E L D hI.out (by omega) (by omega) (spt s x) _ S).mono ?_;rintro e w4 ⟨r,v',E',L',D',rfl,S',hI2,hr,hC2,hL2,hD2,hkk,hf⟩;have hw4:Below w w w4:=hw.trans (hf.below (fun j hj=>by have:=hb1.out;have:=hb2.out;rcases hj with rfl | rfl <;> omega) hw.size);have hC3:=hdd (show ∀ q,someC L' q↔PutPt s (P.take (k+1)) q from fun q=>by
    rw [hC2 q,hC.out q,HN.out];have hin:inBox s s (spt s x):=zLv hs x;unfold PutPt;constructor
    ·rintro ((h | ⟨y,h1,h2⟩) | ⟨h,_⟩)
     ·exact .inl h
     ·exact .inr ⟨y,jB4 _ h1,h2⟩
     ·exact .inr ⟨x,by simp,h⟩
    ·rintro (h | ⟨y,h1,h2⟩)
     ·exact .inl (.inl h)
     ·rcases jAg.1 h1 with h1 | h1
      ·exact .inl (.inr ⟨y,h1,h2⟩)
      ·rw [jC5] at h1;rw [h1] at h2;exact .inr ⟨h2,hin⟩)
   have hL3:=hdd (show L'.length≤2+2 * (k+1) by omega);have hD3:=hdd (show D'.length≤4+2 * (k+1) by omega);have hI3:=hdd hI2;have hK3:=hdd (show ∀ x∈D',x.K=2 from fun x hx=>by obtain ⟨y,hy,e⟩:=hkk x hx;rw [e];exact hK.out y hy);clear hkk hK;clear hC2 hL2 hD2 hf hr hLk hDk hI2 S hw;go_wp2_with fail;rw [←ea]
   go_roundw
   case rel=>exact ⟨k+1,v',E',L',D',by go_num,by omega,S',hI3,hC3,hL3,hD3,hK3,hw4⟩
   case measure=>simp [intOf];omega
end
end Go.Proofs.YtogffkimgmlilaaGreat
