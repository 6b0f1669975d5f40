/- Put together: WideM, ExM, Key. -/
import Derived.WalkKit
import Derived.Test.YtogffkimgmlilaaGreatRows
import Derived.Test.YtogffkimgmlilaaGreatPfb0
import Derived.KernelRfl
set_option maxRecDepth 100000
set_option maxHeartbeats 8000000
set_option linter.all false
namespace Go.Proofs.YtogffkimgmlilaaGreat
open _root_.Go.Proofs.Tryz
section
open Go.RowKit
def M:Int:=18446744073709551616
def V (h l:Int):Int:=h * 18446744073709551616+l
def fits (n:Int):Bool:=decide (-170141183460469231731687303715884105728≤n) && decide (n≤170141183460469231731687303715884105727)
def cH (n:Int):Int:=if fits n=true then n / 18446744073709551616 else 0
def cL (n:Int):Int:=if fits n=true then n % 18446744073709551616 else 0
def sgn (n:Int):Int:=if n < 0 then -1 else if 0 < n then 1 else 0
def lo (x y:Int):Int:=(x+y) % 18446744073709551616
def cy (x y:Int):Int:=(x+y) / 18446744073709551616
structure Ok (h l:Int):Prop where
 h0 : -9223372036854775808≤h
 h1:h≤9223372036854775807
 l0:0≤l
 l1:l≤18446744073709551615
theorem zAn {n:Int}:fits n=true ↔ -170141183460469231731687303715884105728≤n∧n≤170141183460469231731687303715884105727:=by
 simp [fits]
theorem fits_not {n:Int}:fits n=false↔¬ (-170141183460469231731687303715884105728≤n∧n≤170141183460469231731687303715884105727):=by
 simp [fits]
theorem ok_c (n:Int):Ok (cH n) (cL n):=by
 unfold cH cL;split
 ·rename_i h;rw [zAn] at h;exact ⟨by omega,by omega,by omega,by omega⟩
 ·exact ⟨by omega,by omega,by omega,by omega⟩
theorem V_c {n:Int} (h:fits n=true):V (cH n) (cL n)=n:=by
 unfold cH cL V;rw [jAc h,jAc h];omega
theorem c_not {n:Int} (h:fits n=false):cH n=0∧cL n=0:=by
 unfold cH cL;rw [h];exact ⟨rfl,rfl⟩
theorem cy_01 {x y:Int} (h0:0≤x) (h1:x≤18446744073709551615) (k0:0≤y) (k1:y≤18446744073709551615):0≤cy x y∧cy x y≤1:=by
 unfold cy;omega
theorem w64 (n:Int):wrap64 n=(n+9223372036854775808) % 18446744073709551616 - 9223372036854775808:=by
 simp only [wrap64]
theorem zNi {h1 l1 h2 l2:Int} (k:Ok h1 l1) (q:Ok h2 l2) (c:h1 < 0↔h2 < 0) (d:¬ (wrap64 (wrap64 (h1+h2)+cy l1 l2) < 0↔h2 < 0)):fits (V h1 l1+V h2 l2)=false:=by
 obtain ⟨a1,a2,a3,a4⟩:=k;obtain ⟨b1,b2,b3,b4⟩:=q;rw [fits_not];simp only [w64,cy] at d;unfold V;omega
theorem add_in {h1 l1 h2 l2:Int} (k:Ok h1 l1) (q:Ok h2 l2) (c:(h1 < 0↔h2 < 0)→(wrap64 (wrap64 (h1+h2)+cy l1 l2) < 0↔h2 < 0)):fits (V h1 l1+V h2 l2)=true∧cH (V h1 l1+V h2 l2)=wrap64 (wrap64 (h1+h2)+cy l1 l2)∧cL (V h1 l1+V h2 l2)=lo l1 l2:=by
 obtain ⟨a1,a2,a3,a4⟩:=k;obtain ⟨b1,b2,b3,b4⟩:=q;have e:fits (V h1 l1+V h2 l2)=true:=by
  rw [zAn];simp only [w64,cy] at c;unfold V;omega
 refine ⟨e,?_,?_⟩
 ·unfold cH;rw [jAc e];rw [zAn] at e;simp only [w64,cy] at c ⊢;unfold V at e ⊢;omega
 ·unfold cL;rw [jAc e];unfold V lo;omega
theorem sg_i64:IntKind.i64.signed=true:=rfl
theorem sg_u64:IntKind.u64.signed=false:=rfl
theorem bv_not (n:Int):BitVec.ofInt 64 (-1) ^^^ BitVec.ofInt 64 n=BitVec.ofInt 64 (-1 - n):=by
 have h1:BitVec.ofInt 64 (-1)=BitVec.allOnes 64:=by decide
 have h3:BitVec.ofInt 64 (-n) = ~~~BitVec.ofInt 64 n+1#64:=by rw [BitVec.ofInt_neg,BitVec.neg_eq_not_add]
 have h2:∀ x:BitVec 64,BitVec.allOnes 64+(x+1#64)=x:=fun x=>by
  rw [BitVec.add_comm x,←BitVec.add_assoc];have:BitVec.allOnes 64+1#64=0#64:=by decide
  rw [this,BitVec.zero_add]
 rw [Int.sub_eq_add_neg,BitVec.ofInt_add,h3,h1,BitVec.allOnes_xor,h2]
theorem xor_i64 (n:Int) (h0 : -9223372036854775808≤n) (h1:n≤9223372036854775807):bits .xor .i64 (-1) n = -1 - n:=by
 show IntKind.i64.wrap ((BitVec.ofInt 64 (-1) ^^^ BitVec.ofInt 64 n).toNat:Int)=_;rw [bv_not,BitVec.toNat_ofInt,IntKind.wrap_i64];omega
theorem xor_u64 (n:Int) (h0:0≤n) (h1:n≤18446744073709551615):bits .xor .u64 IntKind.u64.max n=18446744073709551615 - n:=by
 show IntKind.u64.wrap ((BitVec.ofInt 64 (IntKind.u64.max) ^^^ BitVec.ofInt 64 n).toNat:Int)=_;have:BitVec.ofInt 64 IntKind.u64.max=BitVec.ofInt 64 (-1):=by decide
 rw [this,bv_not,BitVec.toNat_ofInt,IntKind.wrap_u64];omega
/- The document's own answer reckons modulo 2^128. -/
def mH (n:Int):Int:=wrap64 (n / 18446744073709551616)
def mL (n:Int):Int:=n % 18446744073709551616
theorem ok_m (n:Int):Ok (mH n) (mL n):=by
 unfold mH mL wrap64;exact ⟨by omega,by omega,by omega,by omega⟩
theorem V_m (n:Int):∃ k:Int,V (mH n) (mL n)=n+k * 340282366920938463463374607431768211456:=by
 unfold mH mL wrap64 V;exact ⟨-((n / 18446744073709551616+9223372036854775808) / 18446744073709551616),by omega⟩
theorem m_add (n k:Int):mH (n+k * 340282366920938463463374607431768211456)=mH n∧mL (n+k * 340282366920938463463374607431768211456)=mL n:=by
 unfold mH mL wrap64;omega
theorem m_c {n:Int} (h:fits n=true):mH n=cH n∧mL n=cL n:=by
 unfold cH cL;rw [jAc h,jAc h];rw [zAn] at h;unfold mH mL wrap64;omega
theorem m_cong {a b:Int} (k:Int) (e:a=b+k * 340282366920938463463374607431768211456):mH a=mH b∧mL a=mL b:=by
 subst e;exact m_add b k
theorem m_sum {h1 l1 h2 l2:Int} (k:Ok h1 l1) (q:Ok h2 l2):mL (V h1 l1+V h2 l2)=lo l1 l2∧mH (V h1 l1+V h2 l2)=wrap64 (wrap64 (h1+h2)+cy l1 l2):=by
 obtain ⟨a1,a2,a3,a4⟩:=k;obtain ⟨b1,b2,b3,b4⟩:=q;unfold mL mH lo cy wrap64 V;omega
theorem zKo (a b:Int) (a0 : -9223372036854775808≤a) (a1:a≤9223372036854775807) (b0 : -9223372036854775808≤b) (b1:b≤9223372036854775807) : -85070591730234615865843651857942052864≤a * b∧a * b≤85070591730234615865843651857942052864:=by
 have h1:(a.natAbs:Int) * b.natAbs≤9223372036854775808 * 9223372036854775808:=by
  have:a.natAbs * b.natAbs≤9223372036854775808 * 9223372036854775808:=jF5 (by omega) (by omega);have e:(a.natAbs:Int) * b.natAbs=((a.natAbs * b.natAbs:Nat):Int):=(Int.natCast_mul _ _).symm;rw [e];generalize a.natAbs * b.natAbs=p at *
  omega
 have h2:(a * b).natAbs=a.natAbs * b.natAbs:=Int.natAbs_mul a b;have h3:((a * b).natAbs:Int)=(a.natAbs:Int) * b.natAbs:=by rw [h2];exact Int.natCast_mul _ _
 generalize a * b=p at *
 omega
theorem zMx (a b:Int) (a0 : -9223372036854775808≤a) (a1:a≤9223372036854775807) (b0 : -9223372036854775808≤b) (b1:b≤9223372036854775807):fits (a * b)=true:=by
 have:=zKo a b a0 a1 b0 b1;rw [zAn];omega
theorem mul_words (a b:Int) (a0 : -9223372036854775808≤a) (a1:a≤9223372036854775807) (b0 : -9223372036854775808≤b) (b1:b≤9223372036854775807):cL (a * b)=(IntKind.u64.wrap a * IntKind.u64.wrap b) % 18446744073709551616∧(0≤a→0≤b→cH (a * b)=wrap64 (IntKind.u64.wrap a * IntKind.u64.wrap b / 18446744073709551616))∧(a < 0→0≤b→cH (a * b)=wrap64 (IntKind.u64.wrap (IntKind.u64.wrap a * IntKind.u64.wrap b / 18446744073709551616 - IntKind.u64.wrap b)))∧(0≤a→b < 0→cH (a * b)=wrap64 (IntKind.u64.wrap (IntKind.u64.wrap a * IntKind.u64.wrap b / 18446744073709551616 - IntKind.u64.wrap a)))∧(a < 0→b < 0→cH (a * b)=wrap64 (IntKind.u64.wrap (IntKind.u64.wrap (IntKind.u64.wrap a * IntKind.u64.wrap b / 18446744073709551616 - IntKind.u64.wrap b) - IntKind.u64.wrap a))):=by
 have ef:=zMx a b a0 a1 b0 b1;have bd:=zKo a b a0 a1 b0 b1;unfold cL cH;rw [jAc ef,jAc ef];have ea:a < 0→IntKind.u64.wrap a=a+18446744073709551616:=fun h=>by rw [IntKind.wrap_u64];omega
 have ea':0≤a→IntKind.u64.wrap a=a:=fun h=>by rw [IntKind.wrap_u64];omega
 have eb:b < 0→IntKind.u64.wrap b=b+18446744073709551616:=fun h=>by rw [IntKind.wrap_u64];omega
 have eb':0≤b→IntKind.u64.wrap b=b:=fun h=>by rw [IntKind.wrap_u64];omega
 have m1:(a+18446744073709551616) * b=a * b+18446744073709551616 * b:=jEk _ _ _;have m2:a * (b+18446744073709551616)=a * b+a * 18446744073709551616:=Int.mul_add _ _ _;have m3:(a+18446744073709551616) * (b+18446744073709551616)=a * b+a * 18446744073709551616+(18446744073709551616 * b+18446744073709551616 * 18446744073709551616):=by rw [Int.mul_add,jEk,jEk];omega
 refine ⟨?_,fun ha hb=>?_,fun ha hb=>?_,fun ha hb=>?_,fun ha hb=>?_⟩
 ·rcases jDi a 0 with ha | ha <;> rcases jDi b 0 with hb | hb
  ·rw [ea ha,eb hb,m3];generalize a * b=p at *;omega
  ·rw [ea ha,eb' hb,m1];generalize a * b=p at *;omega
  ·rw [ea' ha,eb hb,m2];generalize a * b=p at *;omega
  ·rw [ea' ha,eb' hb]
 ·rw [ea' ha,eb' hb];generalize a * b=p at *;unfold wrap64;omega
 ·rw [ea ha,eb' hb,m1,IntKind.wrap_u64];generalize a * b=p at *;unfold wrap64;omega
 ·rw [ea' ha,eb hb,m2,IntKind.wrap_u64];generalize a * b=p at *;unfold wrap64;omega
 ·rw [ea ha,eb hb,m3,IntKind.wrap_u64,IntKind.wrap_u64];generalize a * b=p at *;unfold wrap64;omega
theorem ok_w (x y:Int):Ok (wrap64 x) (IntKind.u64.wrap y):=by
 rw [IntKind.wrap_u64];unfold wrap64;exact ⟨by omega,by omega,by omega,by omega⟩
theorem halves (X Y:Int) (x0:0≤X) (x1:X≤9223372036854775808) (y0:0≤Y) (y1:Y≤9223372036854775808):V (wrap64 (IntKind.u64.wrap (X / 4294967296 * (Y / 4294967296)))) (IntKind.u64.wrap (X % 4294967296 * (Y % 4294967296)))+V (wrap64 (IntKind.u64.wrap (X % 4294967296 * (Y / 4294967296)) / 4294967296)) (IntKind.u64.wrap (IntKind.u64.wrap (X % 4294967296 * (Y / 4294967296)) * 4294967296))+V (wrap64 (IntKind.u64.wrap (X / 4294967296 * (Y % 4294967296)) / 4294967296)) (IntKind.u64.wrap (IntKind.u64.wrap (X / 4294967296 * (Y % 4294967296)) * 4294967296))=X * Y:=by
 have b1:0≤X / 4294967296∧X / 4294967296≤2147483648:=by omega
 have b2:0≤X % 4294967296∧X % 4294967296≤4294967295:=by omega
 have b3:0≤Y / 4294967296∧Y / 4294967296≤2147483648:=by omega
 have b4:0≤Y % 4294967296∧Y % 4294967296≤4294967295:=by omega
 have ex:X=X / 4294967296 * 4294967296+X % 4294967296:=by omega
 have ey:Y=Y / 4294967296 * 4294967296+Y % 4294967296:=by omega
 generalize X / 4294967296=xh at *
 generalize X % 4294967296=xl at *
 generalize Y / 4294967296=yh at *
 generalize Y % 4294967296=yl at *
 have pb:∀ p q P Q:Int,0≤p→p≤P→0≤q→q≤Q→0≤p * q∧p * q≤P * Q:=fun p q P Q h1 h2 h3 h4=>
  ⟨jA2 h1 h3,Int.mul_le_mul h2 h4 h3 (Int.le_trans h1 h2)⟩
 have p1:=pb xh yh _ _ b1.1 b1.2 b3.1 b3.2;have p2:=pb xl yl _ _ b2.1 b2.2 b4.1 b4.2;have p3:=pb xl yh _ _ b2.1 b2.2 b3.1 b3.2;have p4:=pb xh yl _ _ b1.1 b1.2 b4.1 b4.2;have e:X * Y=xh * yh * 18446744073709551616+(xh * yl+xl * yh) * 4294967296+xl * yl:=by rw [ex,ey];grind
 rw [e];generalize xh * yh=A at *
 generalize xl * yl=B at *
 generalize xl * yh=C at *
 generalize xh * yl=D at *
 simp only [IntKind.wrap_u64];unfold wrap64 V;omega
theorem lo_lt {l1 l2:Int} (a:0≤l1) (b:l1≤18446744073709551615) (c:0≤l2) (d:l2≤18446744073709551615):(lo l1 l2 < l1→cy l1 l2=1)∧(l1≤lo l1 l2→cy l1 l2=0):=by
 unfold lo cy;omega
structure Pt where
 x:Int
 y:Int
instance:Coe Pt Value:=⟨fun p=>.agg #[.int .i64 p.x,.int .i64 p.y]⟩
theorem Pt.eq_iff {p q:Pt}:p=q↔p.x=q.x∧p.y=q.y:=by
 cases p;cases q;simp
def inG (n:Int):Bool:=decide (0≤n∧n < 16777216)
def vld (p:Pt):Bool:=inG p.x && inG p.y
def cmpN (a b:Int):Int:=sgn (a - b)
def cmpP (p q:Pt):Int:=if p.x=q.x then cmpN p.y q.y else cmpN p.x q.x
def det (a b c:Pt):Int:=(b.x - a.x) * (c.y - a.y) - (b.y - a.y) * (c.x - a.x)
def ori (a b c:Pt):Int:=if vld a=true∧vld b=true∧vld c=true then sgn (det a b c) else 0
theorem zAm {p:Pt}:vld p=true↔(0≤p.x∧p.x < 16777216)∧0≤p.y∧p.y < 16777216:=by simp [vld,inG]
instance:DecidableEq Pt:=fun p q=>decidable_of_iff (p.x=q.x∧p.y=q.y) Pt.eq_iff.symm
instance:Inhabited Pt:=⟨⟨0,0⟩⟩
@[reducible] def eW (w:Pt×Pt):Value:=.agg #[.int .i64 w.1.x,.int .i64 w.1.y,.int .i64 w.2.x,.int .i64 w.2.y]
def okI (n:Int):Prop:=(Lit.int .i64 n).wf=true
def okP (p:Pt):Prop:=okI p.x∧okI p.y
def okW (w:Pt×Pt):Prop:=okP w.1∧okP w.2
theorem eW_inj {v w:Pt×Pt} (h:eW v=eW w):v=w:=by
 obtain ⟨⟨a,b⟩,⟨c,d⟩⟩:=v;obtain ⟨⟨e,f⟩,⟨g,i⟩⟩:=w
 simpa [eW,and_assoc] using h
theorem laidTry:laidOutB prog=true:=by kernel_rfl
theorem zMm {P:Program} {t:TypeId} (ht:P.underlying t=some (.int .i64)) (d:Nat) {n:Int} (h:okI n):P.keyLits (d+1) t [.int .i64 n]=some [.int .i64 n]:=by
 unfold okI at h;simp only [Program.keyLits,ht,h,and_self,jDs]
theorem zMl {P : Program} {t : TypeId} {f g : Field} (ht : P.underlying t = some (.struct #[f, g])) (hc : P.cellsOf t = P.cellsOf f.type + P.cellsOf g.type) (hf : f.name ≠ "_") (hg : g.name ≠ "_") (ho : f.offset = 0) (hp : g.offset = P.cellsOf f.type) (d : Nat) {xs ys : List Value} {a b : List Lit} (h1 : xs.length = P.cellsOf f.type) (h2 : ys.length = P.cellsOf g.type) (h3 : P.keyLits d f.type xs = some a) (h4 : P.keyLits d g.type ys = some b) : P.keyLits (d + 1) t (xs ++ ys) = some (a ++ b) := by
 have e1:((xs ++ ys).drop f.offset).take (P.cellsOf f.type)=xs:=by rw [ho,jC0,←h1];simp
 have e2:((xs ++ ys).drop g.offset).take (P.cellsOf g.type)=ys:=by rw [hp,←h1,←h2];simp
 simp only [Program.keyLits,ht];rw [jAc ⟨by simp [h1,h2,hc],by simp [hf,hg]⟩];simp [e1,e2,h3,h4]
theorem zO5 (d:Nat) (p:Pt) (h:okP p):prog.keyLits (d+1+1) 54 [.int .i64 p.x,.int .i64 p.y]=some [.int .i64 p.x,.int .i64 p.y]:=
 zMl underlying54 (by kernel_rfl) (by decide) (by decide) rfl (by kernel_rfl) (d+1) (xs:=[.int .i64 p.x]) (ys:=[.int .i64 p.y]) (by kernel_rfl) (by kernel_rfl) (zMm underlying3 d h.1) (zMm underlying3 d h.2)
theorem zO8 {t : TypeId} {f g : Field} (ht : prog.underlying t = some (.struct #[f, g])) (hk : prog.keyType t = true) (hc : prog.cellsOf t = 4) (hf : f.name ≠ "_") (hg : g.name ≠ "_") (ho : f.offset = 0) (hp : g.offset = 2) (tf : f.type = 54) (tg : g.type = 54) (w : Pt × Pt) (h : okW w) (hfm : Value.formed prog t (eW w) = true) : ∃ l, keyOf prog t (eW w) = some l := by
 have hP:prog.cellsOf 54=2:=by kernel_rfl
 have hn:2≤prog.types.size:=jFb (by kernel_rfl);obtain ⟨d,hd⟩:∃ d,prog.types.size+1=d+1+1+1:=⟨prog.types.size - 2,by omega⟩;have hl:=zMl (P:=prog) ht (by rw [tf,tg,hP,hc]) hf hg ho (by rw [tf,hP,hp]) (d+1+1) (xs:=[.int .i64 w.1.x,.int .i64 w.1.y]) (ys:=[.int .i64 w.2.x,.int .i64 w.2.y]) (by rw [tf,hP];rfl) (by rw [tg,hP];rfl)
  (by rw [tf];exact zO5 d w.1 h.1) (by rw [tg];exact zO5 d w.2 h.2)
 unfold keyOf;simp only [ht,hk,hfm,Bool.and_self,jDs,hd];exact ⟨_,congrArg (Option.map _) hl⟩
theorem zKu {t:TypeId} {fs:Array Field} (ht:prog.underlying t=some (.struct fs)) (h1:t < prog.types.size) (h2:prog.keyTypeAt 5 t=true):Go.Maps.Keyed prog t:=by
 refine Go.Maps.Keyed.of_law (deep_law_laid laidTry (m:=5) (by decide) h1 h2 ?_);rw [ht]
theorem kvM:KV prog 104 56 79 eW okW where
 keyed:=zKu underlying104 (jFb (by kernel_rfl)) (by kernel_rfl)
 ty:=underlying79
 key w h:=zO8 underlying104 (by kernel_rfl) (by kernel_rfl) (by decide) (by decide) rfl rfl rfl rfl w h (by kernel_rfl)
 inj:=eW_inj
theorem kvR:KV prog 92 56 88 eW okW where
 keyed:=zKu underlying92 (jFb (by kernel_rfl)) (by kernel_rfl)
 ty:=underlying88
 key w h:=zO8 underlying92 (by kernel_rfl) (by kernel_rfl) (by decide) (by decide) rfl rfl rfl rfl w h (by kernel_rfl)
 inj:=eW_inj
end
end Go.Proofs.YtogffkimgmlilaaGreat
