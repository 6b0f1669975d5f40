/- Put together: Shelf, WalC, WalD, WalE. -/
import Derived.Shelf.SlicesQ.IndexFunc
import Derived.Shelf.SlicesE.Clone
import Derived.Ground.SlsfProg
import Derived.Ground.SlgfProg
import Derived.Ground.SlgnProg
import Derived.Test.YtogffkimgmlilaaGreatPfb15
import Derived.OwnWalk
set_option maxRecDepth 100000
set_option maxHeartbeats 8000000
set_option linter.all false
namespace Go.Proofs.YtogffkimgmlilaaGreat
open _root_.Go.Proofs.Tryz
section
open Go.Shelf Go.Proofs
def sortTri_ren:Go.Shelf.Ren:=⟨fun | 6=>81 | 15=>87 | 14=>113 | 28=>127 | 29=>128 | 20=>148 | 21=>149 | 22=>150 | 23=>151 | 24=>152 | 25=>153 | 26=>154 | 27=>155 | 46=>174 | 47=>160 | 48=>161 | 49=>175 | 50=>176 | 57=>183 | n=>n,fun | 22=>34 | 24=>56 | 25=>134 | 3=>3 | 39=>141 | 0=>0 | 53=>168 | 55=>109 | 4=>4 | 46=>162 | 45=>161 | 50=>116 | 5=>5 | 9=>9 | 66=>186 | 70=>190 | 76=>203 | 77=>204 | n=>n,fun | n=>n⟩
theorem sortTri:Go.Proofs.SlLaysF0.n6 prog sortTri_ren:={
 mixed:=by kernel_rfl
 f6:=⟨Tryz.f81.name,by decide,func81.trans (congrArg some (by kernel_rfl))⟩
 f14:=⟨Tryz.f113.name,by decide,func113.trans (congrArg some (by kernel_rfl))⟩
 f15:=func87.trans (congrArg some (by kernel_rfl))
 f20:=⟨Tryz.f148.name,by decide,func148.trans (congrArg some (by kernel_rfl))⟩
 f21:=⟨Tryz.f149.name,by decide,func149.trans (congrArg some (by kernel_rfl))⟩
 f22:=⟨Tryz.f150.name,by decide,func150.trans (congrArg some (by kernel_rfl))⟩
 f23:=⟨Tryz.f151.name,by decide,func151.trans (congrArg some (by kernel_rfl))⟩
 f24:=⟨Tryz.f152.name,by decide,func152.trans (congrArg some (by kernel_rfl))⟩
 f25:=⟨Tryz.f153.name,by decide,func153.trans (congrArg some (by kernel_rfl))⟩
 f26:=⟨Tryz.f154.name,by decide,func154.trans (congrArg some (by kernel_rfl))⟩
 f27:=⟨Tryz.f155.name,by decide,func155.trans (congrArg some (by kernel_rfl))⟩
 f28:=func127.trans (congrArg some (by kernel_rfl))
 f29:=func128.trans (congrArg some (by kernel_rfl))
 f46:=⟨Tryz.f174.name,by decide,func174.trans (congrArg some (by kernel_rfl))⟩
 f47:=func160.trans (congrArg some (by kernel_rfl))
 f48:=func161.trans (congrArg some (by kernel_rfl))
 f49:=⟨Tryz.f175.name,by decide,func175.trans (congrArg some (by kernel_rfl))⟩
 f50:=⟨Tryz.f176.name,by decide,func176.trans (congrArg some (by kernel_rfl))⟩
 f57:=⟨Tryz.f183.name,by decide,func183.trans (congrArg some (by kernel_rfl))⟩
 t0:=underlying0
 a0:=Tryz.isAgg0
 z0:=Tryz.sizeOf0
 v0:=Tryz.zeroValue0
 t3:=underlying3
 a3:=Tryz.isAgg3
 z3:=Tryz.sizeOf3
 v3:=Tryz.zeroValue3
 t4:=underlying4
 a4:=Tryz.isAgg4
 z4:=Tryz.sizeOf4
 v4:=Tryz.zeroValue4
 t5:=underlying5
 a5:=Tryz.isAgg5
 z5:=Tryz.sizeOf5
 v5:=Tryz.zeroValue5
 t9:=underlying9
 a9:=Tryz.isAgg9
 z9:=Tryz.sizeOf9
 v9:=Tryz.zeroValue9
 t22:=underlying34
 a22:=Tryz.isAgg34
 z22:=Tryz.sizeOf34
 v22:=Tryz.zeroValue34
 t25:=underlying134
 a25:=Tryz.isAgg134
 z25:=Tryz.sizeOf134
 v25:=Tryz.zeroValue134
 t39:=underlying141
 a39:=Tryz.isAgg141
 z39:=Tryz.sizeOf141
 v39:=Tryz.zeroValue141
 t45:=underlying161
 a45:=Tryz.isAgg161
 z45:=Tryz.sizeOf161
 v45:=Tryz.zeroValue161
 t46:=underlying162
 a46:=Tryz.isAgg162
 z46:=Tryz.sizeOf162
 v46:=Tryz.zeroValue162
 t50:=underlying116
 a50:=Tryz.isAgg116
 z50:=Tryz.sizeOf116
 v50:=Tryz.zeroValue116
 t53:=underlying168
 a53:=Tryz.isAgg168
 z53:=Tryz.sizeOf168
 v53:=Tryz.zeroValue168
 t55:=underlying109
 a55:=Tryz.isAgg109
 z55:=Tryz.sizeOf109
 v55:=Tryz.zeroValue109
 t66:=underlying186
 a66:=Tryz.isAgg186
 z66:=Tryz.sizeOf186
 v66:=Tryz.zeroValue186
 t70:=underlying190
 a70:=Tryz.isAgg190
 z70:=Tryz.sizeOf190
 v70:=Tryz.zeroValue190
 t76:=underlying203
 a76:=Tryz.isAgg203
 z76:=Tryz.sizeOf203
 v76:=Tryz.zeroValue203
 t77:=underlying204
 a77:=Tryz.isAgg204
 z77:=Tryz.sizeOf204
 v77:=Tryz.zeroValue204 }
def sortPt_ren:Go.Shelf.Ren:=⟨fun | 6=>54 | 15=>87 | 14=>92 | 28=>127 | 29=>128 | 20=>133 | 21=>134 | 22=>135 | 23=>136 | 24=>137 | 25=>138 | 26=>139 | 27=>140 | 46=>167 | 47=>160 | 48=>161 | 49=>168 | 50=>169 | 57=>182 | n=>n,fun | 22=>62 | 24=>54 | 25=>67 | 3=>3 | 39=>141 | 0=>0 | 53=>168 | 55=>109 | 4=>4 | 46=>162 | 45=>161 | 50=>116 | 5=>5 | 9=>9 | 66=>186 | 70=>190 | 76=>203 | 77=>204 | n=>n,fun | n=>n⟩
theorem sortPt:Go.Proofs.SlLaysF0.n6 prog sortPt_ren:={
 mixed:=by kernel_rfl
 f6:=⟨Tryz.f54.name,by decide,func54.trans (congrArg some (by kernel_rfl))⟩
 f14:=⟨Tryz.f92.name,by decide,func92.trans (congrArg some (by kernel_rfl))⟩
 f15:=func87.trans (congrArg some (by kernel_rfl))
 f20:=⟨Tryz.f133.name,by decide,func133.trans (congrArg some (by kernel_rfl))⟩
 f21:=⟨Tryz.f134.name,by decide,func134.trans (congrArg some (by kernel_rfl))⟩
 f22:=⟨Tryz.f135.name,by decide,func135.trans (congrArg some (by kernel_rfl))⟩
 f23:=⟨Tryz.f136.name,by decide,func136.trans (congrArg some (by kernel_rfl))⟩
 f24:=⟨Tryz.f137.name,by decide,func137.trans (congrArg some (by kernel_rfl))⟩
 f25:=⟨Tryz.f138.name,by decide,func138.trans (congrArg some (by kernel_rfl))⟩
 f26:=⟨Tryz.f139.name,by decide,func139.trans (congrArg some (by kernel_rfl))⟩
 f27:=⟨Tryz.f140.name,by decide,func140.trans (congrArg some (by kernel_rfl))⟩
 f28:=func127.trans (congrArg some (by kernel_rfl))
 f29:=func128.trans (congrArg some (by kernel_rfl))
 f46:=⟨Tryz.f167.name,by decide,func167.trans (congrArg some (by kernel_rfl))⟩
 f47:=func160.trans (congrArg some (by kernel_rfl))
 f48:=func161.trans (congrArg some (by kernel_rfl))
 f49:=⟨Tryz.f168.name,by decide,func168.trans (congrArg some (by kernel_rfl))⟩
 f50:=⟨Tryz.f169.name,by decide,func169.trans (congrArg some (by kernel_rfl))⟩
 f57:=⟨Tryz.f182.name,by decide,func182.trans (congrArg some (by kernel_rfl))⟩
 t0:=underlying0
 a0:=Tryz.isAgg0
 z0:=Tryz.sizeOf0
 v0:=Tryz.zeroValue0
 t3:=underlying3
 a3:=Tryz.isAgg3
 z3:=Tryz.sizeOf3
 v3:=Tryz.zeroValue3
 t4:=underlying4
 a4:=Tryz.isAgg4
 z4:=Tryz.sizeOf4
 v4:=Tryz.zeroValue4
 t5:=underlying5
 a5:=Tryz.isAgg5
 z5:=Tryz.sizeOf5
 v5:=Tryz.zeroValue5
 t9:=underlying9
 a9:=Tryz.isAgg9
 z9:=Tryz.sizeOf9
 v9:=Tryz.zeroValue9
 t22:=underlying62
 a22:=Tryz.isAgg62
 z22:=Tryz.sizeOf62
 v22:=Tryz.zeroValue62
 t25:=underlying67
 a25:=Tryz.isAgg67
 z25:=Tryz.sizeOf67
 v25:=Tryz.zeroValue67
 t39:=underlying141
 a39:=Tryz.isAgg141
 z39:=Tryz.sizeOf141
 v39:=Tryz.zeroValue141
 t45:=underlying161
 a45:=Tryz.isAgg161
 z45:=Tryz.sizeOf161
 v45:=Tryz.zeroValue161
 t46:=underlying162
 a46:=Tryz.isAgg162
 z46:=Tryz.sizeOf162
 v46:=Tryz.zeroValue162
 t50:=underlying116
 a50:=Tryz.isAgg116
 z50:=Tryz.sizeOf116
 v50:=Tryz.zeroValue116
 t53:=underlying168
 a53:=Tryz.isAgg168
 z53:=Tryz.sizeOf168
 v53:=Tryz.zeroValue168
 t55:=underlying109
 a55:=Tryz.isAgg109
 z55:=Tryz.sizeOf109
 v55:=Tryz.zeroValue109
 t66:=underlying186
 a66:=Tryz.isAgg186
 z66:=Tryz.sizeOf186
 v66:=Tryz.zeroValue186
 t70:=underlying190
 a70:=Tryz.isAgg190
 z70:=Tryz.sizeOf190
 v70:=Tryz.zeroValue190
 t76:=underlying203
 a76:=Tryz.isAgg203
 z76:=Tryz.sizeOf203
 v76:=Tryz.zeroValue203
 t77:=underlying204
 a77:=Tryz.isAgg204
 z77:=Tryz.sizeOf204
 v77:=Tryz.zeroValue204 }
def sortWl_ren:Go.Shelf.Ren:=⟨fun | 6=>45 | 15=>87 | 14=>86 | 28=>127 | 29=>128 | 20=>119 | 21=>120 | 22=>121 | 23=>122 | 24=>123 | 25=>124 | 26=>125 | 27=>126 | 46=>159 | 47=>160 | 48=>161 | 49=>162 | 50=>163 | 57=>181 | n=>n,fun | 22=>37 | 24=>60 | 25=>68 | 3=>3 | 39=>141 | 0=>0 | 53=>168 | 55=>109 | 4=>4 | 46=>162 | 45=>161 | 50=>116 | 5=>5 | 9=>9 | 66=>186 | 70=>190 | 76=>203 | 77=>204 | n=>n,fun | n=>n⟩
theorem sortWl:Go.Proofs.SlLaysF0.n6 prog sortWl_ren:={
 mixed:=by kernel_rfl
 f6:=⟨Tryz.f45.name,by decide,func45.trans (congrArg some (by kernel_rfl))⟩
 f14:=⟨Tryz.f86.name,by decide,func86.trans (congrArg some (by kernel_rfl))⟩
 f15:=func87.trans (congrArg some (by kernel_rfl))
 f20:=⟨Tryz.f119.name,by decide,func119.trans (congrArg some (by kernel_rfl))⟩
 f21:=⟨Tryz.f120.name,by decide,func120.trans (congrArg some (by kernel_rfl))⟩
 f22:=⟨Tryz.f121.name,by decide,func121.trans (congrArg some (by kernel_rfl))⟩
 f23:=⟨Tryz.f122.name,by decide,func122.trans (congrArg some (by kernel_rfl))⟩
 f24:=⟨Tryz.f123.name,by decide,func123.trans (congrArg some (by kernel_rfl))⟩
 f25:=⟨Tryz.f124.name,by decide,func124.trans (congrArg some (by kernel_rfl))⟩
 f26:=⟨Tryz.f125.name,by decide,func125.trans (congrArg some (by kernel_rfl))⟩
 f27:=⟨Tryz.f126.name,by decide,func126.trans (congrArg some (by kernel_rfl))⟩
 f28:=func127.trans (congrArg some (by kernel_rfl))
 f29:=func128.trans (congrArg some (by kernel_rfl))
 f46:=⟨Tryz.f159.name,by decide,func159.trans (congrArg some (by kernel_rfl))⟩
 f47:=func160.trans (congrArg some (by kernel_rfl))
 f48:=func161.trans (congrArg some (by kernel_rfl))
 f49:=⟨Tryz.f162.name,by decide,func162.trans (congrArg some (by kernel_rfl))⟩
 f50:=⟨Tryz.f163.name,by decide,func163.trans (congrArg some (by kernel_rfl))⟩
 f57:=⟨Tryz.f181.name,by decide,func181.trans (congrArg some (by kernel_rfl))⟩
 t0:=underlying0
 a0:=Tryz.isAgg0
 z0:=Tryz.sizeOf0
 v0:=Tryz.zeroValue0
 t3:=underlying3
 a3:=Tryz.isAgg3
 z3:=Tryz.sizeOf3
 v3:=Tryz.zeroValue3
 t4:=underlying4
 a4:=Tryz.isAgg4
 z4:=Tryz.sizeOf4
 v4:=Tryz.zeroValue4
 t5:=underlying5
 a5:=Tryz.isAgg5
 z5:=Tryz.sizeOf5
 v5:=Tryz.zeroValue5
 t9:=underlying9
 a9:=Tryz.isAgg9
 z9:=Tryz.sizeOf9
 v9:=Tryz.zeroValue9
 t22:=underlying37
 a22:=Tryz.isAgg37
 z22:=Tryz.sizeOf37
 v22:=Tryz.zeroValue37
 t25:=underlying68
 a25:=Tryz.isAgg68
 z25:=Tryz.sizeOf68
 v25:=Tryz.zeroValue68
 t39:=underlying141
 a39:=Tryz.isAgg141
 z39:=Tryz.sizeOf141
 v39:=Tryz.zeroValue141
 t45:=underlying161
 a45:=Tryz.isAgg161
 z45:=Tryz.sizeOf161
 v45:=Tryz.zeroValue161
 t46:=underlying162
 a46:=Tryz.isAgg162
 z46:=Tryz.sizeOf162
 v46:=Tryz.zeroValue162
 t50:=underlying116
 a50:=Tryz.isAgg116
 z50:=Tryz.sizeOf116
 v50:=Tryz.zeroValue116
 t53:=underlying168
 a53:=Tryz.isAgg168
 z53:=Tryz.sizeOf168
 v53:=Tryz.zeroValue168
 t55:=underlying109
 a55:=Tryz.isAgg109
 z55:=Tryz.sizeOf109
 v55:=Tryz.zeroValue109
 t66:=underlying186
 a66:=Tryz.isAgg186
 z66:=Tryz.sizeOf186
 v66:=Tryz.zeroValue186
 t70:=underlying190
 a70:=Tryz.isAgg190
 z70:=Tryz.sizeOf190
 v70:=Tryz.zeroValue190
 t76:=underlying203
 a76:=Tryz.isAgg203
 z76:=Tryz.sizeOf203
 v76:=Tryz.zeroValue203
 t77:=underlying204
 a77:=Tryz.isAgg204
 z77:=Tryz.sizeOf204
 v77:=Tryz.zeroValue204 }
def idxWl_ren:Go.Shelf.Ren:=⟨fun | 6=>96 | n=>n,fun | 22=>37 | 23=>60 | 25=>120 | 3=>3 | 0=>0 | 4=>4 | n=>n,fun | n=>n⟩
theorem idxWl:Go.Proofs.SlLaysH0.n6 prog idxWl_ren:={
 mixed:=by kernel_rfl
 f6:=⟨Tryz.f96.name,by decide,func96.trans (congrArg some (by kernel_rfl))⟩
 t0:=underlying0
 a0:=Tryz.isAgg0
 z0:=Tryz.sizeOf0
 v0:=Tryz.zeroValue0
 t3:=underlying3
 a3:=Tryz.isAgg3
 z3:=Tryz.sizeOf3
 v3:=Tryz.zeroValue3
 t4:=underlying4
 a4:=Tryz.isAgg4
 z4:=Tryz.sizeOf4
 v4:=Tryz.zeroValue4
 t22:=underlying37
 a22:=Tryz.isAgg37
 z22:=Tryz.sizeOf37
 v22:=Tryz.zeroValue37
 t25:=underlying120
 a25:=Tryz.isAgg120
 z25:=Tryz.sizeOf120
 v25:=Tryz.zeroValue120 }
def conWl_ren:Go.Shelf.Ren:=⟨fun | 8=>66 | 6=>96 | n=>n,fun | 22=>37 | 23=>60 | 25=>120 | 4=>4 | 3=>3 | 0=>0 | n=>n,fun | n=>n⟩
theorem conWl:Go.Proofs.SlLaysH0.n8 prog conWl_ren:={
 mixed:=by kernel_rfl
 f6:=⟨Tryz.f96.name,by decide,func96.trans (congrArg some (by kernel_rfl))⟩
 f8:=⟨Tryz.f66.name,by decide,func66.trans (congrArg some (by kernel_rfl))⟩
 t0:=underlying0
 a0:=Tryz.isAgg0
 z0:=Tryz.sizeOf0
 v0:=Tryz.zeroValue0
 t3:=underlying3
 a3:=Tryz.isAgg3
 z3:=Tryz.sizeOf3
 v3:=Tryz.zeroValue3
 t4:=underlying4
 a4:=Tryz.isAgg4
 z4:=Tryz.sizeOf4
 v4:=Tryz.zeroValue4
 t22:=underlying37
 a22:=Tryz.isAgg37
 z22:=Tryz.sizeOf37
 v22:=Tryz.zeroValue37
 t25:=underlying120
 a25:=Tryz.isAgg120
 z25:=Tryz.sizeOf120
 v25:=Tryz.zeroValue120 }
def cloneWl_ren:Go.Shelf.Ren:=⟨fun | 41=>53 | n=>n,fun | 22=>37 | 23=>60 | 4=>4 | n=>n,fun | n=>n⟩
theorem cloneWl:Go.Proofs.SlLaysE0.n41 prog cloneWl_ren:={
 mixed:=by kernel_rfl
 f41:=⟨Tryz.f53.name,by decide,func53.trans (congrArg some (by kernel_rfl))⟩
 t4:=underlying4
 a4:=Tryz.isAgg4
 z4:=Tryz.sizeOf4
 v4:=Tryz.zeroValue4
 t22:=underlying37
 a22:=Tryz.isAgg37
 z22:=Tryz.sizeOf37
 v22:=Tryz.zeroValue37 }
end
section
open Go.RowKit Go.Sort Go.Lib Go.Shelf
def WRow (w:World) (B:Nat) (v:Value) (L:List Wl):Prop:=w.ownsRow B 60 5 v L.length (L.flatMap cW)
def Flat (a:Option Addr):Prop:=∀ ad,a=some ad→ad.spot=none
theorem WRow.row {w:World} {B:Nat} {v:Value} {L:List Wl} (h:WRow w B v L):∃ a cap,v=.slice a L.length cap∧RowAt cW 5 w a L∧Flat a:=by
 obtain ⟨a,cap,h1,h2⟩:=zD9 zCs h;refine ⟨a,cap,h1,h2,fun ad ha=>?_⟩;rcases h.2 with ⟨h0,_⟩ | ⟨g,cap',cur,h0,_⟩
 ·rw [h1] at h0;simp at h0;rw [h0.1] at ha;cases ha
 ·rw [h1] at h0;simp at h0;rw [h0.1] at ha;cases ha;rfl
theorem WRow.nil0 (w:World) (B:Nat):WRow w B (.slice none 0 0) []:=World.ownsRow_nil _ _ _ _
theorem WRow.kept {w w':World} {B:Nat} {v:Value} {L:List Wl} {row:Option Nat} (h:WRow w B v L) (hg:w.grownBy w' row) (hne:v.ownBlock=none∨v.ownBlock≠row):WRow w' B v L:=World.ownsRow.kept h hg hne
theorem WRow.lt {w:World} {B:Nat} {v:Value} {L:List Wl} (h:WRow w B v L):∀ k,v.ownBlock=some k→B≤k∧k < w.heap.size:=World.ownsRow.lt h
theorem WRow.base {w:World} {B B':Nat} {v:Value} {L:List Wl} (h:WRow w B v L) (hb:B'≤B):WRow w B' v L:=by
 refine ⟨h.1,?_⟩;rcases h.2 with h | ⟨g,cap,cur,h0,h1,h2⟩
 ·exact .inl h
 ·exact .inr ⟨g,cap,cur,h0,jAp hb h1,h2⟩
theorem WRow.ext {w w':World} {B n:Nat} {v:Value} {L:List Wl} (h:WRow w B v L) (hb:Below n w w') (hn:n=w.heap.size):WRow w' B v L:=by
 refine ⟨h.1,?_⟩;rcases h.2 with h | ⟨g,cap,cur,h0,h1,h2,h3⟩
 ·exact .inl h
 ·refine .inr ⟨g,cap,cur,h0,h1,?_,h3⟩;have hl:g < w.heap.size:=(jBg.1 h2).1;rw [hb.block g (by omega)];exact h2
theorem WRow.ee {w w':World} {B:Nat} {v:Value} {L:List Wl} (h:WRow w B v L) (hb:Below w w w'):WRow w' B v L:=h.ext hb rfl
theorem WRow.box {w:World} {B:Nat} {v:Value} {L:List Wl} (h:WRow w B v L):(v=.slice none 0 0∧L=[])∨∃ g cap tl,v=.slice (some ⟨g,0,none⟩) L.length cap∧B≤g∧Box w g (L.flatMap cW ++ tl) 60∧L.length≤cap∧cap≤maxLen∧tl.length=(cap - L.length) * 5:=by
 rcases h.2 with ⟨h0,h1⟩ | ⟨g,cap,cur,h0,h1,h2,h3,h4,h5,h6⟩
 ·exact .inl ⟨h0,jCe h1⟩
 ·refine .inr ⟨g,cap,cur.toList.drop (L.length * 5),h0,h1,?_,h3,h4,?_⟩
  ·rw [←h6,jBu];exact h2
  ·rw [jBm,jEe,h5];omega
theorem WRow.of_box {w:World} {B g cap:Nat} {L:List Wl} {tl:List Value} (hB:B≤g) (h:Box w g (L.flatMap cW ++ tl) 60) (h1:L.length≤cap) (h2:cap≤maxLen) (h3:tl.length=(cap - L.length) * 5):WRow w B (.slice (some ⟨g,0,none⟩) L.length cap) L:=by
 have hl:=zAf zCs L;refine ⟨hl,.inr ⟨g,cap,(L.flatMap cW ++ tl).toArray,rfl,hB,h,h1,h2,?_,?_⟩⟩
 ·simp only [List.size_toArray,jAa,hl,h3];omega
 ·simp only [←hl];exact List.take_left
theorem flatK_list {α:Type} [Inhabited α] {c:α→List Value} {k:Nat} (hc:∀ x,(c x).length=k) (L:List α) (hk:0 < k):(flatK c k L.toArray).toList=L.flatMap c:=by
 apply jD4;intro t;by_cases ht:t < L.length * k
 ·have hj:t / k < L.length:=by rwa [jEn hk]
  have e:=zB6 hc L (t / k) (t % k) L[t / k] (jA8 hj) (Nat.mod_lt _ hk);rw [show t / k * k+t % k=t by rw [jEg];exact Nat.div_add_mod t k] at e;rw [e];have hs:t < (flatK c k L.toArray).toList.length:=by simpa using ht
  rw [jA8 hs];have g:=get_flatK c k L.toArray t (by simpa using ht);rw [getElem!_pos _ t (by simpa using ht)] at g;rw [Array.getElem_toList,g];have hm:t % k < (c L[t / k]).length:=by rw [hc];exact Nat.mod_lt _ hk
  rw [getElem!_pos L.toArray (t / k) (by simpa using hj),List.getElem_toArray,jEo,jA8 hm];rfl
 ·rw [jCb (by simpa using ht),jCb (by rw [zAf hc];omega)]
theorem block_sortK {α:Type} [Inhabited α] {c:α→List Value} {k:Nat} {w:World} {g n:Nat} {os:Array Obj} {d:Array α} {cur:Array Value} {T:TypeId} {fr:Nat×Nat} (hb:w.heap[g]? = some (.cells cur T fr)):(sortWorldK c k w g 0 n d os).heap[g]? = some (.cells (putCells id 0 (flatK c k d) cur) T fr):=by
 have hl:g < w.heap.size:=(jBg.1 hb).1;unfold sortWorldK putRowK;rw [heap_grow_old _ _ (by simpa [putRow,mapBlock,Sort.ahead] using hl)];simp [putRow,mapBlock,Sort.ahead,jCn,hb,onCells]
theorem cmpLaysW (blk off size:Nat) (w:World):CmpLays prog 46 #[] cW 5 cmpW blk off size w:=fun _ _ _ _ x y=>
 (zLb x y _).mono fun _ _ ⟨he,hx⟩=>⟨he,hx.grown⟩
theorem enterW:∀ args w,(callFunc 46 args).run prog w=.ok (.enter 46 args) w:=enters_of func46 (by kernel_rfl) rfl
theorem zK8 (B:Nat) (v:Value) (L:List Wl) (hL:L.length≤3000000) (w:World) (h:WRow w B v L):Calls prog 45 #[v,.func (.func 46) #[] #[]] w fun e w'=>e=.returned (.tuple #[])∧w.grownBy w' v.ownBlock∧WRow w' B v (srt cmpW L):=by
 have h2:=h.2;have hlen:(srt cmpW L).length=L.length:=(srt_perm (c:=cmpW) L).length_eq;rcases h2 with ⟨rfl,h0⟩ | ⟨g,cap,cur,rfl,hB,hb,h1,h2,h3,h4⟩
 ·have:L=[]:=jCe h0;subst this;have hc:=AnyF.slices_SortFunc_none { sortWl with } none 0 (.func (.func 46) #[] #[]) w
  change Calls prog 45 _ _ _ at hc
  exact hc.mono fun e w' ⟨he,hw⟩=>⟨he,hw▸⟨rfl,rfl,rfl,jA9 _,fun _ _ _=>rfl⟩,by rw [hw,show srt cmpW ([]:List Wl)=[] by simp [srt]];exact WRow.nil0 _ _⟩
 ·obtain ⟨hH,hg⟩:=zCx zCs h;have hc:=AnyQ.slices_SortFunc_total sortWl 5 Tryz.isAgg60 Tryz.sizeOf60 cW zCs zLp cmpW wholeW.swo 46 #[] g 0 cap L.toArray w enterW (cmpLaysW g 0 _ w) hH hg (by simp;omega) wholeW.one
  change Calls prog 45 _ _ _ at hc
  rw [show L.toArray.size=L.length by simp] at hc;refine hc.mono fun e w' ⟨he,n,os,hw⟩=>⟨he,?_,?_⟩
  ·rw [hw];exact zBz _
  ·replace hw:w'=sortWorldK cW 5 w g 0 n (srt cmpW L).toArray os:=hw;rw [hw];refine ⟨zAf zCs _,.inr ⟨g,cap,_,by rw [hlen],hB,block_sortK hb,by rw [hlen];exact h1,h2,by simp [putCells,h3],?_⟩⟩;rw [←flatK_list zCs (srt cmpW L) (by omega)];have hF:(flatK cW 5 (srt cmpW L).toArray).size=L.length * 5:=by simp [hlen]
   have hcs:L.length * 5≤cur.size:=by rw [h3];omega
   rw [hlen];apply List.ext_getElem
   ·simp [putCells,hlen];omega
   ·intro t h5 h6;have h7:t < L.length * 5:=by simpa [hlen] using h6
    have h8:t < (flatK cW 5 (srt cmpW L).toArray).size:=by rw [hF];exact h7
    have h9:t < cur.size:=by omega
    simp only [jF9,Array.getElem_toList,putCells,Array.getElem_mapIdx,jCa,Nat.sub_zero,jAt,true_and,id];rw [jAc h8,getElem!_pos _ t h8]
theorem zEk:(prog.info? 60).map (fun i=>(i.zero,i.size,i.bytes))=some (some (.agg #[(),(),(),(),()]),5,40):=by kernel_rfl
theorem RowAt.flat {w:World} {b off:Nat} {L:List Wl} (h:RowAt cW 5 w (some ⟨b,off,none⟩) L):∀ t u,(L.flatMap cW)[t]? = some u→b < w.heap.size∧w.cell? ⟨b,off+t,none⟩=some u:=fun t u hu=>by
 have ht:t < L.length * 5:=by have:=(jAj.1 hu).1;rwa [zAf zCs] at this
 have hj:t / 5 < L.length:=by omega
 have e:=zB6 zCs L (t / 5) (t % 5) L[t / 5] (jA8 hj) (by omega);rw [show t / 5 * 5+t % 5=t by omega,hu] at e;obtain ⟨ad,h1,h2,h3⟩:=h (t / 5) L[t / 5] (jA8 hj);cases h1
 have h4:=h3 (t % 5) u e.symm;simp only [Addr.add_lit] at h4;rw [show off+t / 5 * 5+t % 5=off+t by omega] at h4;exact ⟨h2,h4⟩
theorem zI2 {a:Option Addr} (hf:Flat a):a=none∨∃ b off,a=some ⟨b,off,none⟩:=by
 cases a with
 | none=>exact .inl rfl
 | some ad=>obtain ⟨b,off,sp⟩:=ad;have:=hf _ rfl;simp at this;subst this;exact .inr ⟨b,off,rfl⟩
theorem zJa (a:Option Addr) (c:Nat) (L:List Wl) (hL:L.length≤1000000) (w:World) (h:RowAt cW 5 w a L) (hf:Flat a) (hz:a=none→L=[]):Calls prog 53 #[.slice a L.length c] w fun e w'=>∃ v',e=.returned v'∧WRow w' w.heap.size v' L∧Below w w w':=by
 rcases zI2 hf with rfl | ⟨b,off,rfl⟩
 ·have:=hz rfl;subst this;exact (AnyE.slices_Clone_nil cloneWl 0 c w).mono fun e w' ⟨he,hw⟩=>⟨_,he,by rw [hw];exact WRow.nil0 _ _,by rw [hw];exact Below.refl _ _⟩
 ·obtain ⟨i0,hi,hz0,hz1,hz2⟩:=info_parts zEk;refine (AnyE.slices_Clone cloneWl i0 _ 5 40 hi hz0 hz1 hz2 rfl (by decide) Tryz.sizeOf60 b off L.length c (L.flatMap cW) w (zAf zCs L) (by unfold maxLen;omega) (by omega) (fun j u hu=>(h.flat j u hu).2) ?_).mono ?_
  ·intro u hu;obtain ⟨x,_,hx⟩:=jAh.1 hu;exact zLp x u hx
  ·rintro e w' ⟨v',he,ho,_,hb⟩;exact ⟨v',he,ho,hb⟩
theorem zN5 (a:Option Addr) (c:Nat) (f:Value) (w:World):Calls prog 96 #[.slice a 0 c,f] w (Rt w (.int .i64 (-1))):=by
 go_enter func96,ntmps96
 go_wp2;refine wp_loop_rounds 1 ?_;try rw [rounds_succ]
 go_wp2
 go_ret
 exact ⟨rfl,by go_grown⟩
theorem conW_empty (a:Option Addr) (c:Nat) (f:Value) (w:World):Calls prog 66 #[.slice a 0 c,f] w (Rt w (.bool false)):=by
 have c1:=zN5 a c f
 go_enter func66,ntmps66
 go_wp2_with fail;refine (c1 _).mono ?_;rintro e w1 ⟨rfl,hb⟩;go_wp2
 go_ret
 exact ⟨rfl,hb⟩
theorem zN6 (p:Wl→Bool) (g:Nat) (lb:Array Value) (eg:∀ args w,(callFunc g args).run prog w=.ok (.enter g args) w) (a:Option Addr) (c:Nat) (L:List Wl) (hL:L.length≤1000000) (w:World) (h:RowAt cW 5 w a L) (hf:Flat a) (hp:PredBelow prog g lb (fun x=>.agg (cW x).toArray) p w):Calls prog 66 #[.slice a L.length c,.func (.func g) #[] lb] w (Rt w (.bool (L.any p))):=by
 by_cases hn:L=[]
 ·subst hn;exact conW_empty a c _ w
 ·have h0:0 < L.length:=jEf.2 hn;rcases zI2 hf with rfl | ⟨b,off,rfl⟩
  ·obtain ⟨ad,h1,_⟩:=h 0 L[0] (jA8 h0);cases h1
  ·have hb:b < w.heap.size:=by obtain ⟨ad,h1,h2,_⟩:=h 0 L[0] (jA8 h0);cases h1;exact h2
   have hc:=AnyQ.slices_ContainsFunc conWl 5 Tryz.isAgg60 Tryz.sizeOf60 cW zCs p g lb eg b off L.length c L w hp (jA9 _) (by omega) hb (fun j hj i v hv=>by
    rw [getElem!_pos L j hj] at hv;obtain ⟨ad,h1,_,h3⟩:=h j L[j] (jA8 hj);cases h1
    have:=h3 i v hv
    simpa only [Addr.add_lit] using this)
   change Calls prog 66 _ _ _ at hc
   rwa [jAe (jA9 _)] at hc
end
section
open Go.RowKit Go.Sort
attribute [local go_sem] rOper rAt rUpon cell_set sg_i64 sg_u64 alloc_cell alloc_frozen
attribute [local go_sem 10000] pt_eql pt_neq wal_eql wal_neq
attribute [local irreducible] rWalk
def bsb (f:Wl→Int) (L:List Wl) (m:Nat):Bool:=match L[m]? with | some x=>f x == 0 | none=>false
theorem toExt2 {P:Program} {f:FuncId} {args:Array Value} {v:Value} {W:World} (c:∀ d os,Calls P f args (grow (redrawn W d) os) fun e w'=>e=.returned v∧Below (grow (redrawn W d) os).heap.size (grow (redrawn W d) os) w'):∀ d os,Calls P f args (grow (redrawn W d) os) fun e w'=>e=.returned v∧Ext (grow (redrawn W d) os) w':=c
def Five (w:World) (A:Addr) (p:Wl):Prop:=A.block < w.heap.size∧w.cell? A=some (.int .i64 p.A.x)∧w.cell? ⟨A.block,A.off+1,none⟩=some (.int .i64 p.A.y)∧w.cell? ⟨A.block,A.off+2,none⟩=some (.int .i64 p.B.x)∧w.cell? ⟨A.block,A.off+3,none⟩=some (.int .i64 p.B.y)∧w.cell? ⟨A.block,A.off+4,none⟩=some (.int .i64 p.K)
theorem RowAt.five {w:World} {a:Option Addr} {L:List Wl} (h:RowAt cW 5 w a L) {j:Nat} (hj:j < L.length):∃ ad A,a=some ad∧ad.add (j * 5)=A∧Five w A L[j]:=by
 obtain ⟨ad,A,h1,h2,_,h4,h5⟩:=h.wal hj;exact ⟨ad,A,h1,h2,h4,h5⟩
theorem Five.ext {w w':World} {A:Addr} {p:Wl} {n:Nat} (h:Five w A p) (hb:Below n w w') (hn:n=w.heap.size):Five w' A p:=by
 obtain ⟨h0,h1,h2,h3,h4,h5⟩:=h;have e:∀ q:Addr,q.block=A.block→w'.cell? q=w.cell? q:=fun q hq=>hb.cell (by rw [hq,hn];exact h0);exact ⟨jBj h0 hb.size,(e A rfl).trans h1,(e ⟨A.block,A.off+1,none⟩ rfl).trans h2,(e ⟨A.block,A.off+2,none⟩ rfl).trans h3,(e ⟨A.block,A.off+3,none⟩ rfl).trans h4,(e ⟨A.block,A.off+4,none⟩ rfl).trans h5⟩
theorem Five.ee {w w':World} {A:Addr} {p:Wl} (h:Five w A p) (hb:Below w w w'):Five w' A p:=h.ext hb rfl
theorem Five.f {w:World} {A:Addr} {p:Wl} (h:Five w A p):(A.block=w.heap.size)=False∧w.cell? A=some (.int .i64 p.A.x)∧w.cell? ⟨A.block,A.off+1,none⟩=some (.int .i64 p.A.y)∧w.cell? ⟨A.block,A.off+2,none⟩=some (.int .i64 p.B.x)∧w.cell? ⟨A.block,A.off+3,none⟩=some (.int .i64 p.B.y)∧w.cell? ⟨A.block,A.off+4,none⟩=some (.int .i64 p.K):=⟨by simp;have:=h.1;omega,h.2⟩
theorem Five.cells {w:World} {A:Addr} {p:Wl} (h:Five w A p):(∀ d os,(grow (redrawn w d) os).cell? A=some (.int .i64 p.A.x))∧(∀ d os,(grow (redrawn w d) os).cell? ⟨A.block,A.off+1,none⟩=some (.int .i64 p.A.y))∧(∀ d os,(grow (redrawn w d) os).cell? ⟨A.block,A.off+2,none⟩=some (.int .i64 p.B.x))∧(∀ d os,(grow (redrawn w d) os).cell? ⟨A.block,A.off+3,none⟩=some (.int .i64 p.B.y))∧(∀ d os,(grow (redrawn w d) os).cell? ⟨A.block,A.off+4,none⟩=some (.int .i64 p.K)):=by
 have e:=fun d os=>(h.ext (below_regrown w d os) rfl).2;exact ⟨fun d os=>(e d os).1,fun d os=>(e d os).2.1,fun d os=>(e d os).2.2.1,fun d os=>(e d os).2.2.2.1,fun d os=>(e d os).2.2.2.2⟩
theorem bsW_any (a:Option Addr) (c:Nat) (L:List Wl) (hL:L.length≤1000000) (T:Wl) (m:Nat) (hm:∀ (k:Nat) (hk:k < L.length),cmpW L[k] T < 0↔k < m) (hmn:m≤L.length) (w:World) (h:RowAt cW 5 w a L):Calls prog 95 #[.slice a L.length c,.agg #[T.A.x,T.A.y,T.B.x,T.B.y,T.K],.func (.func 46) #[] #[]] w (Rt w (.tuple #[m,.bool (bsb (fun x=>cmpW x T) L m)])):=by
 obtain ⟨n,hn1⟩:∃ n,L.length=n:=⟨_,rfl⟩;have hn:n≤1000000:=hn1▸hL;have hmn':m≤n:=hn1▸hmn;have H1:=hdd hn1;have HM:=hdd hm;rw [hn1];clear hL hmn hm hn1;have hnl:n≤n:=jA9 n
 go_enter func95,ntmps95
 go_wp2_with fail;refine zA1 fun W1 hW=>?_;have BT:Box W1 w [T.A.x,T.A.y,T.B.x,T.B.y,T.K] 60:=by rw [hW];exact Box.new rfl
 have hw:Below w w W1:=by rw [hW];go_grown
 clear hW
 go_loopw [9,10,11] (fun vi vj vh wr=>∃ i j:Nat,vi=.int .i64 i∧vj=.int .i64 j∧i≤m∧m≤j∧j≤n∧Below w w wr∧Box wr w [T.A.x,T.A.y,T.B.x,T.B.y,T.K] 60) (fun vi vj _ _=>(intOf vj).toNat - (intOf vi).toNat)
 case atStart=>exact ⟨0,n,rfl,rfl,jAt _,hmn',hnl,hw,BT⟩
 case round=>
  clear BT hw;obtain ⟨i,j,rfl,rfl,h1,h2,h3,hwr,BT⟩:=hrel;by_cases hij:i < j
  ·have hh:i < (i+j) / 2+1∧(i+j) / 2 < j:=by omega
   obtain ⟨q,hq⟩:∃ q,(i+j) / 2=q:=⟨_,rfl⟩;rw [hq] at hh;obtain ⟨hh1,hh2⟩:=hh;have hqn:q < n:=by omega
   have hqi:((i:Int)+(j:Int)) / 2=(q:Int):=by omega
   have hmq:=HM.out q (by rw [H1.out];exact hqn);obtain ⟨ad,A,ea,eA,hA⟩:=(h.ee hwr).five (j:=q) (by rw [H1.out];exact hqn);have cc:=zN7 (L[q]'(by rw [H1.out];exact hqn)) T;have gT:=BT.cells;obtain ⟨s0,s1,s2,s3,s4⟩:=hA.cells;generalize L[q]'(by rw [H1.out];exact hqn)=X at *
   generalize cmpW X T=z at *
   have HQ:=hdd hmq;have H12:=hdd (And.intro (And.intro h1 h2) (And.intro hh1 hh2));clear hmq h1 h2 hq hh1 hh2;subst ea;by_cases hz:z < 0
   ·have hd:decide (z < 0)=true:=by simpa using hz
    have HZ:=hdd (HQ.out.1 hz);clear hz;go_wp2_with fail;refine (wp_region_tail 7 (by kernel_rfl) (by kernel_rfl) (C:=fun w'=>∃ p:Regrown,w'=grow (redrawn wr p.d) p.os) rgB ?_);simp only [tK1,tK0,dP1,dP0];refine wkx ?_;intro w2 hb;have hw2:=(upB hwr hb);have BT2:=BT.ee hb;clear gT s0 s1 s2 s3 s4 hA;go_wp2
    go_roundw
    case rel=>exact ⟨q+1,j,by go_num,rfl,HZ.out,H12.out.1.2,h3,hw2,BT2⟩
    case measure=>simp [intOf];have:=H12.out.2.1;have:=H12.out.2.2;omega
   ·have hd:decide (z < 0)=false:=by simpa using hz
    have HZ:=hdd (show m≤q from Nat.le_of_not_lt fun e=>hz (HQ.out.2 e));clear hz;go_wp2_with fail;refine (wp_region_tail 7 (by kernel_rfl) (by kernel_rfl) (C:=fun w'=>∃ p:Regrown,w'=grow (redrawn wr p.d) p.os) rgB ?_);simp only [tK1,tK0,dP1,dP0];refine wkx ?_;intro w2 hb;have hw2:=(upB hwr hb);have BT2:=BT.ee hb;clear gT s0 s1 s2 s3 s4 hA;go_wp2
    go_roundw
    case rel=>exact ⟨i,q,rfl,rfl,H12.out.1.1,HZ.out,by omega,hw2,BT2⟩
    case measure=>simp [intOf];have:=H12.out.2.1;have:=H12.out.2.2;omega
  ·obtain rfl:i=m:=by omega
   obtain rfl:j=i:=by omega
   have gT:=BT.cells;by_cases hlt:j < n
   ·obtain ⟨ad,A,ea,eA,hA⟩:=(h.ee hwr).five (j:=j) (by rw [H1.out];exact hlt);have cc:=zN7 (L[j]'(by rw [H1.out];exact hlt)) T;have HB:Hid (bsb (fun x=>cmpW x T) L j=(cmpW (L[j]'(by rw [H1.out];exact hlt)) T == 0)):=hdd (by unfold bsb;rw [jA8 (by rw [H1.out];exact hlt)]);generalize L[j]'(by rw [H1.out];exact hlt)=X at *
    generalize cmpW X T=z at *
    obtain ⟨s0,s1,s2,s3,s4⟩:=hA.cells;subst ea;go_wp2_with fail;refine (wp_region_tail 15 (by kernel_rfl) (by kernel_rfl) (C:=fun w'=>∃ p:Regrown,w'=grow (redrawn wr p.d) p.os) rgB ?_);simp only [tK1,tK0,dP1,dP0];refine wkx ?_;intro w2 hb;have hw2:=(upB hwr hb);clear gT s0 s1 s2 s3 s4 hA;go_wp2_with fail;refine bodyPost_ret (v:=.tuple #[.int .i64 j,.bool (z == 0)]) (by simp [results,results95,go_sem]) rfl ⟨by rw [HB.out],hw2⟩
   ·have HB:Hid (bsb (fun x=>cmpW x T) L j=false):=hdd (by unfold bsb;rw [jCb (by rw [H1.out];omega)]);go_wp2_with fail;refine (wp_region_tail 15 (by kernel_rfl) (by kernel_rfl) (C:=fun w'=>∃ p:Regrown,w'=grow (redrawn wr p.d) p.os) rgB ?_);simp only [tK1,tK0,dP1,dP0];repeat (first | (refine zA7 (Eq.refl false) ?_;simp only [Act.put,sT2,sT1,sT0]) | (refine rWalk_step (fun K hK=>?_);go_simp;refine hK _ ?_;clear hK K))
    refine rWalk_nil ?_;intro w2 hb;have hw2:=(upB hwr hb);clear gT;go_wp2_with fail;refine bodyPost_ret (v:=.tuple #[.int .i64 j,.bool false]) (by simp [results,results95,go_sem]) rfl ⟨by rw [HB.out],hw2⟩
def bar1 (X V:Wl):Bool := !bsd X V.A V.B && decide (meetS X.A X.B V.A V.B≠0)
theorem bar1_0 (X V:Wl) (bv:Nat) (h:bsd X V.A V.B=true) (w:World) (Hv:Box w bv [V.A.x,V.A.y,V.B.x,V.B.y,V.K] 60):Calls prog 141 #[.agg #[X.A.x,X.A.y,X.B.x,X.B.y,X.K],pt0 bv] w (Rt w (.bool (bar1 X V))):=by
 have c1:=zOh X V.A V.B;have c2:=zHv X.A X.B V.A V.B;have HE:Hid (bar1 X V=false):=hdd (by unfold bar1;rw [h];rfl);rw [h] at c1;clear h;generalize meetS X.A X.B V.A V.B=z at *
 go_enter func141,ntmps141
 have Fh:=Hv.f;go_wp2_with fail;clear Fh;refine qE1 fun W1 Bx hw=>?_;have BV:Box W1 bv [V.A.x,V.A.y,V.B.x,V.B.y,V.K] 60:=Hv.ee hw;have F_xV:=J2 Bx.f BV.f;clear F_xV;refine qC2 (c1 _) Bx BV hw fun w2 Bx BV hw F_xV=>?_;go_wp2
 go_ret
 exact ⟨zB9 (by rw [HE.out]),by have hl:=hw.size;go_grown⟩
theorem bar1_1 (X V:Wl) (bv:Nat) (h:bsd X V.A V.B=false) (w:World) (Hv:Box w bv [V.A.x,V.A.y,V.B.x,V.B.y,V.K] 60):Calls prog 141 #[.agg #[X.A.x,X.A.y,X.B.x,X.B.y,X.K],pt0 bv] w (Rt w (.bool (bar1 X V))):=by
 have c1:=zOh X V.A V.B;have c2:=zHv X.A X.B V.A V.B;have HE:Hid (bar1 X V=(meetS X.A X.B V.A V.B != 0)):=hdd (by unfold bar1;rw [h];rw [Bool.not_false,jCp,jCs];simp);rw [h] at c1;clear h;generalize meetS X.A X.B V.A V.B=z at *
 go_enter func141,ntmps141
 have Fh:=Hv.f;go_wp2_with fail;clear Fh;refine qE1 fun W1 Bx hw=>?_;have BV:Box W1 bv [V.A.x,V.A.y,V.B.x,V.B.y,V.K] 60:=Hv.ee hw;have F_xV:=J2 Bx.f BV.f;clear F_xV;refine qC2 (c1 _) Bx BV hw fun w2 Bx BV hw F_xV=>?_;go_wp2_with fail;clear F_xV;refine qC2 (c2 _) Bx BV hw fun w3 Bx BV hw F_xV=>?_;go_wp2
 go_ret
 exact ⟨zB9 (by rw [HE.out]),by have hl:=hw.size;go_grown⟩
theorem bar1_any (X V:Wl) (bv:Nat) (w:World) (Hv:Box w bv [V.A.x,V.A.y,V.B.x,V.B.y,V.K] 60):Calls prog 141 #[.agg #[X.A.x,X.A.y,X.B.x,X.B.y,X.K],pt0 bv] w (Rt w (.bool (bar1 X V))):=by
 cases h:bsd X V.A V.B with
 | true=>exact bar1_0 X V bv h w Hv
 | false=>exact bar1_1 X V bv h w Hv
theorem bar1_enter:∀ args w,(callFunc 141 args).run prog w=.ok (.enter 141 args) w:=enters_of func141 (by kernel_rfl) rfl
theorem bar1_pred (V:Wl) (bv:Nat) (w:World) (Hv:Box w bv [V.A.x,V.A.y,V.B.x,V.B.y,V.K] 60):PredBelow prog 141 #[pt0 bv] (fun x=>.agg (cW x).toArray) (fun x=>bar1 x V) w:=fun W x hb=>
 (bar1_any x V bv W (Hv.ee hb)).mono fun _ _ ⟨he,hx⟩=>⟨he,(upB hb hx)⟩
theorem zNd (V:Wl) (a:Option Addr) (c n:Nat) (L:List Wl) (hn:L.length=n) (hL:L.length≤1000000) (hf:Flat a) (w:World) (h:RowAt cW 5 w a L):Calls prog 99 #[.slice a n c,.agg #[V.A.x,V.A.y,V.B.x,V.B.y,V.K]] w (Rt w (.bool (L.any fun x=>bar1 x V))):=by
 go_enter func99,ntmps99
 go_wp2_with fail;refine qE1 fun W1 Bv hw=>?_;have c1:=zN6 (fun x=>bar1 x V) _ _ bar1_enter a c L hL _ (h.ee hw) hf (bar1_pred V _ _ Bv);rw [hn] at c1;refine qC1 (c1) Bv hw fun w2 Bv hw Fv=>?_;go_wp2
 go_ret
 exact ⟨rfl,by have hl:=hw.size;go_grown⟩
def fnd (L:List Wl) (m:Nat) (p q:Pt):Bool:=match L[m]? with | some x=>decide (x.A=p) && decide (x.B=q) | none=>false
theorem find_some (sb:Nat) (a0:Option Addr) (c n:Nat) (L:List Wl) (hn:L.length=n) (hL:L.length≤1000000) (a b:Pt) (m:Nat) (hm:∀ (k:Nat) (hk:k < L.length),cmpW L[k] ⟨lo2 a b,hi2 a b,0⟩ < 0↔k < m) (hmn:m≤L.length) (w:World) (Bs:Box w sb [.slice a0 n c] 102) (h:RowAt cW 5 w a0 L):Calls prog 63 #[pt0 sb,a,b] w (Rt w (.tuple #[m,.bool (fnd L m (lo2 a b) (hi2 a b))])):=by
 have c1:=zMk a b;generalize lo2 a b=p at *
 generalize hi2 a b=q at *
 go_enter func63,ntmps63
 have hsb:=Bs.lt;go_wp2_with fail;refine qE3 fun W1 Ba Bb Bv hw=>?_;refine qK3 (c1 _) Ba Bb Bv hw fun w2 Ba Bb Bv hw=>?_;have BS:Box w2 (sb) [.slice a0 n c] 102:=Bs.ee hw;have F_abvS:=J4 Ba.f Bb.f Bv.f BS.f;go_wp2_with fail;refine zA1 fun W3 hW=>?_;replace Ba:=sto Ba hW;replace Bb:=sto Bb hW;replace Bv:=sto Bv hW;replace BS:=sto BS hW;replace hw:=stw hw hW;clear F_abvS;clear hW;have cc:∀ d os,Calls prog 95 #[.slice a0 n c,.agg #[p.x,p.y,q.x,q.y,()],.func (.func 46) #[] #[]] (grow (redrawn W3 d) os) fun e w'=>e=.returned (.tuple #[m,.bool (bsb (fun x=>cmpW x ⟨p,q,0⟩) L m)])∧Below (grow (redrawn W3 d) os).heap.size (grow (redrawn W3 d) os) w':=fun d os=>by
  have:=bsW_any a0 c L hL ⟨p,q,0⟩ m hm hmn _ ((h.ee hw).ext (below_regrown W3 d os) rfl)
  rwa [hn] at this
 generalize bsb (fun x=>cmpW x ⟨p,q,0⟩) L m=bb at *
 have g_abvS:=J4 Ba.cells Bb.cells Bv.cells BS.cells;refine wrt 10 (by kernel_rfl) (by kernel_rfl) ?_;simp only [tK1,tK0,dP1,dP0];refine wkx ?_;intro w4 hb;clear g_abvS;obtain ⟨Ba,Bb,Bv,BS,hw,-⟩:=qX4 Ba Bb Bv BS hw hb;clear cc;have F_abvS:=J4 Ba.f Bb.f Bv.f BS.f;go_wp2_with fail;clear F_abvS;by_cases hlt:m < n
 ·have hmL:m < L.length:=by rw [hn];exact hlt
  obtain ⟨ad,A,ea,eA,hA⟩:=(h.ee hw).five (j:=m) hmL;have HB0:Hid (fnd L m p q=(decide (L[m].A=p) && decide (L[m].B=q))):=hdd (by unfold fnd;rw [jA8 hmL]);generalize L[m]=X at *
  obtain ⟨s0,s1,s2,s3,s4⟩:=hA.cells;subst ea;cases e1:peqI X.A.x X.A.y p.x p.y with
  | false=>
   have HB:Hid (fnd L m p q=false):=hdd (by rw [HB0.out,←zAz,←zAz,e1];rfl);clear HB0;clear hA;have g_abvS:=J4 Ba.cells Bb.cells Bv.cells BS.cells;refine rgn 35 (fun w5 hb=>?_);clear g_abvS;obtain ⟨Ba,Bb,Bv,BS,hw,F_abvS⟩:=qX4 Ba Bb Bv BS hw hb;go_wp2_with fail;refine bodyPost_ret (v:=.tuple #[m,.bool false]) (by simp [results,results63,go_sem]) rfl ⟨by rw [HB.out],by have hl:=hw.size;go_grown⟩
  | true=>
   have HB:Hid (fnd L m p q=peqI X.B.x X.B.y q.x q.y):=hdd (by rw [HB0.out,←zAz,←zAz,e1];rfl);clear HB0;clear hA;have g_abvS:=J4 Ba.cells Bb.cells Bv.cells BS.cells;refine rgn 35 (fun w5 hb=>?_);clear g_abvS;obtain ⟨Ba,Bb,Bv,BS,hw,F_abvS⟩:=qX4 Ba Bb Bv BS hw hb;go_wp2_with fail;refine bodyPost_ret (v:=.tuple #[m,.bool (peqI X.B.x X.B.y q.x q.y)]) (by simp [results,results63,go_sem]) rfl ⟨by rw [HB.out],by have hl:=hw.size;go_grown⟩
 ·have HB:Hid (fnd L m p q=false):=hdd (by unfold fnd;rw [jCb (by rw [hn];omega)])
  skip
  have g_abvS:=J4 Ba.cells Bb.cells Bv.cells BS.cells;refine rgn 35 (fun w5 hb=>?_);clear g_abvS;obtain ⟨Ba,Bb,Bv,BS,hw,F_abvS⟩:=qX4 Ba Bb Bv BS hw hb;go_wp2_with fail;refine bodyPost_ret (v:=.tuple #[m,.bool false]) (by simp [results,results63,go_sem]) rfl ⟨by rw [HB.out],by have hl:=hw.size;go_grown⟩
end
end Go.Proofs.YtogffkimgmlilaaGreat
