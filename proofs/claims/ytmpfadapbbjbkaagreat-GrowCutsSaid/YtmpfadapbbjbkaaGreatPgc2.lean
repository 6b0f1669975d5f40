import Derived.Test.YtmpfadapbbjbkaaGreatPgc1
import Derived.LoopN
import Derived.Laws.AppendOwn
import Derived.Laws.Cover3
import Derived.Maps.OwnOps
import Derived.Carry
set_option maxRecDepth 100000
set_option maxHeartbeats 8000000
set_option linter.all false
namespace Go.Proofs.YtmpfadapbbjbkaaGreat
open _root_.Go.Proofs.Tryz
section
open Go.RowKit Go.Sort
attribute [local go_sem] rOper rAt rUpon cell_set sg_i64 sg_u64 alloc_cell alloc_frozen
attribute [local go_sem 10000] pt_eql pt_neq
attribute [local irreducible] rWalk
theorem Box.drew {w:World} {b:Nat} {cs:List Value} {T:TypeId} (h:Box w b cs T):Box w.drew b cs T:=h
theorem rmake_0 (a b c:Pt) (h0:ori a b c=0) (w:World):Calls prog 31 #[a,b,c] w (Rt w (.tuple #[.agg #[(),(),(),(),(),()],.bool false])):=by
 have co:=zH a b c;rw [h0] at co;clear h0
 go_enter func31,ntmps31
 go_wp2_with fail;refine qE4 λW1 Ba Bb Bc Br hw=>?_;refine qK4 (co _) Ba Bb Bc Br hw λw2 Ba Bb Bc Br hw=>?_;have Fa:=Ba.f;have Fb:=Bb.f;have Fc:=Bc.f;have Fr:=Br.f;go_wp2_with fail;refine bodyPost_ret (v:=.tuple #[.agg #[(),(),(),(),(),()],.bool false]) (by simp [results,results31,go_sem,Fr]) rfl ⟨rfl,by have hl:=hw.size;go_grown⟩
theorem rmake_p0 (a b c:Pt) (h0:ori a b c=1) (tba:decide (cmpP b a < 0)=false) (tca:decide (cmpP c a < 0)=false) (w:World):Calls prog 31 #[a,b,c] w (Rt w (.tuple #[.agg #[a.x,a.y,b.x,b.y,c.x,c.y],.bool true])):=by
 have co:=zH a b c;rw [h0] at co;clear h0;have kba:=zR b a;generalize cmpP b a=nba at *
 have kca:=zR c a;generalize cmpP c a=nca at *
 go_enter func31,ntmps31
 go_wp2_with fail;refine qE4 λW1 Ba Bb Bc Br hw=>?_;refine qK4 (co _) Ba Bb Bc Br hw λw2 Ba Bb Bc Br hw=>?_;have Fa:=Ba.f;have Fb:=Bb.f;have Fc:=Bc.f;have Fr:=Br.f;go_wp2_with fail;refine z7 λW3 hW=>?_;subst hW;clear Fa Fb Fc Fr;refine wp_loop_rounds 4 ?_;try rw [rounds_succ]
 have F1:=J4 Ba.f Bb.f Bc.f Br.f;go_wp2_with fail;clear F1;refine qC4 (kba _) Ba Bb Bc Br hw λw4 Ba Bb Bc Br hw F1=>?_;go_wp2_with fail;clear F1;refine qK4 (kca _) Ba Bb Bc Br hw λw5 Ba Bb Bc Br hw=>?_;have Fa:=Ba.f;have Fb:=Bb.f;have Fc:=Bc.f;have Fr:=Br.f;go_wp2_with fail;refine bodyPost_ret (v:=.tuple #[.agg #[a.x,a.y,b.x,b.y,c.x,c.y],.bool true]) (by simp [results,results31,go_sem,Fr]) rfl ⟨rfl,by have hl:=hw.size;go_grown⟩
theorem rmake_p1 (a b c:Pt) (h0:ori a b c=1) (tba:decide (cmpP b a < 0)=true) (tcb:decide (cmpP c b < 0)=false) (tab:decide (cmpP a b < 0)=false) (w:World):Calls prog 31 #[a,b,c] w (Rt w (.tuple #[.agg #[b.x,b.y,c.x,c.y,a.x,a.y],.bool true])):=by
 have co:=zH a b c;rw [h0] at co;clear h0;have kba:=zR b a;generalize cmpP b a=nba at *
 have kcb:=zR c b;generalize cmpP c b=ncb at *
 have kab:=zR a b;generalize cmpP a b=nab at *
 go_enter func31,ntmps31
 go_wp2_with fail;refine qE4 λW1 Ba Bb Bc Br hw=>?_;refine qK4 (co _) Ba Bb Bc Br hw λw2 Ba Bb Bc Br hw=>?_;have Fa:=Ba.f;have Fb:=Bb.f;have Fc:=Bc.f;have Fr:=Br.f;go_wp2_with fail;refine z7 λW3 hW=>?_;subst hW;clear Fa Fb Fc Fr;refine wp_loop_rounds 4 ?_;try rw [rounds_succ]
 have F1:=J4 Ba.f Bb.f Bc.f Br.f;go_wp2_with fail;clear F1;refine qK4 (kba _) Ba Bb Bc Br hw λw4 Ba Bb Bc Br hw=>?_;have Fa:=Ba.f;have Fb:=Bb.f;have Fc:=Bc.f;have Fr:=Br.f;go_wp2_with fail
 go_region
 go_wp2_with fail;refine z7 λW5 hW=>?_;replace Ba:=sto Ba hW;replace Bb:=sto Bb hW;replace Bc:=sto Bc hW;replace Br:=sto Br hW;replace hw:=stw hw hW;clear Fa Fb Fc Fr;clear hW;try rw [rounds_succ]
 have F1:=J4 Ba.f Bb.f Bc.f Br.f;go_wp2_with fail;clear F1;refine qC4 (kcb _) Ba Bb Bc Br hw λw6 Ba Bb Bc Br hw F1=>?_;go_wp2_with fail;clear F1;refine qK4 (kab _) Ba Bb Bc Br hw λw7 Ba Bb Bc Br hw=>?_;have Fa:=Ba.f;have Fb:=Bb.f;have Fc:=Bc.f;have Fr:=Br.f;go_wp2_with fail;refine bodyPost_ret (v:=.tuple #[.agg #[b.x,b.y,c.x,c.y,a.x,a.y],.bool true]) (by simp [results,results31,go_sem,Fr]) rfl ⟨rfl,by have hl:=hw.size;go_grown⟩
theorem rmake_p2 (a b c:Pt) (h0:ori a b c=1) (tba:decide (cmpP b a < 0)=true) (tcb:decide (cmpP c b < 0)=true) (tac:decide (cmpP a c < 0)=false) (tbc:decide (cmpP b c < 0)=false) (w:World):Calls prog 31 #[a,b,c] w (Rt w (.tuple #[.agg #[c.x,c.y,a.x,a.y,b.x,b.y],.bool true])):=by
 have co:=zH a b c;rw [h0] at co;clear h0;have kba:=zR b a;generalize cmpP b a=nba at *
 have kcb:=zR c b;generalize cmpP c b=ncb at *
 have kac:=zR a c;generalize cmpP a c=nac at *
 have kbc:=zR b c;generalize cmpP b c=nbc at *
 go_enter func31,ntmps31
 go_wp2_with fail;refine qE4 λW1 Ba Bb Bc Br hw=>?_;refine qK4 (co _) Ba Bb Bc Br hw λw2 Ba Bb Bc Br hw=>?_;have Fa:=Ba.f;have Fb:=Bb.f;have Fc:=Bc.f;have Fr:=Br.f;go_wp2_with fail;refine z7 λW3 hW=>?_;subst hW;clear Fa Fb Fc Fr;refine wp_loop_rounds 4 ?_;try rw [rounds_succ]
 have F1:=J4 Ba.f Bb.f Bc.f Br.f;go_wp2_with fail;clear F1;refine qK4 (kba _) Ba Bb Bc Br hw λw4 Ba Bb Bc Br hw=>?_;have Fa:=Ba.f;have Fb:=Bb.f;have Fc:=Bc.f;have Fr:=Br.f;go_wp2_with fail
 go_region
 go_wp2_with fail;refine z7 λW5 hW=>?_;replace Ba:=sto Ba hW;replace Bb:=sto Bb hW;replace Bc:=sto Bc hW;replace Br:=sto Br hW;replace hw:=stw hw hW;clear Fa Fb Fc Fr;clear hW;try rw [rounds_succ]
 have F1:=J4 Ba.f Bb.f Bc.f Br.f;go_wp2_with fail;clear F1;refine qK4 (kcb _) Ba Bb Bc Br hw λw6 Ba Bb Bc Br hw=>?_;have Fa:=Ba.f;have Fb:=Bb.f;have Fc:=Bc.f;have Fr:=Br.f;go_wp2_with fail
 go_region
 go_wp2_with fail;refine z7 λW7 hW=>?_;replace Ba:=sto Ba hW;replace Bb:=sto Bb hW;replace Bc:=sto Bc hW;replace Br:=sto Br hW;replace hw:=stw hw hW;clear Fa Fb Fc Fr;clear hW;try rw [rounds_succ]
 have F1:=J4 Ba.f Bb.f Bc.f Br.f;go_wp2_with fail;clear F1;refine qC4 (kac _) Ba Bb Bc Br hw λw8 Ba Bb Bc Br hw F1=>?_;go_wp2_with fail;clear F1;refine qK4 (kbc _) Ba Bb Bc Br hw λw9 Ba Bb Bc Br hw=>?_;have Fa:=Ba.f;have Fb:=Bb.f;have Fc:=Bc.f;have Fr:=Br.f;go_wp2_with fail;refine bodyPost_ret (v:=.tuple #[.agg #[c.x,c.y,a.x,a.y,b.x,b.y],.bool true]) (by simp [results,results31,go_sem,Fr]) rfl ⟨rfl,by have hl:=hw.size;go_grown⟩
theorem rmake_p3 (a b c:Pt) (h0:ori a b c=1) (tba:decide (cmpP b a < 0)=false) (tca:decide (cmpP c a < 0)=true) (tcb:decide (cmpP c b < 0)=true) (tac:decide (cmpP a c < 0)=false) (tbc:decide (cmpP b c < 0)=false) (w:World):Calls prog 31 #[a,b,c] w (Rt w (.tuple #[.agg #[c.x,c.y,a.x,a.y,b.x,b.y],.bool true])):=by
 have co:=zH a b c;rw [h0] at co;clear h0;have kba:=zR b a;generalize cmpP b a=nba at *
 have kca:=zR c a;generalize cmpP c a=nca at *
 have kcb:=zR c b;generalize cmpP c b=ncb at *
 have kac:=zR a c;generalize cmpP a c=nac at *
 have kbc:=zR b c;generalize cmpP b c=nbc at *
 go_enter func31,ntmps31
 go_wp2_with fail;refine qE4 λW1 Ba Bb Bc Br hw=>?_;refine qK4 (co _) Ba Bb Bc Br hw λw2 Ba Bb Bc Br hw=>?_;have Fa:=Ba.f;have Fb:=Bb.f;have Fc:=Bc.f;have Fr:=Br.f;go_wp2_with fail;refine z7 λW3 hW=>?_;subst hW;clear Fa Fb Fc Fr;refine wp_loop_rounds 4 ?_;try rw [rounds_succ]
 have F1:=J4 Ba.f Bb.f Bc.f Br.f;go_wp2_with fail;clear F1;refine qC4 (kba _) Ba Bb Bc Br hw λw4 Ba Bb Bc Br hw F1=>?_;go_wp2_with fail;clear F1;refine qK4 (kca _) Ba Bb Bc Br hw λw5 Ba Bb Bc Br hw=>?_;have Fa:=Ba.f;have Fb:=Bb.f;have Fc:=Bc.f;have Fr:=Br.f;go_wp2_with fail
 go_region
 go_wp2_with fail;refine z7 λW6 hW=>?_;replace Ba:=sto Ba hW;replace Bb:=sto Bb hW;replace Bc:=sto Bc hW;replace Br:=sto Br hW;replace hw:=stw hw hW;clear Fa Fb Fc Fr;clear hW;try rw [rounds_succ]
 have F1:=J4 Ba.f Bb.f Bc.f Br.f;go_wp2_with fail;clear F1;refine qK4 (kcb _) Ba Bb Bc Br hw λw7 Ba Bb Bc Br hw=>?_;have Fa:=Ba.f;have Fb:=Bb.f;have Fc:=Bc.f;have Fr:=Br.f;go_wp2_with fail
 go_region
 go_wp2_with fail;refine z7 λW8 hW=>?_;replace Ba:=sto Ba hW;replace Bb:=sto Bb hW;replace Bc:=sto Bc hW;replace Br:=sto Br hW;replace hw:=stw hw hW;clear Fa Fb Fc Fr;clear hW;try rw [rounds_succ]
 have F1:=J4 Ba.f Bb.f Bc.f Br.f;go_wp2_with fail;clear F1;refine qC4 (kac _) Ba Bb Bc Br hw λw9 Ba Bb Bc Br hw F1=>?_;go_wp2_with fail;clear F1;refine qK4 (kbc _) Ba Bb Bc Br hw λw10 Ba Bb Bc Br hw=>?_;have Fa:=Ba.f;have Fb:=Bb.f;have Fc:=Bc.f;have Fr:=Br.f;go_wp2_with fail;refine bodyPost_ret (v:=.tuple #[.agg #[c.x,c.y,a.x,a.y,b.x,b.y],.bool true]) (by simp [results,results31,go_sem,Fr]) rfl ⟨rfl,by have hl:=hw.size;go_grown⟩
theorem rmake_n0 (a b c:Pt) (h0:ori a b c = -1) (tca:decide (cmpP c a < 0)=false) (tba:decide (cmpP b a < 0)=false) (w:World):Calls prog 31 #[a,b,c] w (Rt w (.tuple #[.agg #[a.x,a.y,c.x,c.y,b.x,b.y],.bool true])):=by
 have co:=zH a b c;rw [h0] at co;clear h0;have kca:=zR c a;generalize cmpP c a=nca at *
 have kba:=zR b a;generalize cmpP b a=nba at *
 go_enter func31,ntmps31
 go_wp2_with fail;refine qE4 λW1 Ba Bb Bc Br hw=>?_;refine qK4 (co _) Ba Bb Bc Br hw λw2 Ba Bb Bc Br hw=>?_;have Fa:=Ba.f;have Fb:=Bb.f;have Fc:=Bc.f;have Fr:=Br.f;go_wp2_with fail;refine z7 λW3 hW=>?_;replace Ba:=sto Ba hW;replace Bb:=sto Bb hW;replace Bc:=sto Bc hW;replace Br:=sto Br hW;replace hw:=stw hw hW;clear Fa Fb Fc Fr;clear hW;refine wp_loop_rounds 4 ?_;try rw [rounds_succ]
 have F1:=J4 Ba.f Bb.f Bc.f Br.f;go_wp2_with fail;clear F1;refine qC4 (kca _) Ba Bb Bc Br hw λw4 Ba Bb Bc Br hw F1=>?_;go_wp2_with fail;clear F1;refine qK4 (kba _) Ba Bb Bc Br hw λw5 Ba Bb Bc Br hw=>?_;have Fa:=Ba.f;have Fb:=Bb.f;have Fc:=Bc.f;have Fr:=Br.f;go_wp2_with fail;refine bodyPost_ret (v:=.tuple #[.agg #[a.x,a.y,c.x,c.y,b.x,b.y],.bool true]) (by simp [results,results31,go_sem,Fr]) rfl ⟨rfl,by have hl:=hw.size;go_grown⟩
theorem rmake_n1 (a b c:Pt) (h0:ori a b c = -1) (tca:decide (cmpP c a < 0)=true) (tbc:decide (cmpP b c < 0)=false) (tac:decide (cmpP a c < 0)=false) (w:World):Calls prog 31 #[a,b,c] w (Rt w (.tuple #[.agg #[c.x,c.y,b.x,b.y,a.x,a.y],.bool true])):=by
 have co:=zH a b c;rw [h0] at co;clear h0;have kca:=zR c a;generalize cmpP c a=nca at *
 have kbc:=zR b c;generalize cmpP b c=nbc at *
 have kac:=zR a c;generalize cmpP a c=nac at *
 go_enter func31,ntmps31
 go_wp2_with fail;refine qE4 λW1 Ba Bb Bc Br hw=>?_;refine qK4 (co _) Ba Bb Bc Br hw λw2 Ba Bb Bc Br hw=>?_;have Fa:=Ba.f;have Fb:=Bb.f;have Fc:=Bc.f;have Fr:=Br.f;go_wp2_with fail;refine z7 λW3 hW=>?_;replace Ba:=sto Ba hW;replace Bb:=sto Bb hW;replace Bc:=sto Bc hW;replace Br:=sto Br hW;replace hw:=stw hw hW;clear Fa Fb Fc Fr;clear hW;refine wp_loop_rounds 4 ?_;try rw [rounds_succ]
 have F1:=J4 Ba.f Bb.f Bc.f Br.f;go_wp2_with fail;clear F1;refine qK4 (kca _) Ba Bb Bc Br hw λw4 Ba Bb Bc Br hw=>?_;have Fa:=Ba.f;have Fb:=Bb.f;have Fc:=Bc.f;have Fr:=Br.f;go_wp2_with fail
 go_region
 go_wp2_with fail;refine z7 λW5 hW=>?_;replace Ba:=sto Ba hW;replace Bb:=sto Bb hW;replace Bc:=sto Bc hW;replace Br:=sto Br hW;replace hw:=stw hw hW;clear Fa Fb Fc Fr;clear hW;try rw [rounds_succ]
 have F1:=J4 Ba.f Bb.f Bc.f Br.f;go_wp2_with fail;clear F1;refine qC4 (kbc _) Ba Bb Bc Br hw λw6 Ba Bb Bc Br hw F1=>?_;go_wp2_with fail;clear F1;refine qK4 (kac _) Ba Bb Bc Br hw λw7 Ba Bb Bc Br hw=>?_;have Fa:=Ba.f;have Fb:=Bb.f;have Fc:=Bc.f;have Fr:=Br.f;go_wp2_with fail;refine bodyPost_ret (v:=.tuple #[.agg #[c.x,c.y,b.x,b.y,a.x,a.y],.bool true]) (by simp [results,results31,go_sem,Fr]) rfl ⟨rfl,by have hl:=hw.size;go_grown⟩
theorem rmake_n2 (a b c:Pt) (h0:ori a b c = -1) (tca:decide (cmpP c a < 0)=true) (tbc:decide (cmpP b c < 0)=true) (tab:decide (cmpP a b < 0)=false) (tcb:decide (cmpP c b < 0)=false) (w:World):Calls prog 31 #[a,b,c] w (Rt w (.tuple #[.agg #[b.x,b.y,a.x,a.y,c.x,c.y],.bool true])):=by
 have co:=zH a b c;rw [h0] at co;clear h0;have kca:=zR c a;generalize cmpP c a=nca at *
 have kbc:=zR b c;generalize cmpP b c=nbc at *
 have kab:=zR a b;generalize cmpP a b=nab at *
 have kcb:=zR c b;generalize cmpP c b=ncb at *
 go_enter func31,ntmps31
 go_wp2_with fail;refine qE4 λW1 Ba Bb Bc Br hw=>?_;refine qK4 (co _) Ba Bb Bc Br hw λw2 Ba Bb Bc Br hw=>?_;have Fa:=Ba.f;have Fb:=Bb.f;have Fc:=Bc.f;have Fr:=Br.f;go_wp2_with fail;refine z7 λW3 hW=>?_;replace Ba:=sto Ba hW;replace Bb:=sto Bb hW;replace Bc:=sto Bc hW;replace Br:=sto Br hW;replace hw:=stw hw hW;clear Fa Fb Fc Fr;clear hW;refine wp_loop_rounds 4 ?_;try rw [rounds_succ]
 have F1:=J4 Ba.f Bb.f Bc.f Br.f;go_wp2_with fail;clear F1;refine qK4 (kca _) Ba Bb Bc Br hw λw4 Ba Bb Bc Br hw=>?_;have Fa:=Ba.f;have Fb:=Bb.f;have Fc:=Bc.f;have Fr:=Br.f;go_wp2_with fail
 go_region
 go_wp2_with fail;refine z7 λW5 hW=>?_;replace Ba:=sto Ba hW;replace Bb:=sto Bb hW;replace Bc:=sto Bc hW;replace Br:=sto Br hW;replace hw:=stw hw hW;clear Fa Fb Fc Fr;clear hW;try rw [rounds_succ]
 have F1:=J4 Ba.f Bb.f Bc.f Br.f;go_wp2_with fail;clear F1;refine qK4 (kbc _) Ba Bb Bc Br hw λw6 Ba Bb Bc Br hw=>?_;have Fa:=Ba.f;have Fb:=Bb.f;have Fc:=Bc.f;have Fr:=Br.f;go_wp2_with fail
 go_region
 go_wp2_with fail;refine z7 λW7 hW=>?_;replace Ba:=sto Ba hW;replace Bb:=sto Bb hW;replace Bc:=sto Bc hW;replace Br:=sto Br hW;replace hw:=stw hw hW;clear Fa Fb Fc Fr;clear hW;try rw [rounds_succ]
 have F1:=J4 Ba.f Bb.f Bc.f Br.f;go_wp2_with fail;clear F1;refine qC4 (kab _) Ba Bb Bc Br hw λw8 Ba Bb Bc Br hw F1=>?_;go_wp2_with fail;clear F1;refine qK4 (kcb _) Ba Bb Bc Br hw λw9 Ba Bb Bc Br hw=>?_;have Fa:=Ba.f;have Fb:=Bb.f;have Fc:=Bc.f;have Fr:=Br.f;go_wp2_with fail;refine bodyPost_ret (v:=.tuple #[.agg #[b.x,b.y,a.x,a.y,c.x,c.y],.bool true]) (by simp [results,results31,go_sem,Fr]) rfl ⟨rfl,by have hl:=hw.size;go_grown⟩
theorem rmake_n3 (a b c:Pt) (h0:ori a b c = -1) (tca:decide (cmpP c a < 0)=false) (tba:decide (cmpP b a < 0)=true) (tbc:decide (cmpP b c < 0)=true) (tab:decide (cmpP a b < 0)=false) (tcb:decide (cmpP c b < 0)=false) (w:World):Calls prog 31 #[a,b,c] w (Rt w (.tuple #[.agg #[b.x,b.y,a.x,a.y,c.x,c.y],.bool true])):=by
 have co:=zH a b c;rw [h0] at co;clear h0;have kca:=zR c a;generalize cmpP c a=nca at *
 have kba:=zR b a;generalize cmpP b a=nba at *
 have kbc:=zR b c;generalize cmpP b c=nbc at *
 have kab:=zR a b;generalize cmpP a b=nab at *
 have kcb:=zR c b;generalize cmpP c b=ncb at *
 go_enter func31,ntmps31
 go_wp2_with fail;refine qE4 λW1 Ba Bb Bc Br hw=>?_;refine qK4 (co _) Ba Bb Bc Br hw λw2 Ba Bb Bc Br hw=>?_;have Fa:=Ba.f;have Fb:=Bb.f;have Fc:=Bc.f;have Fr:=Br.f;go_wp2_with fail;refine z7 λW3 hW=>?_;replace Ba:=sto Ba hW;replace Bb:=sto Bb hW;replace Bc:=sto Bc hW;replace Br:=sto Br hW;replace hw:=stw hw hW;clear Fa Fb Fc Fr;clear hW;refine wp_loop_rounds 4 ?_;try rw [rounds_succ]
 have F1:=J4 Ba.f Bb.f Bc.f Br.f;go_wp2_with fail;clear F1;refine qC4 (kca _) Ba Bb Bc Br hw λw4 Ba Bb Bc Br hw F1=>?_;go_wp2_with fail;clear F1;refine qK4 (kba _) Ba Bb Bc Br hw λw5 Ba Bb Bc Br hw=>?_;have Fa:=Ba.f;have Fb:=Bb.f;have Fc:=Bc.f;have Fr:=Br.f;go_wp2_with fail
 go_region
 go_wp2_with fail;refine z7 λW6 hW=>?_;replace Ba:=sto Ba hW;replace Bb:=sto Bb hW;replace Bc:=sto Bc hW;replace Br:=sto Br hW;replace hw:=stw hw hW;clear Fa Fb Fc Fr;clear hW;try rw [rounds_succ]
 have F1:=J4 Ba.f Bb.f Bc.f Br.f;go_wp2_with fail;clear F1;refine qK4 (kbc _) Ba Bb Bc Br hw λw7 Ba Bb Bc Br hw=>?_;have Fa:=Ba.f;have Fb:=Bb.f;have Fc:=Bc.f;have Fr:=Br.f;go_wp2_with fail
 go_region
 go_wp2_with fail;refine z7 λW8 hW=>?_;replace Ba:=sto Ba hW;replace Bb:=sto Bb hW;replace Bc:=sto Bc hW;replace Br:=sto Br hW;replace hw:=stw hw hW;clear Fa Fb Fc Fr;clear hW;try rw [rounds_succ]
 have F1:=J4 Ba.f Bb.f Bc.f Br.f;go_wp2_with fail;clear F1;refine qC4 (kab _) Ba Bb Bc Br hw λw9 Ba Bb Bc Br hw F1=>?_;go_wp2_with fail;clear F1;refine qK4 (kcb _) Ba Bb Bc Br hw λw10 Ba Bb Bc Br hw=>?_;have Fa:=Ba.f;have Fb:=Bb.f;have Fc:=Bc.f;have Fr:=Br.f;go_wp2_with fail;refine bodyPost_ret (v:=.tuple #[.agg #[b.x,b.y,a.x,a.y,c.x,c.y],.bool true]) (by simp [results,results31,go_sem,Fr]) rfl ⟨rfl,by have hl:=hw.size;go_grown⟩
section
def mx4 (x y z v:Int):Int:=max (max (max x y) z) v
theorem run_max4 {P:Program} {w:World} (ts:Array TypeId) (t:TypeId) (k k' k'' k3:IntKind) (x y z v:Int):(Builtin.max_ ts t #[.int k x,.int k' y,.int k'' z,.int k3 v]).run P w=.ok (.int k (mx4 x y z v)) w:=by
 have e:∀ p q:Int,(if p < q then q else p)=max p q:=λp q=>by split <;> omega
 simp [Builtin.max_,Builtin.max2,mx4,go_sem,e]
attribute [local go_sem] run_max4
def lap (a b c d:Pt):Int:=if cmpP (rg (rl a b) (rl c d)) (rl (rg a b) (rg c d)) < 0 then 3 else 0
def meetR (a b c d:Pt):Int:=
 if vld a=false then 0 else if vld b=false then 0 else if vld c=false then 0 else if vld d=false then 0 else if peqI a.x a.y b.x b.y=true then 0 else if peqI c.x c.y d.x d.y=true then 0
 else if ori a b c=0/\ori a b d=0 then lap a b c d
 else if ori a b c * ori a b d < 0/\ori c d a * ori c d b < 0 then 1
 else mx4 (tch a c d) (tch b c d) (tch c a b) (tch d a b)
theorem tch_bd (p a b:Pt):0<=tch p a b/\tch p a b<=2:=by unfold tch;(repeat' split) <;> omega
end
def kk (a b p:Pt):Int:=(p.x - a.x) * (b.x - a.x)+(p.y - a.y) * (b.y - a.y)
def EE (a b:Pt):Int:=(b.x - a.x) * (b.x - a.x)+(b.y - a.y) * (b.y - a.y)
theorem uL {a b:Pt} (h:a≠b):0 < EE a b:=by
 have h1:=xL (b.x - a.x);have h2:=xL (b.y - a.y);have h3:EE a b≠0:=λh0=>by
  unfold EE at h0;have g1:(b.x - a.x) * (b.x - a.x)=0:=by omega
  have g2:(b.y - a.y) * (b.y - a.y)=0:=by omega
  apply h;rw [Pt.eq_iff];have k1:b.x - a.x=0:=by rcases Yl.1 g1 with k | k <;> exact k
  have k2:b.y - a.y=0:=by rcases Yl.1 g2 with k | k <;> exact k
  omega
 have:0<=EE a b:=by unfold EE;omega
 omega
theorem coll {a b p:Pt} (h:det a b p=0):EE a b * (p.x - a.x)=kk a b p * (b.x - a.x)/\EE a b * (p.y - a.y)=kk a b p * (b.y - a.y):=by
 have e1:EE a b * (p.x - a.x)=kk a b p * (b.x - a.x) - (b.y - a.y) * det a b p:=by unfold EE kk det;grind
 have e2:EE a b * (p.y - a.y)=kk a b p * (b.y - a.y)+(b.x - a.x) * det a b p:=by unfold EE kk det;grind
 rw [h] at e1 e2;simp only [XN,Xx,Ks] at e1 e2;exact ⟨e1,e2⟩
theorem coll2 {a b p:Pt} (h:det a b p=0):EE a b * (p.x - b.x)=(kk a b p - EE a b) * (b.x - a.x)/\EE a b * (p.y - b.y)=(kk a b p - EE a b) * (b.y - a.y):=by
 obtain ⟨h1,h2⟩:=coll h;generalize EE a b=E at *
 generalize kk a b p=k at *
 exact ⟨by grind,by grind⟩
def lexs (u v:Int):Int:=if u=0 then sgn v else sgn u
theorem qW (p q:Pt):cmpP p q=lexs (p.x - q.x) (p.y - q.y):=by
 unfold cmpP lexs cmpN;by_cases h:p.x=q.x
 ·rw [Yn h,Yn (by omega)]
 ·rw [Ye h,Ye (by omega)]
theorem qy {E x y z:Int} (hE:0 < E) (h:E * x=y * z):sgn x=sgn y * sgn z:=by
 have h1:=Zx E x;rw [sgn_p hE,h,Zx] at h1;omega
theorem vI {E k u1 v1 u2 v2:Int} (hE:0 < E) (h1:E * u1=k * u2) (h2:E * v1=k * v2):lexs u1 v1=sgn k * lexs u2 v2:=by
 have s1:=qy hE h1;have s2:=qy hE h2;unfold lexs;by_cases hu:u1=0
 ·rw [Yn hu,s2];by_cases hu2:u2=0
  ·rw [Yn hu2]
  ·rw [Ye hu2];rw [hu] at h1;have:k=0:=by
    rcases Yl.1 (show k * u2=0 by rw [<-h1];simp) with h | h
    ·exact h
    ·exact absurd h hu2
   rw [this];simp [sgn]
 ·rw [Ye hu,s1];have hu2:u2≠0:=λh=>by
   rw [h] at h1;simp only [XN] at h1;rcases Yl.1 h1 with h | h
   ·omega
   ·exact hu h
  rw [Ye hu2]
theorem lexs_ne {u v:Int} (h:¬ (u=0/\v=0)):lexs u v=1\/lexs u v = -1:=by
 unfold lexs;have h1:=zJ u;have h2:=zJ v;split <;> omega
theorem one_sq {x:Int} (h:x=1\/x = -1) (a b:Int) : -(a * x) * (b * x) = -(a * b):=by
 rcases h with rfl | rfl <;> grind
theorem on_k {a b p:Pt} (hab:a≠b) (h:det a b p=0):(0<=cmpP a p * cmpP p b)↔(0<=kk a b p/\kk a b p<=EE a b):=by
 have hE:=uL hab;obtain ⟨c1,c2⟩:=coll h;obtain ⟨c3,c4⟩:=coll2 h;have l1:=vI hE c1 c2;have l2:=vI hE c3 c4;have l3:cmpP a p = -cmpP p a:=by unfold cmpP cmpN sgn;(repeat' split) <;> omega
 rw [<-qW,<-qW] at l1;rw [<-qW,<-qW] at l2;have l4:cmpP b a=1\/cmpP b a = -1:=by
  rw [qW];refine lexs_ne (λk=>hab ?_);rw [Pt.eq_iff];omega
 rw [l3,l1,l2,one_sq l4];have h1:=zJ (kk a b p);have h2:=zJ (kk a b p - EE a b);rcases h1 with ⟨s1,t1⟩ | ⟨s1,t1⟩ | ⟨s1,t1⟩ <;> rcases h2 with ⟨s2,t2⟩ | ⟨s2,t2⟩ | ⟨s2,t2⟩ <;> rw [s1,s2] <;> omega
theorem btw_t {n a b:Int} (h:btw n a b=true):0<=(n - a) * (b - a)/\(n - a) * (b - a)<=(b - a) * (b - a):=by
 simp only [btw,Yh] at h;rcases Jy a b with k | k
 ·exact ⟨Yk (by omega) (by omega),KT (by omega) (by omega)⟩
 ·exact ⟨XW (by omega) (by omega),Jk (by omega) (by omega)⟩
theorem Zs {E k n a b:Int} (hE:0 < E) (k0:0<=k) (k1:k<=E) (h:E * (n - a)=k * (b - a)):btw n a b=true:=by
 simp only [btw,Yh];rcases Jy a b with c | c
 ·have h1:E * 0<=E * (n - a):=by rw [h,XN];exact Yk k0 (by omega)
  have h2:E * (n - a)<=E * (b - a):=by rw [h];exact KT k1 (by omega)
  have g1:=JA h1 hE;have g2:=JA h2 hE;omega
 ·have h1:E * (n - a)<=E * 0:=by rw [h,XN];exact Xr k0 (by omega)
  have h2:E * (b - a)<=E * (n - a):=by rw [h];exact Jk k1 (by omega)
  have g1:=JA h1 hE;have g2:=JA h2 hE;omega
theorem btw_k {a b p:Pt} (hab:a≠b) (h:det a b p=0):(btw p.x a.x b.x && btw p.y a.y b.y)=true↔(0<=kk a b p/\kk a b p<=EE a b):=by
 have hE:=uL hab;obtain ⟨c1,c2⟩:=coll h;rw [Yf];constructor
 ·rintro ⟨h1,h2⟩;have t1:=btw_t h1;have t2:=btw_t h2;unfold kk EE;omega
 ·rintro ⟨h1,h2⟩;exact ⟨Zs hE h1 h2 c1,Zs hE h1 h2 c2⟩
theorem on_eq (p a b:Pt):onS p a b=onR p a b:=by
 unfold onS onR;cases hp:vld p with
 | false=>rfl
 | true=>cases ha:vld a with
  | false=>rfl
  | true=>cases hb:vld b with
   | false=>rfl
   | true=>
    simp only [Xy];have ho:decide (ori a b p=0)=decide (det a b p=0):=by
     rw [ori_v ha hb hp,decide_eq_decide];exact y7
    rw [ho];by_cases hd:det a b p=0
    ·rw [show decide (det a b p=0)=true by simpa using hd];simp only [Xy];by_cases hab:a=b
     ·subst hab;rw [Xv,Yh,Yf];simp only [btw,Yh];have l3:cmpP a p = -cmpP p a:=by unfold cmpP cmpN sgn;(repeat' split) <;> omega
      have l4:cmpP p a=0↔p.x=a.x/\p.y=a.y:=by unfold cmpP cmpN sgn;(repeat' split) <;> omega
      have l5:=Za p a;rw [l3];have l6:cmpP p a=0\/cmpP p a=1\/cmpP p a = -1:=by omega
      rcases l6 with l | l | l <;> rw [l] at l4 ⊢ <;> omega
     ·rw [Xv,Yh,btw_k hab hd];exact on_k hab hd
    ·rw [show decide (det a b p=0)=false by simpa using hd];rfl
theorem tch_k {p a b:Pt} (hp:vld p=true) (ha:vld a=true) (hb:vld b=true) (hab:a≠b):tch p a b=if det a b p=0/\0 < kk a b p/\kk a b p < EE a b then 2 else 0:=by
 have hE:=uL hab;unfold tch onR;rw [hp,ha,hb];simp only [Xy];by_cases hd:det a b p=0
 ·rw [show decide (det a b p=0)=true by simpa using hd];simp only [Xy];obtain ⟨c1,c2⟩:=coll hd;obtain ⟨c3,c4⟩:=coll2 hd;have z1:p=a↔kk a b p=0:=by
   constructor
   ·rintro rfl;unfold kk;simp
   ·intro h;rw [h] at c1 c2;simp only [XU] at c1 c2;rw [Pt.eq_iff];rcases Yl.1 c1 with h1 | h1 <;> rcases Yl.1 c2 with h2 | h2 <;> omega
  have z2:p=b↔kk a b p - EE a b=0:=by
   constructor
   ·rintro rfl;unfold kk EE;omega
   ·intro h;rw [h] at c3 c4;simp only [XU] at c3 c4;rw [Pt.eq_iff];rcases Yl.1 c3 with h1 | h1 <;> rcases Yl.1 c4 with h2 | h2 <;> omega
  by_cases hk:0<=kk a b p/\kk a b p<=EE a b
  ·rw [(btw_k hab hd).2 hk,Ye (by simp)];by_cases h1:p=a
   ·have:=z1.1 h1;rw [Yn (pp h1),Ye (by omega)]
   ·rw [Ye (np h1)];by_cases h2:p=b
    ·have:=z2.1 h2;rw [Yn (pp h2),Ye (by omega)]
    ·have k1:kk a b p≠0:=λk=>h1 (z1.2 k);have k2:kk a b p - EE a b≠0:=λk=>h2 (z2.2 k);rw [Ye (np h2),Yn (by omega)]
  ·have:(btw p.x a.x b.x && btw p.y a.y b.y)=false:=by rw [<-KD,btw_k hab hd];exact hk
   rw [Yn this,Ye (by omega)]
 ·rw [show decide (det a b p=0)=false by simpa using hd,Yn (by simp),Ye (λk=>hd k.1)]
theorem I1 (a b c d:Pt):EE a b * det c d a=kk a b c * det a b d - det a b c * kk a b d:=by unfold EE kk det;grind
theorem I2 (a b c d:Pt):EE a b * det c d b=(kk a b c - EE a b) * det a b d - det a b c * (kk a b d - EE a b):=by unfold EE kk det;grind
structure Seg2 (a b c d:Pt):Prop where
 va:vld a=true
 vb:vld b=true
 vc:vld c=true
 vd:vld d=true
 nab:a≠b
 ncd:c≠d
theorem xT {a b c d:Pt} (h:¬ Seg2 a b c d):meetS a b c d=0:=by
 unfold meetS;cases va:vld a with
 | false=>rfl
 | true=>cases vb:vld b with
  | false=>rfl
  | true=>cases vc:vld c with
   | false=>rfl
   | true=>cases vd:vld d with
    | false=>rfl
    | true=>
     by_cases e1:a=b
     ·rw [Ye (by simp),Ye (by simp),Ye (by simp),Ye (by simp),Yn (pp e1)]
     ·by_cases e2:c=d
      ·rw [Ye (by simp),Ye (by simp),Ye (by simp),Ye (by simp),Ye (np e1),Yn (pp e2)]
      ·exact absurd ⟨va,vb,vc,vd,e1,e2⟩ h
theorem meetR_none {a b c d:Pt} (h:¬ Seg2 a b c d):meetR a b c d=0:=by
 unfold meetR;cases va:vld a with
 | false=>rfl
 | true=>cases vb:vld b with
  | false=>rfl
  | true=>cases vc:vld c with
   | false=>rfl
   | true=>cases vd:vld d with
    | false=>rfl
    | true=>
     by_cases e1:a=b
     ·rw [Ye (by simp),Ye (by simp),Ye (by simp),Ye (by simp),Yn (pp e1)]
     ·by_cases e2:c=d
      ·rw [Ye (by simp),Ye (by simp),Ye (by simp),Ye (by simp),Ye (np e1),Yn (pp e2)]
      ·exact absurd ⟨va,vb,vc,vd,e1,e2⟩ h
section
variable {a b c d:Pt} (s:Seg2 a b c d)
include s
theorem yd (h:det a b c=0/\det a b d=0):meetS a b c d=mil a b c d:=by
 unfold meetS;rw [Ye (by rw [s.va];simp),Ye (by rw [s.vb];simp),Ye (by rw [s.vc];simp),Ye (by rw [s.vd];simp),Ye (np s.nab),Ye (np s.ncd),
  Yn ⟨by rw [ori_v s.va s.vb s.vc,h.1];rfl,by rw [ori_v s.va s.vb s.vd,h.2];rfl⟩]
theorem vy (h:¬ (det a b c=0/\det a b d=0)):¬ (ori a b c=0/\ori a b d=0):=λk=>h ⟨by rw [<-y7,<-ori_v s.va s.vb s.vc];exact k.1,by rw [<-y7,<-ori_v s.va s.vb s.vd];exact k.2⟩
theorem qQ (h:¬ (det a b c=0/\det a b d=0)) (e:a=c\/a=d\/b=c\/b=d):meetS a b c d=0:=by
 unfold meetS;rw [Ye (by rw [s.va];simp),Ye (by rw [s.vb];simp),Ye (by rw [s.vc];simp),Ye (by rw [s.vd];simp),Ye (np s.nab),Ye (np s.ncd),Ye (vy s h)];by_cases e1:a=c
 ·rw [Yn (pp e1)]
 rw [Ye (np e1)];by_cases e2:a=d
 ·rw [Yn (pp e2)]
 rw [Ye (np e2)];by_cases e3:b=c
 ·rw [Yn (pp e3)]
 rw [Ye (np e3)];by_cases e4:b=d
 ·rw [Yn (pp e4)]
 rcases e with e | e | e | e
 ·exact absurd e e1
 ·exact absurd e e2
 ·exact absurd e e3
 ·exact absurd e e4
theorem qP (h:¬ (det a b c=0/\det a b d=0)) (e:¬ (a=c\/a=d\/b=c\/b=d)):meetS a b c d=fin (sgn (det c d a)) (sgn (det c d b)) (sgn (det a b c)) (sgn (det a b d)):=by
 unfold meetS;rw [Ye (by rw [s.va];simp),Ye (by rw [s.vb];simp),Ye (by rw [s.vc];simp),Ye (by rw [s.vd];simp),Ye (np s.nab),Ye (np s.ncd),Ye (vy s h),
  Ye (np (λk=>e (.inl k))),Ye (np (λk=>e (.inr (.inl k)))),Ye (np (λk=>e (.inr (.inr (.inl k))))),Ye (np (λk=>e (.inr (.inr (.inr k))))),
  ori_v s.va s.vb s.vc,ori_v s.va s.vb s.vd,ori_v s.vc s.vd s.va,ori_v s.vc s.vd s.vb]
theorem meetR_line (h:det a b c=0/\det a b d=0):meetR a b c d=lap a b c d:=by
 unfold meetR;rw [Ye (by rw [s.va];simp),Ye (by rw [s.vb];simp),Ye (by rw [s.vc];simp),Ye (by rw [s.vd];simp),Ye (np s.nab),Ye (np s.ncd),
  Yn ⟨by rw [ori_v s.va s.vb s.vc,h.1];rfl,by rw [ori_v s.va s.vb s.vd,h.2];rfl⟩]
theorem kN (h:¬ (det a b c=0/\det a b d=0)):meetR a b c d=if sgn (det a b c) * sgn (det a b d) < 0/\sgn (det c d a) * sgn (det c d b) < 0 then 1 else mx4 (tch a c d) (tch b c d) (tch c a b) (tch d a b):=by
 unfold meetR;rw [Ye (by rw [s.va];simp),Ye (by rw [s.vb];simp),Ye (by rw [s.vc];simp),Ye (by rw [s.vd];simp),Ye (np s.nab),Ye (np s.ncd),Ye (vy s h),
  ori_v s.va s.vb s.vc,ori_v s.va s.vb s.vd,ori_v s.vc s.vd s.va,ori_v s.vc s.vd s.vb]
theorem key_n:key a≠key b:=λh=>s.nab (yK s.va s.vb h)
theorem key_n2:key c≠key d:=λh=>s.ncd (yK s.vc s.vd h)
end
theorem Y9 {p q:Pt} (hp:vld p=true) (hq:vld q=true):vld (lo2 p q)=true/\key (lo2 p q)=min (key p) (key q):=by
 unfold lo2;rw [yf hq hp];have:=zJ (key q - key p);split
 ·exact ⟨hq,by omega⟩
 ·exact ⟨hp,by omega⟩
theorem YF {p q:Pt} (hp:vld p=true) (hq:vld q=true):vld (hi2 p q)=true/\key (hi2 p q)=max (key p) (key q):=by
 unfold hi2;rw [yf hq hp];have:=zJ (key q - key p);split
 ·exact ⟨hp,by omega⟩
 ·exact ⟨hq,by omega⟩
theorem YX {p q:Pt} (hp:vld p=true) (hq:vld q=true):vld (rl p q)=true/\key (rl p q)=min (key p) (key q):=by
 unfold rl;rw [yf hp hq];have:=zJ (key p - key q);split
 ·exact ⟨hp,by omega⟩
 ·exact ⟨hq,by omega⟩
theorem YY {p q:Pt} (hp:vld p=true) (hq:vld q=true):vld (rg p q)=true/\key (rg p q)=max (key p) (key q):=by
 unfold rg;rw [yf hp hq];have:=zJ (key p - key q);split
 ·exact ⟨hq,by omega⟩
 ·exact ⟨hp,by omega⟩
theorem kf {p q:Pt} (hp:vld p=true) (hq:vld q=true):cmpP p q < 0↔key p < key q:=by
 rw [yf hp hq];have:=zJ (key p - key q);omega
theorem kM {a b c d:Pt} (s:Seg2 a b c d):mil a b c d=if min (key a) (key b) < max (key c) (key d)/\min (key c) (key d) < max (key a) (key b) then 3 else 0:=by
 obtain ⟨u1,u2⟩:=Y9 s.va s.vb;obtain ⟨u3,u4⟩:=YF s.va s.vb;obtain ⟨u5,u6⟩:=Y9 s.vc s.vd;obtain ⟨u7,u8⟩:=YF s.vc s.vd;unfold mil;simp only [kf u1 u7,kf u5 u3,u2,u4,u6,u8]
 (repeat' split) <;> omega
theorem lap_key {a b c d:Pt} (s:Seg2 a b c d):lap a b c d=if min (key a) (key b) < max (key c) (key d)/\min (key c) (key d) < max (key a) (key b) then 3 else 0:=by
 obtain ⟨u1,u2⟩:=YX s.va s.vb;obtain ⟨u3,u4⟩:=YY s.va s.vb;obtain ⟨u5,u6⟩:=YX s.vc s.vd;obtain ⟨u7,u8⟩:=YY s.vc s.vd;obtain ⟨t1,t2⟩:=YY u1 u5;obtain ⟨t3,t4⟩:=YX u3 u7;have n1:=key_n s;have n2:=key_n2 s;unfold lap;simp only [kf t1 t3,t2,t4,u2,u4,u6,u8]
 (repeat' split) <;> omega
theorem fin_0 {sA sB sC sD:Int} (h:sA=sB\/sC=sD):fin sA sB sC sD=0:=by unfold fin;(repeat' split) <;> omega
theorem fin_2 {sA sB sC sD:Int} (h1:sA≠sB) (h2:sC≠sD) (h:sA=0\/sB=0\/sC=0\/sD=0):fin sA sB sC sD=2:=by unfold fin;(repeat' split) <;> omega
theorem tn {E A B kc D:Int} (hE:0 < E) (hD:D≠0) (h1:E * A=kc * D) (h2:E * B=(kc - E) * D):(kc=0/\A=0/\B≠0)\/(kc=E/\B=0/\A≠0)\/((kc < 0\/E < kc)/\A≠0/\B≠0/\sgn A=sgn B)\/(0 < kc/\kc < E/\A≠0/\B≠0/\sgn A≠sgn B):=by
 have s1:=qy hE h1;have s2:=qy hE h2;have c1:=zJ kc;have c2:=zJ (kc - E);have c3:=zJ D;have c4:=zJ A;have c5:=zJ B;rcases c1 with ⟨e1,t1⟩ | ⟨e1,t1⟩ | ⟨e1,t1⟩ <;> rcases c2 with ⟨e2,t2⟩ | ⟨e2,t2⟩ | ⟨e2,t2⟩ <;> rw [e1] at s1 <;> rw [e2] at s2 <;> omega
theorem s0:sgn 0=0:=rfl
theorem uo (a b:Pt):kk a b a=0:=by unfold kk;simp
theorem Zp (a b:Pt):kk a b b=EE a b:=rfl
theorem det_1 (a b:Pt):det a b a=0:=by unfold det;grind
theorem det_2 (a b:Pt):det a b b=0:=by unfold det;grind
theorem Y8 (a b c d:Pt):meetS a b c d=meetR a b c d:=by
 by_cases s:Seg2 a b c d
 case neg=>rw [xT s,meetR_none s]
 case pos=>
 by_cases hl:det a b c=0/\det a b d=0
 ·rw [yd s hl,meetR_line s hl,kM s,lap_key s]
 rw [kN s hl,tch_k s.va s.vc s.vd s.ncd,tch_k s.vb s.vc s.vd s.ncd,tch_k s.vc s.va s.vb s.nab,tch_k s.vd s.va s.vb s.nab];have hE:=uL s.nab;have hF:=uL s.ncd;have i1:=I1 a b c d;have i2:=I2 a b c d;have i3:=I1 c d a b;have i4:=I2 c d a b
 -- ends in common
 have e1:a=c->det c d a=0/\det a b c=0/\kk c d a=0/\kk a b c=0:=by rintro rfl;exact ⟨det_1 _ _,det_1 _ _,uo _ _,uo _ _⟩
 have e2:a=d->det c d a=0/\det a b d=0/\kk c d a=EE c d/\kk a b d=0:=by rintro rfl;exact ⟨det_2 _ _,det_1 _ _,Zp _ _,uo _ _⟩
 have e3:b=c->det c d b=0/\det a b c=0/\kk c d b=0/\kk a b c=EE a b:=by rintro rfl;exact ⟨det_1 _ _,det_2 _ _,uo _ _,Zp _ _⟩
 have e4:b=d->det c d b=0/\det a b d=0/\kk c d b=EE c d/\kk a b d=EE a b:=by rintro rfl;exact ⟨det_2 _ _,det_2 _ _,Zp _ _,Zp _ _⟩
 have f1:det a b c=0->kk a b c=0->a=c:=λh k=>by
  obtain ⟨c1,c2⟩:=coll h;rw [k] at c1 c2;simp only [XU] at c1 c2;rw [Pt.eq_iff];rcases Yl.1 c1 with h1 | h1 <;> rcases Yl.1 c2 with h2 | h2 <;> omega
 have f2:det a b d=0->kk a b d=0->a=d:=λh k=>by
  obtain ⟨c1,c2⟩:=coll h;rw [k] at c1 c2;simp only [XU] at c1 c2;rw [Pt.eq_iff];rcases Yl.1 c1 with h1 | h1 <;> rcases Yl.1 c2 with h2 | h2 <;> omega
 have f3:det a b c=0->kk a b c=EE a b->b=c:=λh k=>by
  obtain ⟨c1,c2⟩:=coll2 h;rw [k] at c1 c2;simp only [Kf,XU] at c1 c2;rw [Pt.eq_iff];rcases Yl.1 c1 with h1 | h1 <;> rcases Yl.1 c2 with h2 | h2 <;> omega
 have f4:det a b d=0->kk a b d=EE a b->b=d:=λh k=>by
  obtain ⟨c1,c2⟩:=coll2 h;rw [k] at c1 c2;simp only [Kf,XU] at c1 c2;rw [Pt.eq_iff];rcases Yl.1 c1 with h1 | h1 <;> rcases Yl.1 c2 with h2 | h2 <;> omega
 by_cases hs:a=c\/a=d\/b=c\/b=d
 ·rw [qQ s hl hs];clear f1 f2 f3 f4;generalize det a b c=C at *
  generalize det a b d=D at *
  generalize det c d a=A at *
  generalize det c d b=B at *
  generalize kk a b c=kc at *
  generalize kk a b d=kd at *
  generalize kk c d a=la at *
  generalize kk c d b=lb at *
  generalize EE a b=E at *
  generalize EE c d=F at *
  rcases hs with h | h | h | h
  ·obtain ⟨g1,g2,g3,g4⟩:=e1 h;subst g1 g2 g3 g4;have hD:D≠0:=λk=>hl ⟨rfl,k⟩;have hB:B≠0:=by rcases tn (A:=0) (B:=B) (kc:=0) hE hD (by simp) (by simpa using i2) with x | x | x | x <;> omega
   simp [sgn,mx4,hD,hB]
  ·obtain ⟨g1,g2,g3,g4⟩:=e2 h;subst g1 g2 g3 g4;have hC:C≠0:=λk=>hl ⟨k,rfl⟩;have hB:B≠0:=by
    rintro rfl;simp only [XN,J0] at i2;have:=Yl.1 (show C * -E=0 by omega);omega
   simp [sgn,mx4,hC,hB]
  ·obtain ⟨g1,g2,g3,g4⟩:=e3 h;subst g1 g2 g3 g4;have hD:D≠0:=λk=>hl ⟨rfl,k⟩;have hA:A≠0:=by
    rintro rfl;simp only [XN,XU,Xx] at i1;have:=Yl.1 i1.symm;omega
   simp [sgn,mx4,hD,hA]
  ·obtain ⟨g1,g2,g3,g4⟩:=e4 h;subst g1 g2 g3 g4;have hC:C≠0:=λk=>hl ⟨k,rfl⟩;have hA:A≠0:=by
    rintro rfl;simp only [XN,J0] at i1;have:=Yl.1 (show C * kd=0 by omega);omega
   simp [sgn,mx4,hC,hA]
 ·rw [qP s hl hs];have n1:¬ a=c:=λh=>hs (.inl h);have n2:¬ a=d:=λh=>hs (.inr (.inl h));have n3:¬ b=c:=λh=>hs (.inr (.inr (.inl h)));have n4:¬ b=d:=λh=>hs (.inr (.inr (.inr h)));clear e1 e2 e3 e4 hs;generalize det a b c=C at *
  generalize det a b d=D at *
  generalize det c d a=A at *
  generalize det c d b=B at *
  generalize kk a b c=kc at *
  generalize kk a b d=kd at *
  generalize kk c d a=la at *
  generalize kk c d b=lb at *
  generalize EE a b=E at *
  generalize EE c d=F at *
  by_cases hC:C=0
  ·subst hC;have hD:D≠0:=λk=>hl ⟨rfl,k⟩;have k1:kc≠0:=λk=>n1 (f1 rfl k);have k2:kc≠E:=λk=>n3 (f3 rfl k);rcases tn (A:=A) (B:=B) hE hD (by simpa using i1) (by simpa using i2) with x | x | ⟨x1,x2,x3,x4⟩ | ⟨x1,x2,x3,x4,x5⟩
   ·omega
   ·omega
   ·rw [s0,fin_0 (.inl x4),Ye (by simp),Ye (by omega),Ye (by omega),Ye (by omega),Ye (by omega)];rfl
   ·rw [s0,fin_2 x5 (by have:=zJ D;omega) (.inr (.inr (.inl rfl))),Ye (by simp),Ye (by omega),Ye (by omega),Yn (by omega),Ye (by omega)];rfl
  ·by_cases hD:D=0
   ·subst hD;have k1:kd≠0:=λk=>n2 (f2 rfl k);have k2:kd≠E:=λk=>n4 (f4 rfl k);rcases tn (A := -A) (B := -B) (kc:=kd) hE hC (by simp only [XN,J0] at i1;rw [JT,i1,Jg C];simp) (by simp only [XN,J0] at i2;rw [JT,i2,Jg C];simp) with x | x | ⟨x1,x2,x3,x4⟩ | ⟨x1,x2,x3,x4,x5⟩
    ·omega
    ·omega
    ·rw [yv,yv] at x4;rw [s0,fin_0 (.inl (by omega)),Ye (by simp),Ye (by omega),Ye (by omega),Ye (by omega),Ye (by omega)];rfl
    ·rw [yv,yv] at x5;rw [s0,fin_2 (by omega) (by have:=zJ C;omega) (.inr (.inr (.inr rfl))),Ye (by simp),Ye (by omega),Ye (by omega),Ye (by omega),Yn (by omega)];rfl
   ·by_cases hA:A=0
    ·subst hA;have hB:B≠0:=by
      rintro rfl;simp only [XN,XU,Xx] at i3;rcases Yl.1 i3 with h | h <;> omega
     rcases tn (A:=C) (B:=D) (kc:=la) hF hB (by simpa using i3) (by simpa using i4) with x | x | ⟨x1,x2,x3,x4⟩ | ⟨x1,x2,x3,x4,x5⟩
     ·omega
     ·omega
     ·rw [s0,fin_0 (.inr x4),Ye (by simp),Ye (by omega),Ye (by omega),Ye (by omega),Ye (by omega)];rfl
     ·rw [s0,fin_2 (by have:=zJ B;omega) x5 (.inl rfl),Ye (by simp),Yn (by omega),Ye (by omega),Ye (by omega),Ye (by omega)];rfl
    ·by_cases hB:B=0
     ·subst hB;rcases tn (A := -C) (B := -D) (kc:=lb) hF hA (by simp only [XN,J0] at i3;rw [JT,i3,Jg A];simp) (by simp only [XN,J0] at i4;rw [JT,i4,Jg A];simp) with x | x | ⟨x1,x2,x3,x4⟩ | ⟨x1,x2,x3,x4,x5⟩
      ·omega
      ·omega
      ·rw [yv,yv] at x4;rw [s0,fin_0 (.inr (by omega)),Ye (by simp),Ye (by omega),Ye (by omega),Ye (by omega),Ye (by omega)];rfl
      ·rw [yv,yv] at x5;rw [s0,fin_2 (by have:=zJ A;omega) (by omega) (.inr (.inl rfl)),Ye (by simp),Ye (by omega),Yn (by omega),Ye (by omega),Ye (by omega)];rfl
     ·have c1:=zJ A;have c2:=zJ B;have c3:=zJ C;have c4:=zJ D;simp only [hA,hB,hC,hD,false_and,Jf];have m0:mx4 0 0 0 0=0:=rfl;rw [m0];generalize sgn A=sA at *
      generalize sgn B=sB at *
      generalize sgn C=sC at *
      generalize sgn D=sD at *
      have d1:sA=1\/sA = -1:=by omega
      have d2:sB=1\/sB = -1:=by omega
      have d3:sC=1\/sC = -1:=by omega
      have d4:sD=1\/sD = -1:=by omega
      clear c1 c2 c3 c4;rcases d1 with rfl | rfl <;> rcases d2 with rfl | rfl <;> rcases d3 with rfl | rfl <;> rcases d4 with rfl | rfl <;> rfl
structure Tri3 where
 A:Pt
 B:Pt
 C:Pt
instance:Coe Tri3 Value:=⟨λT=>.agg #[.int .i64 T.A.x,.int .i64 T.A.y,.int .i64 T.B.x,.int .i64 T.B.y,.int .i64 T.C.x,.int .i64 T.C.y]⟩
def mkT (x y z:Pt):Tri3:=if cmpP y x < 0\/cmpP z x < 0 then (if cmpP z y < 0\/cmpP x y < 0 then ⟨z,x,y⟩ else ⟨y,z,x⟩) else ⟨x,y,z⟩
def mk (a b c:Pt):Tri3:=if ori a b c=0 then ⟨⟨0,0⟩,⟨0,0⟩,⟨0,0⟩⟩ else if ori a b c=1 then mkT a b c else mkT a c b
theorem qO {x y z:Pt} (hx:vld x=true) (hy:vld y=true) (hz:vld z=true) (n1:key x≠key y) (n2:key x≠key z) (n3:key y≠key z):(key x < key y/\key x < key z/\mkT x y z=⟨x,y,z⟩)\/(key y < key x/\key y < key z/\mkT x y z=⟨y,z,x⟩)\/(key z < key x/\key z < key y/\mkT x y z=⟨z,x,y⟩):=by
 unfold mkT;simp only [kf hy hx,kf hz hx,kf hz hy,kf hx hy]
 (repeat' split) <;> simp <;> omega
theorem dlt {p q:Pt} (hp:vld p=true) (hq:vld q=true) (h:key p < key q):decide (cmpP p q < 0)=true:=by simpa using (kf hp hq).2 h
theorem dge {p q:Pt} (hp:vld p=true) (hq:vld q=true) (h:key q<=key p):decide (cmpP p q < 0)=false:=by
 have:=kf hp hq;simp;omega
theorem yB (a b c:Pt) (w:World):Calls prog 31 #[a,b,c] w (Rt w (.tuple #[.agg #[.int .i64 (mk a b c).A.x,.int .i64 (mk a b c).A.y,.int .i64 (mk a b c).B.x,.int .i64 (mk a b c).B.y,.int .i64 (mk a b c).C.x,.int .i64 (mk a b c).C.y],.bool (!decide (ori a b c=0))])):=by
 by_cases h0:ori a b c=0
 ·rw [show mk a b c=⟨⟨0,0⟩,⟨0,0⟩,⟨0,0⟩⟩ by unfold mk;rw [Yn h0],show (!decide (ori a b c=0))=false by simp [h0]];exact rmake_0 a b c h0 w
 ·obtain ⟨va,vb,vc⟩:=yQ h0;obtain ⟨d1,d2,d3⟩:=yG h0;have n1:key a≠key b:=λh=>d1 (yK va vb h).symm;have n2:key a≠key c:=λh=>d2 (yK va vc h).symm;have n3:key b≠key c:=λh=>d3 (yK vb vc h).symm;rw [show (!decide (ori a b c=0))=true by simp [h0]];have hb:=y8 a b c;by_cases h1:ori a b c=1
  ·rw [show mk a b c=mkT a b c by unfold mk;rw [Ye h0,Yn h1]];rcases qO va vb vc n1 n2 n3 with ⟨x1,x2,e⟩ | ⟨x1,x2,e⟩ | ⟨x1,x2,e⟩ <;> rw [e]
   ·exact rmake_p0 a b c h1 (dge vb va (by omega)) (dge vc va (by omega)) w
   ·exact rmake_p1 a b c h1 (dlt vb va (by omega)) (dge vc vb (by omega)) (dge va vb (by omega)) w
   ·rcases Ke (key b) (key a) with y | y
    ·exact rmake_p2 a b c h1 (dlt vb va (by omega)) (dlt vc vb (by omega)) (dge va vc (by omega)) (dge vb vc (by omega)) w
    ·exact rmake_p3 a b c h1 (dge vb va (by omega)) (dlt vc va (by omega)) (dlt vc vb (by omega)) (dge va vc (by omega)) (dge vb vc (by omega)) w
  ·have h2:ori a b c = -1:=by omega
   rw [show mk a b c=mkT a c b by unfold mk;rw [Ye h0,Ye h1]];rcases qO va vc vb n2 n1 n3.symm with ⟨x1,x2,e⟩ | ⟨x1,x2,e⟩ | ⟨x1,x2,e⟩ <;> rw [e]
   ·exact rmake_n0 a b c h2 (dge vc va (by omega)) (dge vb va (by omega)) w
   ·exact rmake_n1 a b c h2 (dlt vc va (by omega)) (dge vb vc (by omega)) (dge va vc (by omega)) w
   ·rcases Ke (key c) (key a) with y | y
    ·exact rmake_n2 a b c h2 (dlt vc va (by omega)) (dlt vb vc (by omega)) (dge va vb (by omega)) (dge vc vb (by omega)) w
    ·exact rmake_n3 a b c h2 (dge vc va (by omega)) (dlt vb va (by omega)) (dlt vb vc (by omega)) (dge va vb (by omega)) (dge vc vb (by omega)) w
def teq (s u:Tri3):Bool:=peqI s.A.x s.A.y u.A.x u.A.y && (peqI s.B.x s.B.y u.B.x u.B.y && peqI s.C.x s.C.y u.C.x u.C.y)
theorem tri_eql (s u:Tri3) (w:World):(binOp .eql 28 (.agg #[s.A.x,s.A.y,s.B.x,s.B.y,s.C.x,s.C.y]) (.agg #[u.A.x,u.A.y,u.B.x,u.B.y,u.C.x,u.C.y])).run prog w=.ok (.bool (teq s u)) w:=by
 unfold teq peqI;by_cases h1:s.A.x=u.A.x
 case neg=>simp [go_sem,h1]
 case pos=>
 by_cases h2:s.A.y=u.A.y
 case neg=>simp [go_sem,h1,h2]
 case pos=>
 by_cases h3:s.B.x=u.B.x
 case neg=>simp [go_sem,h1,h2,h3]
 case pos=>
 by_cases h4:s.B.y=u.B.y
 case neg=>simp [go_sem,h1,h2,h3,h4]
 case pos=>
 by_cases h5:s.C.x=u.C.x
 case neg=>simp [go_sem,h1,h2,h3,h4,h5]
 case pos=>
 by_cases h6:s.C.y=u.C.y
 ·simp [go_sem,h1,h2,h3,h4,h5,h6]
 ·simp [go_sem,h1,h2,h3,h4,h5,h6]
attribute [local go_sem 10000] tri_eql
def valT (T:Tri3):Bool := !decide (ori T.A T.B T.C=0) && teq (mk T.A T.B T.C) T
theorem rvalT_0 (T:Tri3) (h:(!decide (ori T.A T.B T.C=0))=false) (w:World):Calls prog 58 #[T] w (Rt w (.bool false)):=by
 have cm:=yB T.A T.B T.C;rw [h] at cm;clear h;generalize mk T.A T.B T.C=M at *
 go_enter func58,ntmps58
 go_wp2_with fail;refine qE1 λW1 Bt hw=>?_;refine qC1 (cm _) Bt hw λw2 Bt hw Ft=>?_;go_wp2
 go_ret
 exact ⟨rfl,by have hl:=hw.size;go_grown⟩
theorem rvalT_1 (T:Tri3) (h:(!decide (ori T.A T.B T.C=0))=true) (w:World):Calls prog 58 #[T] w (Rt w (.bool (teq (mk T.A T.B T.C) T))):=by
 have cm:=yB T.A T.B T.C;rw [h] at cm;clear h;generalize mk T.A T.B T.C=M at *
 go_enter func58,ntmps58
 go_wp2_with fail;refine qE1 λW1 Bt hw=>?_;refine qC1 (cm _) Bt hw λw2 Bt hw Ft=>?_;go_wp2
 go_ret
 exact ⟨rfl,by have hl:=hw.size;go_grown⟩
theorem yA (T:Tri3) (w:World):Calls prog 58 #[T] w (Rt w (.bool (valT T))):=by
 unfold valT;cases h:(!decide (ori T.A T.B T.C=0)) with
 | false=>exact rvalT_0 T h w
 | true=>exact rvalT_1 T h w
def hasP (T:Tri3) (p:Pt):Bool:=valT T && (vld p && (decide (0<=ori T.A T.B p) && (decide (0<=ori T.B T.C p) && decide (0<=ori T.C T.A p))))
theorem rhasP_0 (T:Tri3) (p:Pt) (h0:valT T=false) (w:World):Calls prog 32 #[T,p] w (Rt w (.bool false)):=by
 have cv:=yA T;rw [h0] at cv;clear h0
 go_enter func32,ntmps32
 go_wp2_with fail;refine qE2 λW1 Bt Bp hw=>?_;refine qC2 (cv _) Bt Bp hw λw2 Bt Bp hw F9=>?_;go_wp2
 go_ret
 exact ⟨rfl,hw⟩
theorem rhasP_1 (T:Tri3) (p:Pt) (h0:valT T=true) (h1:vld p=false) (w:World):Calls prog 32 #[T,p] w (Rt w (.bool false)):=by
 have cv:=yA T;rw [h0] at cv;clear h0;have cp:=zM p;rw [h1] at cp;clear h1
 go_enter func32,ntmps32
 go_wp2_with fail;refine qE2 λW1 Bt Bp hw=>?_;refine qC2 (cv _) Bt Bp hw λw2 Bt Bp hw F9=>?_;go_wp2_with fail;clear F9;refine qC2 (cp _) Bt Bp hw λw3 Bt Bp hw F9=>?_;go_wp2
 go_ret
 exact ⟨rfl,hw⟩
theorem rhasP_2 (T:Tri3) (p:Pt) (h0:valT T=true) (h1:vld p=true) (g0:decide (0<=ori T.A T.B p)=false) (w:World):Calls prog 32 #[T,p] w (Rt w (.bool false)):=by
 have cv:=yA T;rw [h0] at cv;clear h0;have cp:=zM p;rw [h1] at cp;clear h1;have o0:=zH T.A T.B p;generalize ori T.A T.B p=O0 at *
 go_enter func32,ntmps32
 go_wp2_with fail;refine qE2 λW1 Bt Bp hw=>?_;refine qC2 (cv _) Bt Bp hw λw2 Bt Bp hw F9=>?_;go_wp2_with fail;clear F9;refine qC2 (cp _) Bt Bp hw λw3 Bt Bp hw F9=>?_;go_wp2_with fail;clear F9;refine qC2 (o0 _) Bt Bp hw λw4 Bt Bp hw F9=>?_;go_wp2
 go_ret
 exact ⟨rfl,hw⟩
theorem rhasP_3 (T:Tri3) (p:Pt) (h0:valT T=true) (h1:vld p=true) (g0:decide (0<=ori T.A T.B p)=true) (g1:decide (0<=ori T.B T.C p)=false) (w:World):Calls prog 32 #[T,p] w (Rt w (.bool false)):=by
 have cv:=yA T;rw [h0] at cv;clear h0;have cp:=zM p;rw [h1] at cp;clear h1;have o0:=zH T.A T.B p;generalize ori T.A T.B p=O0 at *
 have o1:=zH T.B T.C p;generalize ori T.B T.C p=O1 at *
 go_enter func32,ntmps32
 go_wp2_with fail;refine qE2 λW1 Bt Bp hw=>?_;refine qC2 (cv _) Bt Bp hw λw2 Bt Bp hw F9=>?_;go_wp2_with fail;clear F9;refine qC2 (cp _) Bt Bp hw λw3 Bt Bp hw F9=>?_;go_wp2_with fail;clear F9;refine qC2 (o0 _) Bt Bp hw λw4 Bt Bp hw F9=>?_;go_wp2_with fail;clear F9;refine qC2 (o1 _) Bt Bp hw λw5 Bt Bp hw F9=>?_;go_wp2
 go_ret
 exact ⟨rfl,hw⟩
theorem rhasP_4 (T:Tri3) (p:Pt) (h0:valT T=true) (h1:vld p=true) (g0:decide (0<=ori T.A T.B p)=true) (g1:decide (0<=ori T.B T.C p)=true) (w:World):Calls prog 32 #[T,p] w (Rt w (.bool (decide (0<=ori T.C T.A p)))):=by
 have cv:=yA T;rw [h0] at cv;clear h0;have cp:=zM p;rw [h1] at cp;clear h1;have o0:=zH T.A T.B p;generalize ori T.A T.B p=O0 at *
 have o1:=zH T.B T.C p;generalize ori T.B T.C p=O1 at *
 have o2:=zH T.C T.A p;generalize ori T.C T.A p=O2 at *
 go_enter func32,ntmps32
 go_wp2_with fail;refine qE2 λW1 Bt Bp hw=>?_;refine qC2 (cv _) Bt Bp hw λw2 Bt Bp hw F9=>?_;go_wp2_with fail;clear F9;refine qC2 (cp _) Bt Bp hw λw3 Bt Bp hw F9=>?_;go_wp2_with fail;clear F9;refine qC2 (o0 _) Bt Bp hw λw4 Bt Bp hw F9=>?_;go_wp2_with fail;clear F9;refine qC2 (o1 _) Bt Bp hw λw5 Bt Bp hw F9=>?_;go_wp2_with fail;clear F9;refine qC2 (o2 _) Bt Bp hw λw6 Bt Bp hw F9=>?_;go_wp2
 go_ret
 exact ⟨rfl,hw⟩
theorem qJ (T:Tri3) (p:Pt) (w:World):Calls prog 32 #[T,p] w (Rt w (.bool (hasP T p))):=by
 unfold hasP;cases h0:valT T with
 | false=>exact rhasP_0 T p h0 w
 | true=>cases h1:vld p with
  | false=>exact rhasP_1 T p h0 h1 w
  | true=>cases g0:decide (0<=ori T.A T.B p) with
   | false=>exact rhasP_2 T p h0 h1 g0 w
   | true=>cases g1:decide (0<=ori T.B T.C p) with
    | false=>exact rhasP_3 T p h0 h1 g0 g1 w
    | true=>exact rhasP_4 T p h0 h1 g0 g1 w
def plc (i:Int):Int:=i % 3
theorem jH (i:Int):plc i=0\/plc i=1\/plc i=2:=by unfold plc;omega
theorem jI (i:Int):(wrap64 (i.tmod 3+3)).tmod 3=plc i:=by
 have h := @Int.tmod_eq_emod i 3;have h2:i.tmod 3=i % 3\/i.tmod 3=i % 3 - 3:=by
  split at h
  ·left;omega
  ·right;simp at h;omega
 rw [show wrap64 (i.tmod 3+3)=i.tmod 3+3 by rw [w64];omega,Int.tmod_eq_emod_of_nonneg (by omega)];unfold plc;omega
theorem k7 (i:Int) (w:World):Calls prog 98 #[i] w (Rt w (.int .i64 (plc i))):=by
 rw [<-jI]
 go_enter func98,ntmps98
 go_wp2
 go_ret
 exact ⟨rfl,by go_grown⟩
def crn (T:Tri3) (i:Int):Pt:=if plc i=0 then T.A else if plc i=1 then T.B else T.C
theorem crn_plc (T:Tri3) (i:Int):crn T (plc i)=crn T i:=by
 have:plc (plc i)=plc i:=by unfold plc;omega
 unfold crn;rw [this]
theorem crn_next (T:Tri3) (i:Int):crn T (plc i+1)=crn T (i+1):=by
 have:plc (plc i+1)=plc (i+1):=by unfold plc;omega
 unfold crn;rw [this]
theorem corner_0 (T:Tri3) (i:Int) (h:plc i=0) (w:World):Calls prog 99 #[T,i] w (Rt w (.agg #[T.A.x,T.A.y])):=by
 have cp:=k7 i;rw [h] at cp;clear h
 go_enter func99,ntmps99
 go_wp2_with fail;refine qE2 λW1 Bt Br hw=>?_;refine qK2 (cp _) Bt Br hw λw2 Bt Br hw=>?_;have Ft:=Bt.f;have Fr:=Br.f;go_wp2_with fail;refine bodyPost_ret (v:=.agg #[T.A.x,T.A.y]) (by simp [results,results99,go_sem,Fr]) rfl ⟨rfl,by have hl:=hw.size;go_grown⟩
theorem corner_1 (T:Tri3) (i:Int) (h:plc i=1) (w:World):Calls prog 99 #[T,i] w (Rt w (.agg #[T.B.x,T.B.y])):=by
 have cp:=k7 i;rw [h] at cp;clear h
 go_enter func99,ntmps99
 go_wp2_with fail;refine qE2 λW1 Bt Br hw=>?_;refine qK2 (cp _) Bt Br hw λw2 Bt Br hw=>?_;have Ft:=Bt.f;have Fr:=Br.f;go_wp2_with fail;refine bodyPost_ret (v:=.agg #[T.B.x,T.B.y]) (by simp [results,results99,go_sem,Fr]) rfl ⟨rfl,by have hl:=hw.size;go_grown⟩
theorem corner_2 (T:Tri3) (i:Int) (h:plc i=2) (w:World):Calls prog 99 #[T,i] w (Rt w (.agg #[T.C.x,T.C.y])):=by
 have cp:=k7 i;rw [h] at cp;clear h
 go_enter func99,ntmps99
 go_wp2_with fail;refine qE2 λW1 Bt Br hw=>?_;refine qK2 (cp _) Bt Br hw λw2 Bt Br hw=>?_;have Ft:=Bt.f;have Fr:=Br.f;go_wp2_with fail;refine bodyPost_ret (v:=.agg #[T.C.x,T.C.y]) (by simp [results,results99,go_sem,Fr]) rfl ⟨rfl,by have hl:=hw.size;go_grown⟩
theorem qV (T:Tri3) (i:Int) (w:World):Calls prog 99 #[T,i] w (Rt w (.agg #[.int .i64 (crn T i).x,.int .i64 (crn T i).y])):=by
 rcases jH i with h | h | h
 ·rw [show crn T i=T.A by unfold crn;simp [h]];exact corner_0 T i h w
 ·rw [show crn T i=T.B by unfold crn;simp [h]];exact corner_1 T i h w
 ·rw [show crn T i=T.C by unfold crn;simp [h]];exact corner_2 T i h w
theorem yI (T:Tri3) (w:World):Calls prog 101 #[T] w (Rt w (.agg #[T.B.x,T.B.y,T.C.x,T.C.y,T.A.x,T.A.y])):=by
 go_enter func101,ntmps101
 go_wp2_with fail;refine bodyPost_ret (v:=.agg #[T.B.x,T.B.y,T.C.x,T.C.y,T.A.x,T.A.y]) (by simp [results,results101,go_sem]) rfl ⟨rfl,by go_grown⟩
def leq (p q:Pt):Bool:=decide (cmpP p q<=0)
def lds (T:Tri3):Bool:=leq T.A T.B && leq T.A T.C
theorem leads_0 (T:Tri3) (h:leq T.A T.B=false) (w:World):Calls prog 100 #[T] w (Rt w (.bool false)):=by
 have c1:=zY T.A T.B;unfold leq at h;generalize cmpP T.A T.B=n at *
 go_enter func100,ntmps100
 go_wp2_with fail;refine qE1 λW1 Bt hw=>?_;refine qC1 (c1 _) Bt hw λw2 Bt hw Ft=>?_;go_wp2
 go_ret
 exact ⟨rfl,by have hl:=hw.size;go_grown⟩
theorem leads_1 (T:Tri3) (h:leq T.A T.B=true) (w:World):Calls prog 100 #[T] w (Rt w (.bool (leq T.A T.C))):=by
 have c1:=zY T.A T.B;have c2:=zY T.A T.C;unfold leq at h ⊢;generalize cmpP T.A T.B=n at *
 generalize cmpP T.A T.C=m at *
 go_enter func100,ntmps100
 go_wp2_with fail;refine qE1 λW1 Bt hw=>?_;refine qC1 (c1 _) Bt hw λw2 Bt hw Ft=>?_;go_wp2_with fail;clear Ft;refine qC1 (c2 _) Bt hw λw3 Bt hw Ft=>?_;go_wp2
 go_ret
 exact ⟨rfl,by have hl:=hw.size;go_grown⟩
theorem zg (T:Tri3) (w:World):Calls prog 100 #[T] w (Rt w (.bool (lds T))):=by
 unfold lds;cases h:leq T.A T.B with
 | false=>exact leads_0 T h w
 | true=>exact leads_1 T h w
def valS (T:Tri3):Bool:=decide (0 < ori T.A T.B T.C) && lds T
theorem tvalid_0 (T:Tri3) (h:decide (0 < ori T.A T.B T.C)=false) (w:World):Calls prog 95 #[T] w (Rt w (.bool false)):=by
 have c1:=zF T.A T.B T.C;generalize ori T.A T.B T.C=n at *
 go_enter func95,ntmps95
 go_wp2_with fail;refine qE1 λW1 Bt hw=>?_;refine qC1 (c1 _) Bt hw λw2 Bt hw Ft=>?_;go_wp2
 go_ret
 exact ⟨rfl,by have hl:=hw.size;go_grown⟩
theorem tvalid_1 (T:Tri3) (h:decide (0 < ori T.A T.B T.C)=true) (w:World):Calls prog 95 #[T] w (Rt w (.bool (lds T))):=by
 have c1:=zF T.A T.B T.C;have c2:=zg T;generalize ori T.A T.B T.C=n at *
 generalize lds T=m at *
 go_enter func95,ntmps95
 go_wp2_with fail;refine qE1 λW1 Bt hw=>?_;refine qC1 (c1 _) Bt hw λw2 Bt hw Ft=>?_;go_wp2_with fail;clear Ft;refine qC1 (c2 _) Bt hw λw3 Bt hw Ft=>?_;go_wp2
 go_ret
 exact ⟨rfl,by have hl:=hw.size;go_grown⟩
theorem yn {p q:Pt} (hp:vld p=true) (hq:vld q=true):leq p q=decide (key p<=key q):=by
 have h:=kf hq hp;have h2:=yf hp hq;have h3:=zJ (key p - key q);unfold leq;by_cases hh:key p<=key q
 ·rw [decide_eq_true hh,decide_eq_true];omega
 ·rw [Km hh,Km];omega
theorem kD {s u:Tri3}:teq s u=true↔s=u:=by
 unfold teq;simp only [Yf,yZ];cases s with | mk a b c=>cases u with | mk d e f=>cases a;cases b;cases c;cases d;cases e;cases f;simp [and_assoc]
theorem Tri3.eq_iff {s u:Tri3}:s=u↔s.A=u.A/\s.B=u.B/\s.C=u.C:=by
 cases s;cases u;simp
theorem tV (T:Tri3):valT T=valS T:=by
 obtain ⟨a,b,c⟩:=T;unfold valT valS lds;simp only;have hb:=y8 a b c;by_cases h0:ori a b c=0
 ·simp [h0]
 ·obtain ⟨va,vb,vc⟩:=yQ h0;obtain ⟨d1,d2,d3⟩:=yG h0;have n1:key a≠key b:=λh=>d1 (yK va vb h).symm;have n2:key a≠key c:=λh=>d2 (yK va vc h).symm;have n3:key b≠key c:=λh=>d3 (yK vb vc h).symm;rw [yn va vb,yn va vc,show (!decide (ori a b c=0))=true by simp [h0],Xy];rw [Xv,kD];by_cases h1:ori a b c=1
  ·rw [show mk a b c=mkT a b c by unfold mk;rw [Ye h0,Yn h1]];rcases qO va vb vc n1 n2 n3 with ⟨x1,x2,e⟩ | ⟨x1,x2,e⟩ | ⟨x1,x2,e⟩ <;> rw [e,Tri3.eq_iff] <;> simp only [Yf,Yh]
   ·simp;omega
   ·exact ⟨λh=>absurd h.1 d1,λh=>by omega⟩
   ·exact ⟨λh=>absurd h.1 d2,λh=>by omega⟩
  ·have h2:ori a b c = -1:=by omega
   rw [show mk a b c=mkT a c b by unfold mk;rw [Ye h0,Ye h1]];rcases qO va vc vb n2 n1 n3.symm with ⟨x1,x2,e⟩ | ⟨x1,x2,e⟩ | ⟨x1,x2,e⟩ <;> rw [e,Tri3.eq_iff] <;> simp only [Yf,Yh]
   ·exact ⟨λh=>absurd h.2.1 d3,λh=>by omega⟩
   ·exact ⟨λh=>absurd h.1 d2,λh=>by omega⟩
   ·exact ⟨λh=>absurd h.1 d1,λh=>by omega⟩
theorem zq (T:Tri3) (w:World):Calls prog 95 #[T] w (Rt w (.bool (valT T))):=by
 rw [tV];unfold valS;cases h:decide (0 < ori T.A T.B T.C) with
 | false=>exact tvalid_0 T h w
 | true=>exact tvalid_1 T h w
instance:DecidableEq Tri3:=λp q=>decidable_of_iff (p.A=q.A/\p.B=q.B/\p.C=q.C) Tri3.eq_iff.symm
instance:Inhabited Tri3:=⟨⟨⟨0,0⟩,⟨0,0⟩,⟨0,0⟩⟩⟩
def cP (p:Pt):List Value:=[p.x,p.y]
def cT (t:Tri3):List Value:=[t.A.x,t.A.y,t.B.x,t.B.y,t.C.x,t.C.y]
@[reducible] def eT (t:Tri3):Value:=.agg #[t.A.x,t.A.y,t.B.x,t.B.y,t.C.x,t.C.y]
def okT (t:Tri3):Prop:=okP t.A/\okP t.B/\okP t.C
abbrev Hs:=HoldsMap eW eT okW
section
variable {α:Type}
def RowAt (c:α->List Value) (k:Nat) (w:World) (a:Option Addr) (L:List α):Prop:=
 ∀ (j:Nat) (x:α),L[j]? = some x->∃ ad,a=some ad/\ad.block < w.heap.size/\∀ i u,(c x)[i]? = some u->w.cell? ((ad.add (j * k)).add i)=some u
theorem zy (a:Addr) (n:Nat):(a.add n).block=a.block:=by unfold Addr.add;split <;> rfl
theorem RowAt.ext {c:α->List Value} {k:Nat} {w w':World} {a:Option Addr} {L:List α} {n:Nat} (h:RowAt c k w a L) (hb:Below n w w') (hn:n=w.heap.size):RowAt c k w' a L:=λj x hx=>by
 obtain ⟨ad,h1,h2,h3⟩:=h j x hx;refine ⟨ad,h1,Xi h2 hb.size,λi u hu=>?_⟩;rw [hb.cell (p:=(ad.add (j * k)).add i) (by rw [zy,zy,hn];exact h2)];exact h3 i u hu
theorem RowAt.ee {c:α->List Value} {k:Nat} {w w':World} {a:Option Addr} {L:List α} (h:RowAt c k w a L) (hb:Below w w w'):RowAt c k w' a L:=h.ext hb rfl
theorem RowAt.nil {c:α->List Value} {k:Nat} {w:World} {a:Option Addr}:RowAt c k w a []:=λj x h=>by simp at h
theorem RowAt.tri {w:World} {a:Option Addr} {L:List Tri3} (h:RowAt cT 6 w a L) {j:Nat} (hj:j < L.length):∃ ad A,a=some ad/\ad.add (j * 6)=A/\(A.block=w.heap.size)=False/\A.block < w.heap.size/\(w.cell? A=some (.int .i64 L[j].A.x)/\w.cell? ⟨A.block,A.off+1,none⟩=some (.int .i64 L[j].A.y)/\w.cell? ⟨A.block,A.off+2,none⟩=some (.int .i64 L[j].B.x)/\w.cell? ⟨A.block,A.off+3,none⟩=some (.int .i64 L[j].B.y)/\w.cell? ⟨A.block,A.off+4,none⟩=some (.int .i64 L[j].C.x)/\w.cell? ⟨A.block,A.off+5,none⟩=some (.int .i64 L[j].C.y)):=by
 obtain ⟨ad,h1,h2,h3⟩:=h j L[j] (Yo hj);have hb:(ad.add (j * 6)).block=ad.block:=zy _ _;refine ⟨ad,_,h1,rfl,by rw [hb];simp;omega,by rw [hb];exact h2,?_⟩;have e0:=h3 0 _ rfl;have e1:=h3 1 _ rfl;have e2:=h3 2 _ rfl;have e3:=h3 3 _ rfl;have e4:=h3 4 _ rfl;have e5:=h3 5 _ rfl;simp only [Addr.add_zero',Addr.add_succ'] at e0 e1 e2 e3 e4 e5;exact ⟨e0,e1,e2,e3,e4,e5⟩
end
end
section
open Go.RowKit Go.Sort
theorem wp_region_lateG {P : Program} {C : World -> Prop} {id : Nat} {Q : Exit -> Act -> World -> Prop} {a : Act} {w : World} {l hd : List Oper} (n j s : Nat) (d t : Tmp) {T : TypeId} {zs us : List Value} {eff : Nat -> World -> World} (heff : ∀ (w : World) (b : Nat), w.heap[b]? = some (.cells zs.toArray T) -> (eff b w).heap[b]? = some (.cells us.toArray T) /\ (∀ B, B <= b -> Below B w (eff b w))) (u : Value) {oj os : Oper}
    (hoj:l.toArray[j]? = some oj) (hos:l.toArray[s]? = some os) (hjd:oj.dst=some d) (hafter:oj.after=#[]) (hguard:oj.guard=none) (hsd:os.dst=none) (hsg:os.guard=none)
    (hdsz:d < a.tmps.size)
    (hrun:∀ (ρ:Operand->Value) (w:World),(execOp ρ oj).run P w=.ok (.value (.pointer (some ⟨w,0,none⟩))) (w.alloc (.cells zs.toArray T)))
    (hm:P.follows .mixedOrders=true) (hB:lateB .any l.toArray n j s d t=true)
    (hhd:((List.range n).filter λi=>i != j && i != s).map (λi=>l.toArray[i]?)=hd.map some)
    (hC:∀ w',Below w w w'->C w')
    (h:rWalk P l.toArray C (λa'=>a'.eval (.tmp t)=u/\∀ w' b,Below w w w'->w.heap.size<=b->b < w'.heap.size->Box w' b us T->wpList P l.toArray Q (l.drop n) (a'.put (some d) (.pointer (some ⟨b,0,none⟩))) w') hd a)
    (hst:∀ (ρ:Operand->Value) (w:World) (b:Nat),ρ (.tmp d)=.pointer (some ⟨b,0,none⟩)->ρ (.tmp t)=u->Box w b zs T->(execOp ρ os).run P w=.ok .skip (eff b w)) :
    (Code.region id l.toArray true).wp P Q a w:=by
 simp only [lateB,Yf,Yh] at hB;obtain ⟨⟨⟨⟨⟨⟨⟨⟨⟨⟨⟨⟨⟨hsel,hn⟩,hjn⟩,hsn⟩,hjs⟩,hdt⟩,hs⟩,hc⟩,hph⟩,hbk⟩,hsj⟩,hwr⟩,hqa⟩,ho⟩:=hB;have K:Late P .any l.toArray n j s d t T zs.toArray us.toArray u oj os eff:=
  ⟨hsel,hn,hjn,hsn,hjs,hs,hc,hbk,hoj,hos,hjd,hafter,hguard,hsd,hsg,hsj,hdt,hwr,hrun,hst,λw b h=>heff w b h⟩
 have hjz:(Array.replicate l.toArray.size false).getD j true=false:=getD_in (by simp;simp at hn;omega) (getD_replicate_false _ _);have hsz:(Array.replicate l.toArray.size false).getD s true=false:=getD_in (by simp;simp at hn;omega) (getD_replicate_false _ _);have tl:∀ (m:Array Bool) (i:Nat),i < n->(m.size=l.toArray.size/\∀ t',n<=t'->t' < l.toArray.size->m.getD t' true=false)->((m.setIfInBounds i true).size=l.toArray.size/\∀ t',n<=t'->t' < l.toArray.size->(m.setIfInBounds i true).getD t' true=false):=
  λm i hi ⟨h1,h2⟩=>⟨by simpa using h1,λt' ht ht'=>by rw [getD_set_ne true (by omega)];exact h2 t' ht ht'⟩
 have i0:(Array.replicate l.toArray.size false).size=l.toArray.size/\∀ t',n<=t'->t' < l.toArray.size->(Array.replicate l.toArray.size false).getD t' true=false:=
  ⟨by simp,λt' _ ht'=>getD_in (by simpa using ht') (getD_replicate_false _ _)⟩
 have H:=yO (md:=.any) (g:=l.toArray.size - n) hsel (λm=>m.size=l.toArray.size/\∀ t',n<=t'->t' < l.toArray.size->m.getD t' true=false) (λm i hi _ hin=>tl m i hin hi) (λm hm=>ku hph hc hm.2)
  ((List.range n).filter λi=>i != j && i != s) hd _ a hhd (tl _ s hsn (tl _ j hjn i0)) ho h
 refine wp_region_any hm ?_;have R:=un (md:=.any) (Q:=Q) (l:=l.drop n) (w0:=w) K hqa (g:=l.toArray.size - n) (by simp) (λj=>by simp [KC]) hC (λa' hl=>hl.1)
  (λa' w' b h1 h2 h3 h4 hl=>hl.2 w' b h1 h2 h3 h4) _ (Array.replicate l.toArray.size false) a { w with drawn:=w.drawn+1 } hdsz ⟨rfl,rfl,rfl,Yq _,λ_ _=>rfl⟩ hjz hsz headInv0 H
 have hcount:((List.range n).filter λi=>i != j && i != s).length+1+1=n:=tI hjn hsn hjs;rw [show ((List.range n).filter λi=>i != j && i != s).length+(l.toArray.size - n)+1+1=l.toArray.size by omega] at R;exact R
theorem xM {P : Program} {C : World -> Prop} {id : Nat} {Q : Exit -> Act -> World -> Prop} {a : Act} {w : World} {l : List Oper} (m : Nat) (d t : Tmp) {T : TypeId} {zs : List Value} (us : List Value) {eff : Nat -> World -> World} (heff : ∀ (w : World) (b : Nat), w.heap[b]? = some (.cells zs.toArray T) -> (eff b w).heap[b]? = some (.cells us.toArray T) /\ (∀ B, B <= b -> Below B w (eff b w))) {oj os : Oper}
    (hoj:l.toArray[m]? = some oj) (hos:l.toArray[m+1]? = some os) (hjd:oj.dst=some d) (hafter:oj.after=#[]) (hguard:oj.guard=none) (hsd:os.dst=none) (hsg:os.guard=none)
    (hdsz:d < a.tmps.size)
    (hrun:∀ (ρ:Operand->Value) (w:World),(execOp ρ oj).run P w=.ok (.value (.pointer (some ⟨w,0,none⟩))) (w.alloc (.cells zs.toArray T)))
    (hm:P.follows .mixedOrders=true) (hB:lateB .any l.toArray (m+2) m (m+1) d t=true)
    (hC:∀ w',Below w w w'->C w')
    (h:rWalk P l.toArray C (λa'=>a'.eval (.tmp t)=.agg us.toArray/\∀ w' b,Below w w w'->w.heap.size<=b->b < w'.heap.size->Box w' b us T->wpList P l.toArray Q (l.drop (m+2)) (a'.put (some d) (.pointer (some ⟨b,0,none⟩))) w') (l.take m) a)
    (hst:∀ (ρ:Operand->Value) (w:World) (b:Nat),ρ (.tmp d)=.pointer (some ⟨b,0,none⟩)->ρ (.tmp t)=.agg us.toArray->Box w b zs T->(execOp ρ os).run P w=.ok .skip (eff b w)) :
    (Code.region id l.toArray true).wp P Q a w:=by
 refine wp_region_lateG (hd:=l.take m) (m+2) m (m+1) d t heff _ hoj hos hjd hafter hguard hsd hsg hdsz hrun hm hB ?_ hC h hst;have hn:m+2 < l.length:=by
  simp only [lateB,Yf,Yh] at hB;have:=hB.1.1.1.1.1.1.1.1.1.1.1.1.2
  simpa using this
 rw [ug];apply Kh;intro j;simp only [JM,Xo];by_cases hj:j < m
 ·simp [hj,show j < l.length by omega]
 ·simp [hj]
def eff6 (c0 c1 c2 c3 c4 c5:Value) (b:Nat) (w:World):World:=(((((w.setCell ⟨b,0,none⟩ c0).setCell ⟨b,1,none⟩ c1).setCell ⟨b,2,none⟩ c2).setCell ⟨b,3,none⟩ c3).setCell ⟨b,4,none⟩ c4).setCell ⟨b,5,none⟩ c5
theorem eff6_spec {c0 c1 c2 c3 c4 c5 z:Value} {T:TypeId} (w:World) (b:Nat) (h:w.heap[b]? = some (.cells [z,z,z,z,z,z].toArray T)):(eff6 c0 c1 c2 c3 c4 c5 b w).heap[b]? = some (.cells [c0,c1,c2,c3,c4,c5].toArray T)/\(∀ B,B<=b->Below B w (eff6 c0 c1 c2 c3 c4 c5 b w)):=by
 have B0:Box w b [z,z,z,z,z,z] T:=h;exact ⟨(((((B0.set 0 c0).set 1 c1).set 2 c2).set 3 c3).set 4 c4).set 5 c5,λB hB=>((((((Below.refl B w).setCell hB _).setCell hB _).setCell hB _).setCell hB _).setCell hB _).setCell hB _⟩
theorem Zu {P:Program} {ops:Array Oper} {A:Act} {R:Act->Prop} (k:R A):∀ (L:List Oper) (b:Act) (C:World->Prop),rWalk P ops C (λa'=>a'=A) L b->rWalk P ops C R L b:=by
 intro L;induction L with
 | nil=>intro b C h;simp only [rWalk] at h ⊢;rw [h];exact k
 | cons o rest ih=>
  intro b C h;simp only [rWalk] at h ⊢;split
  ·rename_i hw
   rw [Yn hw] at h;obtain ⟨v,h1,h2⟩:=h;exact ⟨v,h1,ih _ _ h2⟩
  ·rename_i hw
   rw [Ye hw] at h;exact ih _ _ h
theorem rgl {P : Program} {id : Nat} {Q : Exit -> Act -> World -> Prop} {a A : Act} {w : World} {l r : List Oper} {c0 c1 c2 c3 c4 c5 : Value} {T : TypeId} {oj os : Oper} (m : Nat) (d t : Tmp)
    (k:∀ w' b,Below w w w'->w.heap.size<=b->b < w'.heap.size->Box w' b [c0,c1,c2,c3,c4,c5] T->wpList P l.toArray Q r (A.put (some d) (.pointer (some ⟨b,0,none⟩))) w')
    (hoj:l.toArray[m]? = some oj:=by rfl) (hos:l.toArray[m+1]? = some os:=by rfl) (hjd:oj.dst=some d:=by rfl) (hafter:oj.after=#[]:=by rfl) (hguard:oj.guard=none:=by rfl) (hsd:os.dst=none:=by rfl) (hsg:os.guard=none:=by rfl)
    (hdsz:d < a.tmps.size:=by simp)
    (hrun:∀ (ρ:Operand->Value) (w:World),(execOp ρ oj).run P w=.ok (.value (.pointer (some ⟨w,0,none⟩))) (w.alloc (.cells #[(),(),(),(),(),()] T)):=by (intro ρ W;simp [execOp,go_sem];rfl))
    (hm:P.follows .mixedOrders=true:=by kernel_rfl) (hB:lateB .any l.toArray (m+2) m (m+1) d t=true:=by as_aux_lemma=>kernel_rfl)
    (hr:l.drop (m+2)=r:=by (simp only [dP1,dP0];try rfl))
    (h:rWalk P l.toArray (λw'=>∃ p:Regrown,w'=grow (redrawn w p.d) p.os) (λa'=>a'=A) (l.take m) a:=by
     simp only [Xu,JI];repeat (first | (refine zI (Eq.refl false) ?_;simp only [Act.put,sT2,sT1,sT0]) | (refine rWalk_step (λK hK=>?_);go_simp;first | (refine hK _ ?_;clear hK K) | (apply Exists.intro;refine ⟨λ_=>?_,hK _ ?_⟩;(with_reducible exact toExt (by assumption) _);clear hK K)))
     exact rWalk_nil rfl)
    (he:A.eval (.tmp t)=.agg #[c0,c1,c2,c3,c4,c5]:=by rfl)
    (hst:∀ (ρ:Operand->Value) (w:World) (b:Nat),ρ (.tmp d)=.pointer (some ⟨b,0,none⟩)->ρ (.tmp t)=.agg #[c0,c1,c2,c3,c4,c5]->Box w b [(),(),(),(),(),()] T->(execOp ρ os).run P w=.ok .skip (eff6 c0 c1 c2 c3 c4 c5 b w):=by
     (intro ρ W b e1 e2 hB;obtain ⟨x,y,_,_⟩:=hB.f;simp [execOp,go_sem,e1,e2,x,y,eff6])):(Code.region id l.toArray true).wp P Q a w:=
 xM m d t [c0,c1,c2,c3,c4,c5] (zs:=[(),(),(),(),(),()]) (eff:=eff6 c0 c1 c2 c3 c4 c5) eff6_spec hoj hos hjd hafter hguard hsd hsg hdsz hrun hm hB rgB
  (Zu (A:=A) ⟨he,λw' b h1 h2 h3 h4=>by rw [hr];exact k w' b h1 h2 h3 h4⟩ _ _ _ h) hst
attribute [local go_sem] rOper rAt rUpon cell_set sg_i64 sg_u64 alloc_cell alloc_frozen
attribute [local go_sem 10000] pt_eql pt_neq tri_eql
attribute [local irreducible] rWalk
section
theorem uH (T:Tri3) (i:Int) (w:World):Calls prog 48 #[T,i] w (Rt w (.tuple #[.agg #[.int .i64 (crn T i).x,.int .i64 (crn T i).y],.agg #[.int .i64 (crn T (i+1)).x,.int .i64 (crn T (i+1)).y]])):=by
 have cp:=k7 i;have d1:=qV T (plc i);have d2:=qV T (plc i+1);rw [crn_plc] at d1;rw [crn_next] at d2;have hk:=jH i;have hq:wrap64 (plc i+1)=plc i+1:=by rw [w64];omega
 have hq2:IntKind.i64.wrap (plc i+1)=plc i+1:=by rw [IntKind.wrap_i64];omega
 generalize crn T i=P at *
 generalize crn T (i+1)=Q at *
 generalize plc i=k at *
 clear hk
 go_enter func48,ntmps48
 go_wp2_with fail;refine qE3 λW1 Bt Br Bq hw=>?_;refine qK3 (cp _) Bt Br Bq hw λw2 Bt Br Bq hw=>?_;have Ft:=Bt.f;have Fr:=Br.f;have Fq:=Bq.f;go_wp2_with fail;refine z7 λW9 hW=>?_;subst hW;clear Ft Fr Fq;have K4:=J3 Bt.cells Br.cells Bq.cells;refine rgn 7 (λw3 hb=>?_);clear K4;obtain ⟨Bt,Br,Bq,hw,-⟩:=qX3 Bt Br Bq hw hb;have Ft:=Bt.f;have Fr:=Br.f;have Fq:=Bq.f;go_wp2_with fail;refine bodyPost_ret (v:=.tuple #[P,Q]) (by simp [results,results48,go_sem,Fr,Fq]) rfl ⟨rfl,by have hl:=hw.size;go_grown⟩
def mn3 (x y z:Int):Int:=if z < (if y < x then y else x) then z else (if y < x then y else x)
theorem run_mn3 {P:Program} (w:World) (ts:Array TypeId) (t:TypeId) (k k' k'':IntKind) (x y z:Int):(Builtin.min_ ts t #[.int k x,.int k' y,.int k'' z]).run P w=.ok (.int k (mn3 x y z)) w:=run_min_int3 w ts t k k' k'' x y z
attribute [local go_sem 10000] run_mn3
def sde (T:Tri3) (p:Pt):Int:=mn3 (ori T.A T.B p) (ori T.B T.C p) (ori T.C T.A p)
theorem side_any (T:Tri3) (p:Pt) (w:World):Calls prog 97 #[T,p] w (Rt w (.int .i64 (sde T p))):=by
 unfold sde;have d1:=zF T.A T.B p;have d2:=zF T.B T.C p;have d3:=zF T.C T.A p;generalize ori T.A T.B p=m at *
 generalize ori T.B T.C p=n at *
 generalize ori T.C T.A p=o at *
 go_enter func97,ntmps97
 go_wp2_with fail;refine qD2 λW1 Bt Bp hw=>?_;have K5:=J2 Bt.cells Bp.cells;refine rgn 18 (λw2 hb=>?_);clear K5;obtain ⟨Bt,Bp,hw,F9⟩:=qX2 Bt Bp hw hb;go_wp2
 go_ret
 exact ⟨zW rfl,by have hl:=hw.size;go_grown⟩
def hasS (T:Tri3) (p:Pt):Bool:=valT T && (vld p && decide (0<=sde T p))
theorem has_0 (T:Tri3) (p:Pt) (h0:valT T=false) (w:World):Calls prog 47 #[T,p] w (Rt w (.bool false)):=by
 have c1:=zq T;rw [h0] at c1;clear h0
 go_enter func47,ntmps47
 go_wp2_with fail;refine qE2 λW1 Bt Bp hw=>?_;refine qC2 (c1 _) Bt Bp hw λw2 Bt Bp hw F9=>?_;go_wp2
 go_ret
 exact ⟨rfl,by have hl:=hw.size;go_grown⟩
theorem has_1 (T:Tri3) (p:Pt) (h0:valT T=true) (h1:vld p=false) (w:World):Calls prog 47 #[T,p] w (Rt w (.bool false)):=by
 have c1:=zq T;rw [h0] at c1;clear h0;have c2:=z6 p;rw [h1] at c2;clear h1
 go_enter func47,ntmps47
 go_wp2_with fail;refine qE2 λW1 Bt Bp hw=>?_;refine qC2 (c1 _) Bt Bp hw λw2 Bt Bp hw F9=>?_;go_wp2_with fail;clear F9;refine qC2 (c2 _) Bt Bp hw λw3 Bt Bp hw F9=>?_;go_wp2
 go_ret
 exact ⟨rfl,by have hl:=hw.size;go_grown⟩
theorem has_2 (T:Tri3) (p:Pt) (h0:valT T=true) (h1:vld p=true) (w:World):Calls prog 47 #[T,p] w (Rt w (.bool (decide (0<=sde T p)))):=by
 have c1:=zq T;rw [h0] at c1;clear h0;have c2:=z6 p;rw [h1] at c2;clear h1;have c3:=side_any T p;generalize sde T p=n at *
 go_enter func47,ntmps47
 go_wp2_with fail;refine qE2 λW1 Bt Bp hw=>?_;refine qC2 (c1 _) Bt Bp hw λw2 Bt Bp hw F9=>?_;go_wp2_with fail;clear F9;refine qC2 (c2 _) Bt Bp hw λw3 Bt Bp hw F9=>?_;go_wp2_with fail;clear F9;refine qC2 (c3 _) Bt Bp hw λw4 Bt Bp hw F9=>?_;go_wp2
 go_ret
 exact ⟨rfl,by have hl:=hw.size;go_grown⟩
theorem ut (T:Tri3) (p:Pt) (w:World):Calls prog 47 #[T,p] w (Rt w (.bool (hasS T p))):=by
 unfold hasS;cases h0:valT T with
 | false=>exact has_0 T p h0 w
 | true=>cases h1:vld p with
  | false=>exact has_1 T p h0 h1 w
  | true=>exact has_2 T p h0 h1 w
def insP (T:Tri3) (p:Pt):Bool:=valT T && (decide (0 < ori T.A T.B p) && (decide (0 < ori T.B T.C p) && decide (0 < ori T.C T.A p)))
theorem rins_0 (T:Tri3) (p:Pt) (h0:valT T=false) (w:World):Calls prog 34 #[T,p] w (Rt w (.bool false)):=by
 have c1:=yA T;rw [h0] at c1;clear h0
 go_enter func34,ntmps34
 go_wp2_with fail;refine qE2 λW1 Bt Bp hw=>?_;refine qC2 (c1 _) Bt Bp hw λw2 Bt Bp hw F9=>?_;go_wp2
 go_ret
 exact ⟨rfl,by have hl:=hw.size;go_grown⟩
theorem rins_1 (T:Tri3) (p:Pt) (h0:valT T=true) (g0:decide (0 < ori T.A T.B p)=false) (w:World):Calls prog 34 #[T,p] w (Rt w (.bool false)):=by
 have c1:=yA T;rw [h0] at c1;clear h0;have c2:=zH T.A T.B p;generalize ori T.A T.B p=m0 at *
 go_enter func34,ntmps34
 go_wp2_with fail;refine qE2 λW1 Bt Bp hw=>?_;refine qC2 (c1 _) Bt Bp hw λw2 Bt Bp hw F9=>?_;go_wp2_with fail;clear F9;refine qC2 (c2 _) Bt Bp hw λw3 Bt Bp hw F9=>?_;go_wp2
 go_ret
 exact ⟨rfl,by have hl:=hw.size;go_grown⟩
theorem rins_2 (T:Tri3) (p:Pt) (h0:valT T=true) (g0:decide (0 < ori T.A T.B p)=true) (g1:decide (0 < ori T.B T.C p)=false) (w:World):Calls prog 34 #[T,p] w (Rt w (.bool false)):=by
 have c1:=yA T;rw [h0] at c1;clear h0;have c2:=zH T.A T.B p;have c3:=zH T.B T.C p;generalize ori T.A T.B p=m0 at *
 generalize ori T.B T.C p=m1 at *
 go_enter func34,ntmps34
 go_wp2_with fail;refine qE2 λW1 Bt Bp hw=>?_;refine qC2 (c1 _) Bt Bp hw λw2 Bt Bp hw F9=>?_;go_wp2_with fail;clear F9;refine qC2 (c2 _) Bt Bp hw λw3 Bt Bp hw F9=>?_;go_wp2_with fail;clear F9;refine qC2 (c3 _) Bt Bp hw λw4 Bt Bp hw F9=>?_;go_wp2
 go_ret
 exact ⟨rfl,by have hl:=hw.size;go_grown⟩
theorem rins_3 (T:Tri3) (p:Pt) (h0:valT T=true) (g0:decide (0 < ori T.A T.B p)=true) (g1:decide (0 < ori T.B T.C p)=true) (w:World):Calls prog 34 #[T,p] w (Rt w (.bool (decide (0 < ori T.C T.A p)))):=by
 have c1:=yA T;rw [h0] at c1;clear h0;have c2:=zH T.A T.B p;have c3:=zH T.B T.C p;have c4:=zH T.C T.A p;generalize ori T.A T.B p=m0 at *
 generalize ori T.B T.C p=m1 at *
 generalize ori T.C T.A p=m2 at *
 go_enter func34,ntmps34
 go_wp2_with fail;refine qE2 λW1 Bt Bp hw=>?_;refine qC2 (c1 _) Bt Bp hw λw2 Bt Bp hw F9=>?_;go_wp2_with fail;clear F9;refine qC2 (c2 _) Bt Bp hw λw3 Bt Bp hw F9=>?_;go_wp2_with fail;clear F9;refine qC2 (c3 _) Bt Bp hw λw4 Bt Bp hw F9=>?_;go_wp2_with fail;clear F9;refine qC2 (c4 _) Bt Bp hw λw5 Bt Bp hw F9=>?_;go_wp2
 go_ret
 exact ⟨rfl,by have hl:=hw.size;go_grown⟩
theorem tq (T:Tri3) (p:Pt) (w:World):Calls prog 34 #[T,p] w (Rt w (.bool (insP T p))):=by
 unfold insP;cases h0:valT T with
 | false=>exact rins_0 T p h0 w
 | true=>cases g0:decide (0 < ori T.A T.B p) with
  | false=>exact rins_1 T p h0 g0 w
  | true=>cases g1:decide (0 < ori T.B T.C p) with
   | false=>exact rins_2 T p h0 g0 g1 w
   | true=>exact rins_3 T p h0 g0 g1 w
theorem mn3_le {x y z:Int}:(0<=mn3 x y z↔0<=x/\0<=y/\0<=z)/\(0 < mn3 x y z↔0 < x/\0 < y/\0 < z):=by unfold mn3;(repeat' split) <;> omega
theorem Zq (T:Tri3) (p:Pt):hasS T p=hasP T p:=by
 unfold hasS hasP sde;rw [Xv];simp only [Yf,Yh,mn3_le.1]
end
section
theorem tri_neq (s u:Tri3) (w:World):(binOp .neq 28 (.agg #[s.A.x,s.A.y,s.B.x,s.B.y,s.C.x,s.C.y]) (.agg #[u.A.x,u.A.y,u.B.x,u.B.y,u.C.x,u.C.y])).run prog w=.ok (.bool (!teq s u)) w:=by
 unfold teq peqI;by_cases h1:s.A.x=u.A.x
 case neg=>simp [go_sem,h1]
 case pos=>
 by_cases h2:s.A.y=u.A.y
 case neg=>simp [go_sem,h1,h2]
 case pos=>
 by_cases h3:s.B.x=u.B.x
 case neg=>simp [go_sem,h1,h2,h3]
 case pos=>
 by_cases h4:s.B.y=u.B.y
 case neg=>simp [go_sem,h1,h2,h3,h4]
 case pos=>
 by_cases h5:s.C.x=u.C.x
 case neg=>simp [go_sem,h1,h2,h3,h4,h5]
 case pos=>
 by_cases h6:s.C.y=u.C.y
 ·simp [go_sem,h1,h2,h3,h4,h5,h6]
 ·simp [go_sem,h1,h2,h3,h4,h5,h6]
attribute [local go_sem 10000] tri_neq
theorem qs {p q:Pt}:peqI p.x p.y q.x q.y=true↔p=q:=yZ.trans Pt.eq_iff.symm
end
theorem zl (w:World):(zeroValue 28).run prog w=.ok (.agg #[(),(),(),(),(),()]) w:=by kernel_rfl
theorem HoldsMap.look_some {P:Program} {k e t:TypeId} {eK:Pt×Pt->Value} {ok:Pt×Pt->Prop} {w:World} {b:Nat} {E:List ((Pt×Pt)×Tri3)} (h:HoldsMap eK eT ok w b E) (V:KV P k e t eK ok) {z:Value} (hz:∀ w,(zeroValue e).run P w=.ok z w) {x:Pt×Pt} (hx:ok x) {v:Tri3} (hg:getE E x=some v):(Instr.lookup t (.map (some b)) (eK x) true).run P w=.ok (.tuple #[eT v,.bool true]) w:=by
 rw [h.look V (hz w) hx,hg]
theorem HoldsMap.look_none {P:Program} {k e t:TypeId} {eK:Pt×Pt->Value} {ok:Pt×Pt->Prop} {w:World} {b:Nat} {E:List ((Pt×Pt)×Tri3)} (h:HoldsMap eK eT ok w b E) (V:KV P k e t eK ok) {z:Value} (hz:∀ w,(zeroValue e).run P w=.ok z w) {x:Pt×Pt} (hx:ok x) (hg:getE E x=none):(Instr.lookup t (.map (some b)) (eK x) true).run P w=.ok (.tuple #[z,.bool false]) w:=by
 rw [h.look V (hz w) hx,hg]
def lftE (E:List ((Pt×Pt)×Tri3)) (p q:Pt):Tri3×Bool:=match getE E (p,q) with | some t=>(t,true) | none=>(⟨⟨0,0⟩,⟨0,0⟩,⟨0,0⟩⟩,false)
theorem zw {E:List ((Pt×Pt)×Tri3)} {p q:Pt} {t:Tri3} (h:getE E (p,q)=some t):lftE E p q=(t,true):=by unfold lftE;rw [h]
theorem yk {E:List ((Pt×Pt)×Tri3)} {p q:Pt} (h:getE E (p,q)=none):lftE E p q=(⟨⟨0,0⟩,⟨0,0⟩,⟨0,0⟩⟩,false):=by unfold lftE;rw [h]
theorem tc (T:Tri3) (i:Int) (w:World):Calls prog 118 #[T,i] w (Rt w (.agg #[.int .i64 (crn T i).x,.int .i64 (crn T i).y,.int .i64 (crn T (i+1)).x,.int .i64 (crn T (i+1)).y])):=by
 have ce:=uH T i;generalize crn T i=P at *
 generalize crn T (i+1)=Q at *
 go_enter func118,ntmps118
 go_wp2_with fail;refine qE2 λW1 Bt Br hw=>?_;refine qK2 (ce _) Bt Br hw λw2 Bt Br hw=>?_;obtain ⟨xt,yt,zt,vt⟩:=Bt.f;obtain ⟨xr,yr,zr,vr⟩:=Br.f;go_wp2_with fail;refine bodyPost_ret (v:=.agg #[P.x,P.y,Q.x,Q.y]) (by simp [results,results118,go_sem,xr,zr,zt]) rfl ⟨rfl,by have hl:=hw.size;go_grown⟩
theorem uC (mb b:Nat) (E:List ((Pt×Pt)×Tri3)) (p q:Pt) (T:Tri3) (hg:getE E (p,q)=some T) (hk:okW (p,q)) (w:World) (Bm:Box w mb [.map (some b)] 102) (Hm:Hs w b E):Calls prog 67 #[pt0 mb,p,q] w (Rt w (.tuple #[T,.bool true])):=by
 go_enter func67,ntmps67
 go_wp2_with fail;refine qD3 λW1 Bp Bq Br hw=>?_;have BM:Box W1 (mb) [.map (some b)] 102:=Bm.ee hw;have hl:∀ d os,(Instr.lookup 100 (.map (some b)) (.agg #[p.x,p.y,q.x,q.y]) true).run prog (grow (redrawn W1 d) os)=.ok (.tuple #[T,.bool true]) (grow (redrawn W1 d) os):=λd os=>((Hm.ee hw).ext (below_regrown W1 d os) rfl).look_some kvM zl hk hg;clear hg;have G7:=J4 Bp.cells Bq.cells Br.cells BM.cells;refine rgl 11 8 22 (λw2 bks hb h1b h2b Bs=>?_);have lps:=Bp.lt;have lqs:=Bq.lt;have lrs:=Br.lt;have lMs:=BM.lt;have hw0z:=hw.size;clear G7;obtain ⟨Bp,Bq,Br,BM,hw,-⟩:=qX4 Bp Bq Br BM hw hb;have fs:=h1b;have hwz:w.heap.size<=W1.heap.size:=hw0z;clear hb h1b h2b hw0z;simp only [Act.put];clear hl;have Fp:=Bp.f;have Fq:=Bq.f;have Fr:=Br.f;have FM:=BM.f;have Fs:=Bs.f;go_wp2_with fail;refine bodyPost_ret (v:=.tuple #[T,.bool true]) (by simp [results,results67,go_sem,Fr]) rfl ⟨rfl,by have hl:=hw.size;go_grown⟩
theorem Zo (mb b:Nat) (E:List ((Pt×Pt)×Tri3)) (p q:Pt) (hg:getE E (p,q)=none) (hk:okW (p,q)) (w:World) (Bm:Box w mb [.map (some b)] 102) (Hm:Hs w b E):Calls prog 67 #[pt0 mb,p,q] w (Rt w (.tuple #[.agg #[(),(),(),(),(),()],.bool false])):=by
 go_enter func67,ntmps67
 go_wp2_with fail;refine qD3 λW1 Bp Bq Br hw=>?_;have BM:Box W1 (mb) [.map (some b)] 102:=Bm.ee hw;have hl:∀ d os,(Instr.lookup 100 (.map (some b)) (.agg #[p.x,p.y,q.x,q.y]) true).run prog (grow (redrawn W1 d) os)=.ok (.tuple #[.agg #[(),(),(),(),(),()],.bool false]) (grow (redrawn W1 d) os):=λd os=>((Hm.ee hw).ext (below_regrown W1 d os) rfl).look_none kvM zl hk hg;clear hg;have G7:=J4 Bp.cells Bq.cells Br.cells BM.cells;refine rgl 11 8 22 (λw2 bks hb h1b h2b Bs=>?_);have lps:=Bp.lt;have lqs:=Bq.lt;have lrs:=Br.lt;have lMs:=BM.lt;have hw0z:=hw.size;clear G7;obtain ⟨Bp,Bq,Br,BM,hw,-⟩:=qX4 Bp Bq Br BM hw hb;have fs:=h1b;have hwz:w.heap.size<=W1.heap.size:=hw0z;clear hb h1b h2b hw0z;simp only [Act.put];clear hl;have Fp:=Bp.f;have Fq:=Bq.f;have Fr:=Br.f;have FM:=BM.f;have Fs:=Bs.f;go_wp2_with fail;refine bodyPost_ret (v:=.tuple #[.agg #[(),(),(),(),(),()],.bool false]) (by simp [results,results67,go_sem,Fr]) rfl ⟨rfl,by have hl:=hw.size;go_grown⟩
theorem xV (mb b:Nat) (E:List ((Pt×Pt)×Tri3)) (p q:Pt) (hk:okW (p,q)) (w:World) (Bm:Box w mb [.map (some b)] 102) (Hm:Hs w b E):Calls prog 67 #[pt0 mb,p,q] w (Rt w (.tuple #[eT (lftE E p q).1,.bool (lftE E p q).2])):=by
 cases h:getE E (p,q) with
 | none=>rw [yk h];exact Zo mb b E p q h hk w Bm Hm
 | some t=>rw [zw h];exact uC mb b E p q t h hk w Bm Hm
def hasE (E:List ((Pt×Pt)×Tri3)) (T:Tri3):Bool:=match getE E (T.A,T.B) with | some s=>teq s T | none=>false
def fitsE (E:List ((Pt×Pt)×Tri3)) (T:Tri3):Bool:=(getE E (T.A,T.B)).isNone && ((getE E (T.B,T.C)).isNone && ((getE E (T.C,T.A)).isNone && valT T))
theorem okT_w {T:Tri3} (h:okT T):okW (T.A,T.B)/\okW (T.B,T.C)/\okW (T.C,T.A):=⟨⟨h.1,h.2.1⟩,⟨h.2.1,h.2.2⟩,⟨h.2.2,h.1⟩⟩
theorem way_0 (T:Tri3) (w:World):Calls prog 118 #[T,()] w (Rt w (.agg #[T.A.x,T.A.y,T.B.x,T.B.y])):=tc T 0 w
theorem way_1 (T:Tri3) (w:World):Calls prog 118 #[T,.int .i64 1] w (Rt w (.agg #[T.B.x,T.B.y,T.C.x,T.C.y])):=tc T 1 w
theorem way_2 (T:Tri3) (w:World):Calls prog 118 #[T,.int .i64 2] w (Rt w (.agg #[T.C.x,T.C.y,T.A.x,T.A.y])):=tc T 2 w
theorem mhas_1 (mb b:Nat) (E:List ((Pt×Pt)×Tri3)) (T:Tri3) (S:Tri3) (hg:getE E (T.A,T.B)=some S) (hk:okT T) (w:World) (Bm:Box w mb [.map (some b)] 102) (Hm:Hs w b E):Calls prog 29 #[pt0 mb,T] w (Rt w (.bool (teq S T))):=by
 go_enter func29,ntmps29
 go_wp2_with fail;refine qE1 λW1 Bt hw=>?_;refine qK1 (uC mb b E T.A T.B S hg (okT_w hk).1 _ (Bm.ee hw) (Hm.ee hw)) Bt hw λw2 Bt hw=>?_;clear hg hk;have Ft:=Bt.f;go_wp2
 go_ret
 exact ⟨rfl,by have hl:=hw.size;go_grown⟩
theorem mhas_0 (mb b:Nat) (E:List ((Pt×Pt)×Tri3)) (T:Tri3) (hg:getE E (T.A,T.B)=none) (hk:okT T) (w:World) (Bm:Box w mb [.map (some b)] 102) (Hm:Hs w b E):Calls prog 29 #[pt0 mb,T] w (Rt w (.bool false)):=by
 go_enter func29,ntmps29
 go_wp2_with fail;refine qE1 λW1 Bt hw=>?_;refine qK1 (Zo mb b E T.A T.B hg (okT_w hk).1 _ (Bm.ee hw) (Hm.ee hw)) Bt hw λw2 Bt hw=>?_;clear hg hk;have Ft:=Bt.f;go_wp2
 go_ret
 exact ⟨rfl,by have hl:=hw.size;go_grown⟩
theorem Z6 (mb b:Nat) (E:List ((Pt×Pt)×Tri3)) (T:Tri3) (hk:okT T) (w:World) (Bm:Box w mb [.map (some b)] 102) (Hm:Hs w b E):Calls prog 29 #[pt0 mb,T] w (Rt w (.bool (hasE E T))):=by
 cases h:getE E (T.A,T.B) with
 | none=>rw [show hasE E T=false by unfold hasE;rw [h]];exact mhas_0 mb b E T h hk w Bm Hm
 | some S=>rw [show hasE E T=teq S T by unfold hasE;rw [h]];exact mhas_1 mb b E T S h hk w Bm Hm
theorem fits_0 (mb b:Nat) (E:List ((Pt×Pt)×Tri3)) (T:Tri3) (S:Tri3) (hg0:getE E (T.A,T.B)=some S) (hk:okT T) (w:World) (Bm:Box w mb [.map (some b)] 102) (Hm:Hs w b E):Calls prog 117 #[pt0 mb,T] w (Rt w (.bool false)):=by
 go_enter func117,ntmps117
 go_wp2_with fail;refine qD1 λW1 Bt hw=>?_;have BM:Box W1 (mb) [.map (some b)] 102:=Bm.ee hw;refine wp_loop_rounds 5 ?_;try rw [rounds_succ]
 have Ft:=Bt.f;have FM:=BM.f;go_wp2_with fail;have hl:∀ d os,(Instr.lookup 100 (.map (some b)) (.agg #[T.A.x,T.A.y,T.B.x,T.B.y]) true).run prog (grow (redrawn W1 d) os)=.ok (.tuple #[S,.bool true]) (grow (redrawn W1 d) os):=λd os=>((Hm.ee hw).ext (below_regrown W1 d os) rfl).look_some kvM zl (okT_w hk).1 hg0;clear hg0;have K6:=J2 Bt.cells BM.cells;have cz0:=way_0 T;refine rgl 11 6 20 (λw2 bks0 hb h1b h2b Bs0=>?_);clear cz0;have lts0:=Bt.lt;have lMs0:=BM.lt;have hw0z:=hw.size;clear K6;clear Ft FM;obtain ⟨Bt,BM,hw,-⟩:=qX2 Bt BM hw hb;have fs0:=h1b;have hwz:w.heap.size<=W1.heap.size:=hw0z;clear hb h1b h2b hw0z;simp only [Act.put];clear hl;have Ft:=Bt.f;have FM:=BM.f;have Fs0:=Bs0.f;go_wp2
 go_ret
 exact ⟨rfl,hw⟩
theorem fits_1 (mb b:Nat) (E:List ((Pt×Pt)×Tri3)) (T:Tri3) (S:Tri3) (hg0:getE E (T.A,T.B)=none) (hg1:getE E (T.B,T.C)=some S) (hk:okT T) (w:World) (Bm:Box w mb [.map (some b)] 102) (Hm:Hs w b E):Calls prog 117 #[pt0 mb,T] w (Rt w (.bool false)):=by
 go_enter func117,ntmps117
 go_wp2_with fail;refine qD1 λW1 Bt hw=>?_;have BM:Box W1 (mb) [.map (some b)] 102:=Bm.ee hw;refine wp_loop_rounds 5 ?_;try rw [rounds_succ]
 have Ft:=Bt.f;have FM:=BM.f;go_wp2_with fail;have hl:∀ d os,(Instr.lookup 100 (.map (some b)) (.agg #[T.A.x,T.A.y,T.B.x,T.B.y]) true).run prog (grow (redrawn W1 d) os)=.ok (.tuple #[.agg #[(),(),(),(),(),()],.bool false]) (grow (redrawn W1 d) os):=λd os=>((Hm.ee hw).ext (below_regrown W1 d os) rfl).look_none kvM zl (okT_w hk).1 hg0;clear hg0;have gt:=Bt.cells;have gM:=BM.cells;have cz0:=way_0 T;refine rgl 11 6 20 (λw2 bks0 hb h1b h2b Bs0=>?_);clear cz0;have lts0:=Bt.lt;have lMs0:=BM.lt;have hw0z:=hw.size;clear gt gM;clear Ft FM;obtain ⟨Bt,BM,hw,-⟩:=qX2 Bt BM hw hb;have fs0:=h1b;have hwz:w.heap.size<=W1.heap.size:=hw0z;clear hb h1b h2b hw0z;simp only [Act.put];clear hl;have GU:=J3 Bt.f BM.f Bs0.f;go_wp2_with fail;clear GU;try rw [rounds_succ]
 have Ft:=Bt.f;have FM:=BM.f;have Fs0:=Bs0.f;go_wp2_with fail;refine z7 λW3 hW=>?_;subst hW;clear Ft FM Fs0;have hl:∀ d os,(Instr.lookup 100 (.map (some b)) (.agg #[T.B.x,T.B.y,T.C.x,T.C.y]) true).run prog (grow (redrawn W3 d) os)=.ok (.tuple #[S,.bool true]) (grow (redrawn W3 d) os):=λd os=>((Hm.ee hw).ext (below_regrown W3 d os) rfl).look_some kvM zl (okT_w hk).2.1 hg1;clear hg1;have gt:=Bt.cells;have gM:=BM.cells;have gs0:=Bs0.cells;have cz0:=way_1 T;refine rgl 11 6 20 (λw4 bks1 hb h1b h2b Bs1=>?_);clear cz0;have lts1:=Bt.lt;have lMs1:=BM.lt;have ls0s1:=Bs0.lt;have hw0z:=hw.size;clear gt gM gs0;obtain ⟨Bt,BM,Bs0,hw,-⟩:=qX3 Bt BM Bs0 hw hb;have fs1:=h1b;have hwz:w.heap.size<=W3.heap.size:=hw0z;clear hb h1b h2b hw0z;simp only [Act.put];clear hl;have Ft:=Bt.f;have FM:=BM.f;have Fs0:=Bs0.f;have Fs1:=Bs1.f;go_wp2
 go_ret
 exact ⟨rfl,hw⟩
theorem fits_2 (mb b:Nat) (E:List ((Pt×Pt)×Tri3)) (T:Tri3) (S:Tri3) (hg0:getE E (T.A,T.B)=none) (hg1:getE E (T.B,T.C)=none) (hg2:getE E (T.C,T.A)=some S) (hk:okT T) (w:World) (Bm:Box w mb [.map (some b)] 102) (Hm:Hs w b E):Calls prog 117 #[pt0 mb,T] w (Rt w (.bool false)):=by
 go_enter func117,ntmps117
 go_wp2_with fail;refine qD1 λW1 Bt hw=>?_;have BM:Box W1 (mb) [.map (some b)] 102:=Bm.ee hw;refine wp_loop_rounds 5 ?_;try rw [rounds_succ]
 have Ft:=Bt.f;have FM:=BM.f;go_wp2_with fail;have hl:∀ d os,(Instr.lookup 100 (.map (some b)) (.agg #[T.A.x,T.A.y,T.B.x,T.B.y]) true).run prog (grow (redrawn W1 d) os)=.ok (.tuple #[.agg #[(),(),(),(),(),()],.bool false]) (grow (redrawn W1 d) os):=λd os=>((Hm.ee hw).ext (below_regrown W1 d os) rfl).look_none kvM zl (okT_w hk).1 hg0;clear hg0;have gt:=Bt.cells;have gM:=BM.cells;have cz0:=way_0 T;refine rgl 11 6 20 (λw2 bks0 hb h1b h2b Bs0=>?_);clear cz0;have lts0:=Bt.lt;have lMs0:=BM.lt;have hw0z:=hw.size;clear gt gM;clear Ft FM;obtain ⟨Bt,BM,hw,-⟩:=qX2 Bt BM hw hb;have fs0:=h1b;have hwz:w.heap.size<=W1.heap.size:=hw0z;clear hb h1b h2b hw0z;simp only [Act.put];clear hl;have GU:=J3 Bt.f BM.f Bs0.f;go_wp2_with fail;clear GU;try rw [rounds_succ]
 have Ft:=Bt.f;have FM:=BM.f;have Fs0:=Bs0.f;go_wp2_with fail;refine z7 λW3 hW=>?_;subst hW;clear Ft FM Fs0;have hl:∀ d os,(Instr.lookup 100 (.map (some b)) (.agg #[T.B.x,T.B.y,T.C.x,T.C.y]) true).run prog (grow (redrawn W3 d) os)=.ok (.tuple #[.agg #[(),(),(),(),(),()],.bool false]) (grow (redrawn W3 d) os):=λd os=>((Hm.ee hw).ext (below_regrown W3 d os) rfl).look_none kvM zl (okT_w hk).2.1 hg1;clear hg1;have gt:=Bt.cells;have gM:=BM.cells;have gs0:=Bs0.cells;have cz0:=way_1 T;refine rgl 11 6 20 (λw4 bks1 hb h1b h2b Bs1=>?_);clear cz0;have lts1:=Bt.lt;have lMs1:=BM.lt;have ls0s1:=Bs0.lt;have hw0z:=hw.size;clear gt gM gs0;obtain ⟨Bt,BM,Bs0,hw,-⟩:=qX3 Bt BM Bs0 hw hb;have fs1:=h1b;have hwz:w.heap.size<=W3.heap.size:=hw0z;clear hb h1b h2b hw0z;simp only [Act.put];clear hl;have Kx:=J4 Bt.f BM.f Bs0.f Bs1.f;go_wp2_with fail;clear Kx;try rw [rounds_succ]
 have Ft:=Bt.f;have FM:=BM.f;have Fs0:=Bs0.f;have Fs1:=Bs1.f;go_wp2_with fail;refine z7 λW5 hW=>?_;subst hW;clear Ft FM Fs0 Fs1;have hl:∀ d os,(Instr.lookup 100 (.map (some b)) (.agg #[T.C.x,T.C.y,T.A.x,T.A.y]) true).run prog (grow (redrawn W5 d) os)=.ok (.tuple #[S,.bool true]) (grow (redrawn W5 d) os):=λd os=>((Hm.ee hw).ext (below_regrown W5 d os) rfl).look_some kvM zl (okT_w hk).2.2 hg2;clear hg2;have gt:=Bt.cells;have gM:=BM.cells;have gs0:=Bs0.cells;have gs1:=Bs1.cells;have cz0:=way_2 T;refine rgl 11 6 20 (λw6 bks2 hb h1b h2b Bs2=>?_);clear cz0;have lts2:=Bt.lt;have lMs2:=BM.lt;have ls0s2:=Bs0.lt;have ls1s2:=Bs1.lt;have hw0z:=hw.size;clear gt gM gs0 gs1;obtain ⟨Bt,BM,Bs0,Bs1,hw,-⟩:=qX4 Bt BM Bs0 Bs1 hw hb;have fs2:=h1b;have hwz:w.heap.size<=W5.heap.size:=hw0z;clear hb h1b h2b hw0z;simp only [Act.put];clear hl;have Ft:=Bt.f;have FM:=BM.f;have Fs0:=Bs0.f;have Fs1:=Bs1.f;have Fs2:=Bs2.f;go_wp2
 go_ret
 exact ⟨rfl,hw⟩
theorem fits_3 (mb b:Nat) (E:List ((Pt×Pt)×Tri3)) (T:Tri3) (hg0:getE E (T.A,T.B)=none) (hg1:getE E (T.B,T.C)=none) (hg2:getE E (T.C,T.A)=none) (hk:okT T) (w:World) (Bm:Box w mb [.map (some b)] 102) (Hm:Hs w b E):Calls prog 117 #[pt0 mb,T] w (Rt w (.bool (valT T))):=by
 have cv:=zq T;generalize valT T=v at *
 go_enter func117,ntmps117
 go_wp2_with fail;refine qD1 λW1 Bt hw=>?_;have BM:Box W1 (mb) [.map (some b)] 102:=Bm.ee hw;refine wp_loop_rounds 5 ?_;try rw [rounds_succ]
 have Ft:=Bt.f;have FM:=BM.f;go_wp2_with fail;have hl:∀ d os,(Instr.lookup 100 (.map (some b)) (.agg #[T.A.x,T.A.y,T.B.x,T.B.y]) true).run prog (grow (redrawn W1 d) os)=.ok (.tuple #[.agg #[(),(),(),(),(),()],.bool false]) (grow (redrawn W1 d) os):=λd os=>((Hm.ee hw).ext (below_regrown W1 d os) rfl).look_none kvM zl (okT_w hk).1 hg0;clear hg0;have gt:=Bt.cells;have gM:=BM.cells;have cz0:=way_0 T;refine rgl 11 6 20 (λw2 bks0 hb h1b h2b Bs0=>?_);clear cz0;have lts0:=Bt.lt;have lMs0:=BM.lt;have hw0z:=hw.size;clear gt gM;clear Ft FM;obtain ⟨Bt,BM,hw,-⟩:=qX2 Bt BM hw hb;have fs0:=h1b;have hwz:w.heap.size<=W1.heap.size:=hw0z;clear hb h1b h2b hw0z;simp only [Act.put];clear hl;have GU:=J3 Bt.f BM.f Bs0.f;go_wp2_with fail;clear GU;try rw [rounds_succ]
 have Ft:=Bt.f;have FM:=BM.f;have Fs0:=Bs0.f;go_wp2_with fail;refine z7 λW3 hW=>?_;subst hW;clear Ft FM Fs0;have hl:∀ d os,(Instr.lookup 100 (.map (some b)) (.agg #[T.B.x,T.B.y,T.C.x,T.C.y]) true).run prog (grow (redrawn W3 d) os)=.ok (.tuple #[.agg #[(),(),(),(),(),()],.bool false]) (grow (redrawn W3 d) os):=λd os=>((Hm.ee hw).ext (below_regrown W3 d os) rfl).look_none kvM zl (okT_w hk).2.1 hg1;clear hg1;have gt:=Bt.cells;have gM:=BM.cells;have gs0:=Bs0.cells;have cz0:=way_1 T;refine rgl 11 6 20 (λw4 bks1 hb h1b h2b Bs1=>?_);clear cz0;have lts1:=Bt.lt;have lMs1:=BM.lt;have ls0s1:=Bs0.lt;have hw0z:=hw.size;clear gt gM gs0;obtain ⟨Bt,BM,Bs0,hw,-⟩:=qX3 Bt BM Bs0 hw hb;have fs1:=h1b;have hwz:w.heap.size<=W3.heap.size:=hw0z;clear hb h1b h2b hw0z;simp only [Act.put];clear hl;have Kx:=J4 Bt.f BM.f Bs0.f Bs1.f;go_wp2_with fail;clear Kx;try rw [rounds_succ]
 have Ft:=Bt.f;have FM:=BM.f;have Fs0:=Bs0.f;have Fs1:=Bs1.f;go_wp2_with fail;refine z7 λW5 hW=>?_;subst hW;clear Ft FM Fs0 Fs1;have hl:∀ d os,(Instr.lookup 100 (.map (some b)) (.agg #[T.C.x,T.C.y,T.A.x,T.A.y]) true).run prog (grow (redrawn W5 d) os)=.ok (.tuple #[.agg #[(),(),(),(),(),()],.bool false]) (grow (redrawn W5 d) os):=λd os=>((Hm.ee hw).ext (below_regrown W5 d os) rfl).look_none kvM zl (okT_w hk).2.2 hg2;clear hg2;have gt:=Bt.cells;have gM:=BM.cells;have gs0:=Bs0.cells;have gs1:=Bs1.cells;have cz0:=way_2 T;refine rgl 11 6 20 (λw6 bks2 hb h1b h2b Bs2=>?_);clear cz0;have lts2:=Bt.lt;have lMs2:=BM.lt;have ls0s2:=Bs0.lt;have ls1s2:=Bs1.lt;have hw0z:=hw.size;clear gt gM gs0 gs1;obtain ⟨Bt,BM,Bs0,Bs1,hw,-⟩:=qX4 Bt BM Bs0 Bs1 hw hb;have fs2:=h1b;have hwz:w.heap.size<=W5.heap.size:=hw0z;clear hb h1b h2b hw0z;simp only [Act.put];clear hl;have K7:=J5 Bt.f BM.f Bs0.f Bs1.f Bs2.f;go_wp2_with fail;clear K7;try rw [rounds_succ]
 have Ft:=Bt.f;have FM:=BM.f;have Fs0:=Bs0.f;have Fs1:=Bs1.f;have Fs2:=Bs2.f;go_wp2_with fail;refine (cv _).mono ?_;rintro e w9 ⟨rfl,hb⟩;replace hw:=upB hw hb;clear Ft FM Fs0 Fs1 Fs2;clear hb;go_wp2
 go_ret
 exact ⟨rfl,hw⟩
theorem fits_any (mb b:Nat) (E:List ((Pt×Pt)×Tri3)) (T:Tri3) (hk:okT T) (w:World) (Bm:Box w mb [.map (some b)] 102) (Hm:Hs w b E):Calls prog 117 #[pt0 mb,T] w λe w'=>e=.returned (.bool (Option.isNone (getE E (T.A,T.B)) && (Option.isNone (getE E (T.B,T.C)) && (Option.isNone (getE E (T.C,T.A)) && valT T))))/\Below w w w':=by
 cases h0:getE E (T.A,T.B) with
 | some S=>exact fits_0 mb b E T S h0 hk w Bm Hm
 | none=>
  cases h1:getE E (T.B,T.C) with
  | some S=>exact fits_1 mb b E T S h0 h1 hk w Bm Hm
  | none=>
   cases h2:getE E (T.C,T.A) with
   | some S=>exact fits_2 mb b E T S h0 h1 h2 hk w Bm Hm
   | none=>exact fits_3 mb b E T h0 h1 h2 hk w Bm Hm
theorem t7 (mb b : Nat) (E : List ((Pt × Pt) × Tri3)) (T : Tri3) (hk : okT T) (w : World) (Bm : Box w mb [.map (some b)] 102) (Hm : Hs w b E) :
    Calls prog 117 #[pt0 mb,T] w (Rt w (.bool (fitsE E T))):=fits_any mb b E T hk w Bm Hm
theorem zK {w w':World} (h:Below w w w') (row:Option Nat):w.grownBy w' row:=⟨h.os,h.tape,h.output,h.size,λi hi _=>h.block i hi⟩
theorem jA {B:Nat} {w w' w2:World} {b:Nat} (h:Below B w w') (hg:w'.grownBy w2 (some b)) (hB:B<=w'.heap.size) (hb:B<=b):Below B w w2:=
 ⟨hg.os.trans h.os,hg.tape.trans h.tape,hg.output.trans h.output,XD h.size hg.size,λi hi=>(hg.block i (by omega) (λe=>by cases e;omega)).trans (h.block i hi)⟩
theorem zO {a b c:World} {r:Nat} (h:a.grownBy b (some r)) (k:b.grownBy c (some r)):a.grownBy c (some r):=h.andThen k (λ_ hj=>.inr hj)
theorem zQ {a b c:World} {r:Nat} (h:a.grownBy b (some r)) (k:Below b b c):a.grownBy c (some r):=zO h (zK k _)
theorem below_then {a b c:World} {r:Nat} (h:Below a a b) (k:b.grownBy c (some r)):a.grownBy c (some r):=zO (zK h _) k
theorem qS (w:World) (row:Option Nat):w.grownBy w row:=⟨rfl,rfl,rfl,Yq _,λ_ _ _=>rfl⟩
theorem Box.ne_map {w:World} {x b:Nat} {cs:List Value} {T:TypeId} {E:List ((Pt×Pt)×Tri3)} (h:Box w x cs T) (H:Hs w b E):x≠b:=by
 obtain ⟨es,clock,hb,_⟩:=H;intro e;unfold Box at h;rw [e,hb] at h;cases h
theorem Box.turn {w w':World} {x b:Nat} {cs:List Value} {T:TypeId} {E:List ((Pt×Pt)×Tri3)} (h:Box w x cs T) (H:Hs w b E) (hg:w.grownBy w' (some b)):Box w' x cs T:=by
 have hne:=h.ne_map H;have hl:=h.lt;unfold Box at *;rw [hg.block x hl (by simpa using hne)];exact h
theorem RowAt.turn {α:Type} {c:α->List Value} {k:Nat} {w w':World} {a:Option Addr} {L:List α} {b:Nat} {E:List ((Pt×Pt)×Tri3)} (h:RowAt c k w a L) (hc:∀ x,c x≠[]) (H:Hs w b E) (hg:w.grownBy w' (some b)):RowAt c k w' a L:=λj x hx=>by
 obtain ⟨ad,h1,h2,h3⟩:=h j x hx;have hne:ad.block≠b:=by
  obtain ⟨es,clock,hb,_⟩:=H;cases hcx:c x with
  | nil=>exact absurd hcx (hc x)
  | cons v l=>
   have h4:=h3 0 v (by rw [hcx];rfl);intro e;unfold World.cell? at h4;rw [zy,zy,e,hb] at h4;cases h4
 refine ⟨ad,h1,Xi h2 hg.size,λi u hu=>?_⟩;exact hg.cell (h3 i u hu) (by rw [zy,zy];simpa using hne)
theorem cT_ne (x:Tri3):cT x≠[]:=by simp [cT]
abbrev Es:=List ((Pt×Pt)×Tri3)
def putT (E:Es) (T:Tri3):Es:=putE (putE (putE E (T.A,T.B) T) (T.B,T.C) T) (T.C,T.A) T
def takeT (E:Es) (T:Tri3):Es:=delE (delE (delE E (T.A,T.B)) (T.B,T.C)) (T.C,T.A)
def putRun (E:Es):List Tri3->Nat×Es
 | []=>(0,E)
 | T :: l=>if fitsE E T=true then ((putRun (putT E T) l).1+1,(putRun (putT E T) l).2) else (0,E)
def takeRun (E:Es):List Tri3->Nat×Es
 | []=>(0,E)
 | T :: l=>if hasE E T=true then ((takeRun (takeT E T) l).1+1,(takeRun (takeT E T) l).2) else (0,E)
theorem ks {E F:Es} {L:List Tri3} {k:Nat} (hk:k < L.length) (h:putRun E L=(k+(putRun F (L.drop k)).1,(putRun F (L.drop k)).2)) (hf:fitsE F L[k]=true):putRun E L=(k+1+(putRun (putT F L[k]) (L.drop (k+1))).1,(putRun (putT F L[k]) (L.drop (k+1))).2):=by
 rw [h,KO hk,putRun,Yn hf];simp only [XS,QC];omega
theorem kr {E F:Es} {L:List Tri3} {k:Nat} (hk:k < L.length) (h:putRun E L=(k+(putRun F (L.drop k)).1,(putRun F (L.drop k)).2)) (hf:fitsE F L[k]=false):putRun E L=(k,F):=by
 rw [h,KO hk,putRun,Ye (by rw [hf];decide)];rfl
theorem jy {E F:Es} {L:List Tri3} {k:Nat} (hk:L.length<=k) (h:putRun E L=(k+(putRun F (L.drop k)).1,(putRun F (L.drop k)).2)):putRun E L=(k,F):=by
 rw [h,Kr hk];rfl
theorem takeRun_step {E F:Es} {L:List Tri3} {k:Nat} (hk:k < L.length) (h:takeRun E L=(k+(takeRun F (L.drop k)).1,(takeRun F (L.drop k)).2)) (hf:hasE F L[k]=true):takeRun E L=(k+1+(takeRun (takeT F L[k]) (L.drop (k+1))).1,(takeRun (takeT F L[k]) (L.drop (k+1))).2):=by
 rw [h,KO hk,takeRun,Yn hf];simp only [XS,QC];omega
theorem takeRun_stop {E F:Es} {L:List Tri3} {k:Nat} (hk:k < L.length) (h:takeRun E L=(k+(takeRun F (L.drop k)).1,(takeRun F (L.drop k)).2)) (hf:hasE F L[k]=false):takeRun E L=(k,F):=by
 rw [h,KO hk,takeRun,Ye (by rw [hf];decide)];rfl
theorem takeRun_end {E F:Es} {L:List Tri3} {k:Nat} (hk:L.length<=k) (h:takeRun E L=(k+(takeRun F (L.drop k)).1,(takeRun F (L.drop k)).2)):takeRun E L=(k,F):=by
 rw [h,Kr hk];rfl
section
theorem map_nil (b:Nat) (w:World):(binOp .eql 100 (.map (some b)) (.map none)).run prog w=.ok (.bool false) w:=by
 simp only [binOp];simp [run_equal_map_nil w 100 _ _ (some b) underlying100]
theorem rmap_nil (b:Nat) (w:World):(binOp .eql 91 (.map (some b)) (.map none)).run prog w=.ok (.bool false) w:=by
 simp only [binOp];simp [run_equal_map_nil w 91 _ _ (some b) underlying91]
attribute [local go_sem] map_nil rmap_nil
theorem kL (mb b:Nat) (E:Es) (a:Option Addr) (cap n:Nat) (L:List Tri3) (hn:Hi (L.length=n)) (hn1:n<=1000000) (hok:∀ T∈L,okT T) (w:World) (Bm:Box w mb [.map (some b)] 102) (Hm:Hs w b E) (Hr:RowAt cT 6 w a L):Calls prog 74 #[pt0 mb,.slice a n cap] w λe w'=>e=.returned (.int .i64 (putRun E L).1)/\w.grownBy w' (some b)/\Hs w' b (putRun E L).2:=by
 have hmb:=Bm.ne_map Hm;have Fm:=Bm.f
 go_enter func74,ntmps74
 go_wp2;clear Fm
 go_loopw [19] (λi wr=>∃ (k:Nat) (F:Es),k<=n/\i=.int .i64 k/\Hi (putRun E L=(k+(putRun F (L.drop k)).1,(putRun F (L.drop k)).2))/\Hs wr b F/\w.grownBy wr (some b)) (λi _=>n - (intOf i).toNat)
 case atStart=>exact ⟨0,E,XZ _,rfl,hdd (by simp),Hm,qS _ _⟩
 case round=>
  obtain ⟨k,F,hk,rfl,hR,HF,hg⟩:=hrel;have BM:=Bm.turn Hm hg;by_cases hlt:k < n
  ·have hlk:k < L.length:=hn.o▸hlt;have hokk:=hok L[k] (Yx hlk);have hst:=λhf=>ks hlk hR.o hf;have hsp:=λhf=>kr hlk hR.o hf;obtain ⟨ad,A,ea,eA,zA,_,q0,q1,q2,q3,q4,q5⟩:=(Hr.turn cT_ne Hm hg).tri hlk;generalize L[k]=T at *
   cases hf:fitsE F T with
   | false=>
    have HP:=hdd (hsp hf);clear hst hsp;have cf:=t7 mb b F T hokk;rw [hf] at cf;clear hf;have FM:=BM.f;go_wp2_with fail;refine zG λW1 hW=>?_;have Bt:Box W1 wr [T.A.x,T.A.y,T.B.x,T.B.y,T.C.x,T.C.y] 28:=by rw [hW];exact Box.new rfl
    have hw:Below wr wr W1:=by rw [hW];go_grown
    clear hW;clear FM;replace BM:=BM.ee hw;clear q0 q1 q2 q3 q4 q5 ea eA zA;refine qK2 (cf _ BM (HF.ee hw)) BM Bt hw λw2 BM Bt hw=>?_;have FM:=BM.f;have Ft:=Bt.f;go_wp2
    go_ret
    exact ⟨zW (by rw [HP.o]),zQ hg hw,by rw [HP.o];exact HF.ee hw⟩
   | true=>
    have HP:=hdd (hst hf);clear hst hsp;have cf:=t7 mb b F T hokk;rw [hf] at cf;clear hf;have FM:=BM.f;go_wp2_with fail;refine zG λW1 hW=>?_;have Bt:Box W1 wr [T.A.x,T.A.y,T.B.x,T.B.y,T.C.x,T.C.y] 28:=by rw [hW];exact Box.new rfl
    have hw:Below wr wr W1:=by rw [hW];go_grown
    clear hW;clear FM;replace BM:=BM.ee hw;clear q0 q1 q2 q3 q4 q5 ea eA zA;refine qC2 (cf _ BM (HF.ee hw)) BM Bt hw λw2 BM Bt hw Gx=>?_;go_wp2_with fail;clear Gx;refine wp_loop_rounds 5 ?_;try rw [rounds_succ]
    have FM:=BM.f;have Ft:=Bt.f;go_wp2_with fail;replace HF:=HF.ee hw;replace hg:=zQ hg hw;have hw:Below w2 w2 w2:=Below.refl _ _;have Gv:=J2 BM.cells Bt.cells;have cz0:=way_0 T;refine rgn 8 (λw3 hb=>?_);clear cz0;clear Gv;clear FM Ft;obtain ⟨BM,Bt,hw,-⟩:=qX2 BM Bt hw hb;replace HF:=HF.ee hw;replace hg:=zQ hg hw;clear hw;refine yL _ rfl _ _ _ rfl kvM rfl HF (T.A,T.B) T rfl rfl (okT_w hokk).1 ?_;intro c0 HG hh hs;replace BM:=BM.turn HF hh;replace Bt:=Bt.turn HF hh;replace hg:=zO hg hh;clear HF hh hs;have HF:=HG;clear HG;have Gx:=J2 BM.f Bt.f;go_wp2_with fail;clear Gx;try rw [rounds_succ]
    have FM:=BM.f;have Ft:=Bt.f;go_wp2_with fail;have hw:Below c0 c0 c0:=Below.refl _ _;have Gv:=J2 BM.cells Bt.cells;have cz0:=way_1 T;refine rgn 8 (λw4 hb=>?_);clear cz0;clear Gv;clear FM Ft;obtain ⟨BM,Bt,hw,-⟩:=qX2 BM Bt hw hb;replace HF:=HF.ee hw;replace hg:=zQ hg hw;clear hw;refine yL _ rfl _ _ _ rfl kvM rfl HF (T.B,T.C) T rfl rfl (okT_w hokk).2.1 ?_;intro c1 HG hh hs;replace BM:=BM.turn HF hh;replace Bt:=Bt.turn HF hh;replace hg:=zO hg hh;clear HF hh hs;have HF:=HG;clear HG;have Gx:=J2 BM.f Bt.f;go_wp2_with fail;clear Gx;try rw [rounds_succ]
    have FM:=BM.f;have Ft:=Bt.f;go_wp2_with fail;have hw:Below c1 c1 c1:=Below.refl _ _;have Gv:=J2 BM.cells Bt.cells;have cz0:=way_2 T;refine rgn 8 (λw5 hb=>?_);clear cz0;clear Gv;clear FM Ft;obtain ⟨BM,Bt,hw,-⟩:=qX2 BM Bt hw hb;replace HF:=HF.ee hw;replace hg:=zQ hg hw;clear hw;refine yL _ rfl _ _ _ rfl kvM rfl HF (T.C,T.A) T rfl rfl (okT_w hokk).2.2 ?_;intro c2 HG hh hs;replace BM:=BM.turn HF hh;replace Bt:=Bt.turn HF hh;replace hg:=zO hg hh;clear HF hh hs;have HF:=HG;clear HG;have Gx:=J2 BM.f Bt.f;go_wp2_with fail;clear Gx;try rw [rounds_succ]
    have FM:=BM.f;have Ft:=Bt.f;go_wp2
    go_roundw
    case rel=>exact ⟨k+1,putT F T,by omega,by go_num,HP,HF,hg⟩
    case measure=>simp [intOf];omega
  ·have HP:=hdd (jy (by rw [hn.o];omega) hR.o);have Fm:=BM.f;go_wp2
   go_ret
   exact ⟨zW (by rw [HP.o];omega),hg,by rw [HP.o];exact HF⟩
theorem k8 (mb b:Nat) (E:Es) (a:Option Addr) (cap n:Nat) (L:List Tri3) (hn:Hi (L.length=n)) (hn1:n<=1000000) (hok:∀ T∈L,okT T) (w:World) (Bm:Box w mb [.map (some b)] 102) (Hm:Hs w b E) (Hr:RowAt cT 6 w a L):Calls prog 82 #[pt0 mb,.slice a n cap] w λe w'=>e=.returned (.int .i64 (takeRun E L).1)/\w.grownBy w' (some b)/\Hs w' b (takeRun E L).2:=by
 have hmb:=Bm.ne_map Hm;have Fm:=Bm.f
 go_enter func82,ntmps82
 go_wp2;clear Fm
 go_loopw [10] (λi wr=>∃ (k:Nat) (F:Es),k<=n/\i=.int .i64 k/\Hi (takeRun E L=(k+(takeRun F (L.drop k)).1,(takeRun F (L.drop k)).2))/\Hs wr b F/\w.grownBy wr (some b)) (λi _=>n - (intOf i).toNat)
 case atStart=>exact ⟨0,E,XZ _,rfl,hdd (by simp),Hm,qS _ _⟩
 case round=>
  obtain ⟨k,F,hk,rfl,hR,HF,hg⟩:=hrel;have BM:=Bm.turn Hm hg;by_cases hlt:k < n
  ·have hlk:k < L.length:=hn.o▸hlt;have hokk:=hok L[k] (Yx hlk);have hst:=λhf=>takeRun_step hlk hR.o hf;have hsp:=λhf=>takeRun_stop hlk hR.o hf;obtain ⟨ad,A,ea,eA,zA,_,q0,q1,q2,q3,q4,q5⟩:=(Hr.turn cT_ne Hm hg).tri hlk;generalize L[k]=T at *
   cases hf:hasE F T with
   | false=>
    have HP:=hdd (hsp hf);clear hst hsp;have cf:=Z6 mb b F T hokk;rw [hf] at cf;clear hf;have FM:=BM.f;go_wp2_with fail;refine zG λW1 hW=>?_;have Bt:Box W1 wr [T.A.x,T.A.y,T.B.x,T.B.y,T.C.x,T.C.y] 28:=by rw [hW];exact Box.new rfl
    have hw:Below wr wr W1:=by rw [hW];go_grown
    clear hW;clear FM;replace BM:=BM.ee hw;clear q0 q1 q2 q3 q4 q5 ea eA zA;refine qK2 (cf _ BM (HF.ee hw)) BM Bt hw λw2 BM Bt hw=>?_;have FM:=BM.f;have Ft:=Bt.f;go_wp2
    go_ret
    exact ⟨zW (by rw [HP.o]),zQ hg hw,by rw [HP.o];exact HF.ee hw⟩
   | true=>
    have HP:=hdd (hst hf);clear hst hsp;have cf:=Z6 mb b F T hokk;rw [hf] at cf;clear hf;have FM:=BM.f;go_wp2_with fail;refine zG λW1 hW=>?_;have Bt:Box W1 wr [T.A.x,T.A.y,T.B.x,T.B.y,T.C.x,T.C.y] 28:=by rw [hW];exact Box.new rfl
    have hw:Below wr wr W1:=by rw [hW];go_grown
    clear hW;clear FM;replace BM:=BM.ee hw;clear q0 q1 q2 q3 q4 q5 ea eA zA;refine qC2 (cf _ BM (HF.ee hw)) BM Bt hw λw2 BM Bt hw Gx=>?_;go_wp2_with fail;clear Gx;refine wp_loop_rounds 5 ?_;try rw [rounds_succ]
    have FM:=BM.f;have Ft:=Bt.f;go_wp2_with fail;replace HF:=HF.ee hw;replace hg:=zQ hg hw;have hw:Below w2 w2 w2:=Below.refl _ _;have Gv:=J2 BM.cells Bt.cells;have cz0:=way_0 T;refine rgn 7 (λw3 hb=>?_);clear cz0;clear Gv;clear FM Ft;obtain ⟨BM,Bt,hw,-⟩:=qX2 BM Bt hw hb;replace HF:=HF.ee hw;replace hg:=zQ hg hw;clear hw;refine yX _ rfl _ _ rfl kvM rfl HF (T.A,T.B) rfl (okT_w hokk).1 ?_;intro c0 HG hh hs;replace BM:=BM.turn HF hh;replace Bt:=Bt.turn HF hh;replace hg:=zO hg hh;clear HF hh hs;have HF:=HG;clear HG;have Gx:=J2 BM.f Bt.f;go_wp2_with fail;clear Gx;try rw [rounds_succ]
    have FM:=BM.f;have Ft:=Bt.f;go_wp2_with fail;have hw:Below c0 c0 c0:=Below.refl _ _;have Gv:=J2 BM.cells Bt.cells;have cz0:=way_1 T;refine rgn 7 (λw4 hb=>?_);clear cz0;clear Gv;clear FM Ft;obtain ⟨BM,Bt,hw,-⟩:=qX2 BM Bt hw hb;replace HF:=HF.ee hw;replace hg:=zQ hg hw;clear hw;refine yX _ rfl _ _ rfl kvM rfl HF (T.B,T.C) rfl (okT_w hokk).2.1 ?_;intro c1 HG hh hs;replace BM:=BM.turn HF hh;replace Bt:=Bt.turn HF hh;replace hg:=zO hg hh;clear HF hh hs;have HF:=HG;clear HG;have Gx:=J2 BM.f Bt.f;go_wp2_with fail;clear Gx;try rw [rounds_succ]
    have FM:=BM.f;have Ft:=Bt.f;go_wp2_with fail;have hw:Below c1 c1 c1:=Below.refl _ _;have Gv:=J2 BM.cells Bt.cells;have cz0:=way_2 T;refine rgn 7 (λw5 hb=>?_);clear cz0;clear Gv;clear FM Ft;obtain ⟨BM,Bt,hw,-⟩:=qX2 BM Bt hw hb;replace HF:=HF.ee hw;replace hg:=zQ hg hw;clear hw;refine yX _ rfl _ _ rfl kvM rfl HF (T.C,T.A) rfl (okT_w hokk).2.2 ?_;intro c2 HG hh hs;replace BM:=BM.turn HF hh;replace Bt:=Bt.turn HF hh;replace hg:=zO hg hh;clear HF hh hs;have HF:=HG;clear HG;have Gx:=J2 BM.f Bt.f;go_wp2_with fail;clear Gx;try rw [rounds_succ]
    have FM:=BM.f;have Ft:=Bt.f;go_wp2
    go_roundw
    case rel=>exact ⟨k+1,takeT F T,by omega,by go_num,HP,HF,hg⟩
    case measure=>simp [intOf];omega
  ·have HP:=hdd (takeRun_end (by rw [hn.o];omega) hR.o);have Fm:=BM.f;go_wp2
   go_ret
   exact ⟨zW (by rw [HP.o];omega),hg,by rw [HP.o];exact HF⟩
end
section
theorem mk_map (n:Int) (w:World):(Instr.makeMap 100 (some (.int .i64 n))).run prog w=.ok (.map (some w.heap.size)) (w.alloc (.map #[] 0)):=by
 unfold Instr.makeMap;simp [asIntOf,go_sem]
attribute [local go_sem] mk_map map_nil
theorem mnew_1 (a:Option Addr) (cap n:Nat) (L:List Tri3) (hn:Hi (L.length=n)) (hn1:n<=1000000) (hok:∀ T∈L,okT T) (hx:(putRun [] L).1=n) (w:World) (Hr:RowAt cT 6 w a L):Calls prog 38 #[.slice a n cap] w λe w'=>∃ mb b,e=.returned (.tuple #[pt0 mb,()])/\Box w' mb [.map (some b)] 102/\Hs w' b (putRun [] L).2/\w.heap.size<=b/\w.heap.size<=mb/\Below w w w':=by
 have cp:=λw' B H R=>kL (w.heap.size+1) w.heap.size [] a cap n L hn hn1 hok w' B H R;obtain ⟨r,E,hr⟩:∃ r E,putRun [] L=(r,E):=⟨_,_,rfl⟩;rw [hr] at cp hx;dsimp only at cp hx;have HR:=hdd hr;clear hr;subst hx;have hd:decide ((r:Int) < (r:Int))=false:=by simp
 go_enter func38,ntmps38
 go_wp2_with fail;refine zG λW1 hW=>?_;have BM:Box W1 (w+1) [.map (some w.heap.size)] 102:=by rw [hW];exact Box.new (by simp)
 have HM:Hs W1 w.heap.size ([]:Es):=by rw [hW];exact (HoldsMap.made w).alloc _
 have hw:Below w w W1:=by rw [hW];go_grown
 clear hW;refine (cp _ BM HM (Hr.ee hw)).mono ?_;rintro e w2 ⟨rfl,hg,H2⟩;have B2:=BM.turn HM hg;replace hw:=jA hw hg hw.size (Yq _);clear hg HM BM;go_wp2
 go_ret2
 exact ⟨_,_,rfl,B2,by rw [HR.o];exact H2,Yq _,by omega,hw⟩
theorem mlen_any (mb b:Nat) (E:Es) (k:Nat) (hE:Hi (E.length=3 * k)) (hk:k<=1000000) (w:World) (Bm:Box w mb [.map (some b)] 102) (Hm:Hs w b E):Calls prog 24 #[pt0 mb] w (Rt w (.int .i64 k)):=by
 have Fm:=Bm.f
 go_enter func24,ntmps24
 go_wp2_with (at_len;refine wpList_mlen _ rfl _ rfl kvM rfl Hm ?_;rw [hE.o])
 go_ret
 exact ⟨zW (by first | omega | (push_cast;omega)),Below.refl _ _⟩
theorem Y5 {T:Tri3} (h:okT T) (i:Int):okP (crn T i):=by
 unfold crn;split
 ·exact h.1
 ·split
  ·exact h.2.1
  ·exact h.2.2
end
section
theorem th:prog.underlying 144=some (.array 3 26):=by kernel_rfl
theorem idx_0 (a b c d e f:Value) (w:World):(Instr.index 144 (.agg #[a,b,c,d,e,f]) (.int .i64 0)).run prog w=.ok (.agg #[a,b]) w:=by
 simp [Instr.index,run_underlying th,asIntOf,part,go_sem]
theorem idx_1 (a b c d e f:Value) (w:World):(Instr.index 144 (.agg #[a,b,c,d,e,f]) (.int .i64 1)).run prog w=.ok (.agg #[c,d]) w:=by
 simp [Instr.index,run_underlying th,asIntOf,part,go_sem]
theorem idx_2 (a b c d e f:Value) (w:World):(Instr.index 144 (.agg #[a,b,c,d,e,f]) (.int .i64 2)).run prog w=.ok (.agg #[e,f]) w:=by
 simp [Instr.index,run_underlying th,asIntOf,part,go_sem]
attribute [local go_sem 10000] idx_0 idx_1 idx_2
theorem rcorner_0 (T:Tri3) (i:Int) (h:plc i=0) (w:World):Calls prog 52 #[T,i] w (Rt w (.agg #[T.A.x,T.A.y])):=by
 have e:=jI i;rw [h] at e;have e2:(IntKind.i64.wrap (i.tmod 3+3)).tmod 3=0:=by rw [<-e,IntKind.wrap_i64,w64]
 clear h
 go_enter func52,ntmps52
 go_wp2_with fail;refine bodyPost_ret (v:=.agg #[T.A.x,T.A.y]) (by simp [results,results52,go_sem]) rfl ⟨rfl,by go_grown⟩
theorem rcorner_1 (T:Tri3) (i:Int) (h:plc i=1) (w:World):Calls prog 52 #[T,i] w (Rt w (.agg #[T.B.x,T.B.y])):=by
 have e:=jI i;rw [h] at e;have e2:(IntKind.i64.wrap (i.tmod 3+3)).tmod 3=1:=by rw [<-e,IntKind.wrap_i64,w64]
 clear h
 go_enter func52,ntmps52
 go_wp2_with fail;refine bodyPost_ret (v:=.agg #[T.B.x,T.B.y]) (by simp [results,results52,go_sem]) rfl ⟨rfl,by go_grown⟩
theorem rcorner_2 (T:Tri3) (i:Int) (h:plc i=2) (w:World):Calls prog 52 #[T,i] w (Rt w (.agg #[T.C.x,T.C.y])):=by
 have e:=jI i;rw [h] at e;have e2:(IntKind.i64.wrap (i.tmod 3+3)).tmod 3=2:=by rw [<-e,IntKind.wrap_i64,w64]
 clear h
 go_enter func52,ntmps52
 go_wp2_with fail;refine bodyPost_ret (v:=.agg #[T.C.x,T.C.y]) (by simp [results,results52,go_sem]) rfl ⟨rfl,by go_grown⟩
theorem km (T:Tri3) (i:Int) (w:World):Calls prog 52 #[T,i] w (Rt w (.agg #[.int .i64 (crn T i).x,.int .i64 (crn T i).y])):=by
 rcases jH i with h | h | h
 ·rw [show crn T i=T.A by unfold crn;simp [h]];exact rcorner_0 T i h w
 ·rw [show crn T i=T.B by unfold crn;simp [h]];exact rcorner_1 T i h w
 ·rw [show crn T i=T.C by unfold crn;simp [h]];exact rcorner_2 T i h w
def cmpT (S T:Tri3):Int:=if cmpP S.A T.A≠0 then cmpP S.A T.A else if cmpP S.B T.B≠0 then cmpP S.B T.B else cmpP S.C T.C
theorem rcmpT_0 (S T:Tri3) (h0:¬ cmpP S.A T.A=0) (w:World):Calls prog 33 #[S,T] w (Rt w (.int .i64 (cmpP S.A T.A))):=by
 have c1:=zR S.A T.A;have hd:(cmpP S.A T.A == 0)=false:=by simpa using h0
 clear h0;generalize cmpP S.A T.A=n at *
 go_enter func33,ntmps33
 go_wp2_with fail;refine qE2 λW1 Bs Bt hw=>?_;refine qC2 (c1 _) Bs Bt hw λw2 Bs Bt hw Gy=>?_;go_wp2
 go_ret
 exact ⟨rfl,by have hl:=hw.size;go_grown⟩
theorem rcmpT_1 (S T:Tri3) (h0:cmpP S.A T.A=0) (h1:¬ cmpP S.B T.B=0) (w:World):Calls prog 33 #[S,T] w (Rt w (.int .i64 (cmpP S.B T.B))):=by
 have c1:=zR S.A T.A;have c2:=zR S.B T.B;rw [h0] at c1;have hd:(cmpP S.B T.B == 0)=false:=by simpa using h1
 clear h0 h1;generalize cmpP S.B T.B=n at *
 go_enter func33,ntmps33
 go_wp2_with fail;refine qE2 λW1 Bs Bt hw=>?_;refine qC2 (c1 _) Bs Bt hw λw2 Bs Bt hw Gy=>?_;go_wp2_with fail;clear Gy;refine qC2 (c2 _) Bs Bt hw λw3 Bs Bt hw Gy=>?_;go_wp2
 go_ret
 exact ⟨rfl,by have hl:=hw.size;go_grown⟩
theorem rcmpT_2 (S T:Tri3) (h0:cmpP S.A T.A=0) (h1:cmpP S.B T.B=0) (w:World):Calls prog 33 #[S,T] w (Rt w (.int .i64 (cmpP S.C T.C))):=by
 have c1:=zR S.A T.A;have c2:=zR S.B T.B;have c3:=zR S.C T.C;rw [h0] at c1;rw [h1] at c2;clear h0 h1;generalize cmpP S.C T.C=n at *
 go_enter func33,ntmps33
 go_wp2_with fail;refine qE2 λW1 Bs Bt hw=>?_;refine qC2 (c1 _) Bs Bt hw λw2 Bs Bt hw Gy=>?_;go_wp2_with fail;clear Gy;refine qC2 (c2 _) Bs Bt hw λw3 Bs Bt hw Gy=>?_;go_wp2_with fail;clear Gy;refine qC2 (c3 _) Bs Bt hw λw4 Bs Bt hw Gy=>?_;go_wp2
 go_ret
 exact ⟨rfl,by have hl:=hw.size;go_grown⟩
theorem ub (S T:Tri3) (w:World):Calls prog 33 #[S,T] w (Rt w (.int .i64 (cmpT S T))):=by
 by_cases h0:cmpP S.A T.A=0
 ·by_cases h1:cmpP S.B T.B=0
  ·rw [show cmpT S T=cmpP S.C T.C by unfold cmpT;simp [h0,h1]];exact rcmpT_2 S T h0 h1 w
  ·rw [show cmpT S T=cmpP S.B T.B by unfold cmpT;simp [h0,h1]];exact rcmpT_1 S T h0 h1 w
 ·rw [show cmpT S T=cmpP S.A T.A by unfold cmpT;simp [h0]];exact rcmpT_0 S T h0 w
def or3 (x y z:Int):Int:=if x≠0 then x else if y≠0 then y else z
def twi (T:Tri3):Int:=if valT T=true then det T.A T.B T.C else 0
theorem rtwi_0 (T:Tri3) (h0:valT T=false) (w:World):Calls prog 27 #[T] w (Rt w (.int .i64 0)):=by
 have c1:=yA T;rw [h0] at c1;clear h0
 go_enter func27,ntmps27
 go_wp2_with fail;refine qE1 λW1 Bt hw=>?_;refine qC1 (c1 _) Bt hw λw2 Bt hw Ft=>?_;go_wp2
 go_ret
 exact ⟨rfl,by have hl:=hw.size;go_grown⟩
theorem rtwi_1 (T:Tri3) (h0:valT T=true) (ha:vld T.A=true) (hb:vld T.B=true) (hc:vld T.C=true) (w:World):Calls prog 27 #[T] w (Rt w (.int .i64 (det T.A T.B T.C))):=by
 have c1:=yA T;have c2:=jv T.A T.B T.C ha hb hc;rw [h0] at c1;clear h0 ha hb hc;generalize det T.A T.B T.C=n at *
 go_enter func27,ntmps27
 go_wp2_with fail;refine qE1 λW1 Bt hw=>?_;refine qC1 (c1 _) Bt hw λw2 Bt hw Ft=>?_;go_wp2_with fail;clear Ft;refine qC1 (c2 _) Bt hw λw3 Bt hw Ft=>?_;go_wp2
 go_ret
 exact ⟨rfl,by have hl:=hw.size;go_grown⟩
theorem te {T:Tri3} (h:valT T=true):vld T.A=true/\vld T.B=true/\vld T.C=true:=by
 rw [tV] at h;unfold valS at h;simp only [Yf,Yh] at h;exact yQ (by omega)
theorem jG (T:Tri3) (w:World):Calls prog 27 #[T] w (Rt w (.int .i64 (twi T))):=by
 unfold twi;cases h0:valT T with
 | false=>exact rtwi_0 T h0 w
 | true=>obtain ⟨va,vb,vc⟩:=te h0;exact rtwi_1 T h0 va vb vc w
end
attribute [local go_sem] rmap_nil
theorem xN (T:Tri3) (w:World):Calls prog 136 #[T] w (Rt w (.agg #[T.A.x,T.A.y,T.B.x,T.B.y,T.B.x,T.B.y,T.C.x,T.C.y,T.C.x,T.C.y,T.A.x,T.A.y])):=by
 go_enter func136,ntmps136
 go_wp2_with fail;refine bodyPost_ret (v:=.agg #[T.A.x,T.A.y,T.B.x,T.B.y,T.B.x,T.B.y,T.C.x,T.C.y,T.C.x,T.C.y,T.A.x,T.A.y]) (by simp [results,results136,go_sem]) rfl ⟨rfl,by go_grown⟩
theorem rleft_1 (mb b:Nat) (E:Es) (p q:Pt) (T:Tri3) (hg:getE E (p,q)=some T) (hk:okW (p,q)) (w:World) (Bm:Box w mb [.map (some b)] 93) (Hm:Hs w b E):Calls prog 137 #[pt0 mb,p,q] w (Rt w (.tuple #[T,.bool true])):=by
 go_enter func137,ntmps137
 go_wp2_with fail;refine qD3 λW1 Bp Bq Br hw=>?_;have BM:Box W1 (mb) [.map (some b)] 93:=Bm.ee hw;have hl:∀ d os,(Instr.lookup 91 (.map (some b)) (.agg #[p.x,p.y,q.x,q.y]) true).run prog (grow (redrawn W1 d) os)=.ok (.tuple #[T,.bool true]) (grow (redrawn W1 d) os):=λd os=>((Hm.ee hw).ext (below_regrown W1 d os) rfl).look_some kvR zl hk hg;clear hg;have G7:=J4 Bp.cells Bq.cells Br.cells BM.cells;refine rgl 11 8 19 (λw2 bks hb h1b h2b Bs=>?_);have lps:=Bp.lt;have lqs:=Bq.lt;have lrs:=Br.lt;have lMs:=BM.lt;have hw0z:=hw.size;clear G7;obtain ⟨Bp,Bq,Br,BM,hw,-⟩:=qX4 Bp Bq Br BM hw hb;have fs:=h1b;have hwz:w.heap.size<=W1.heap.size:=hw0z;clear hb h1b h2b hw0z;simp only [Act.put];clear hl;have Fp:=Bp.f;have Fq:=Bq.f;have Fr:=Br.f;have FM:=BM.f;have Fs:=Bs.f;go_wp2_with fail;refine bodyPost_ret (v:=.tuple #[T,.bool true]) (by simp [results,results137,go_sem,Fr]) rfl ⟨rfl,by have hl:=hw.size;go_grown⟩
theorem rleft_0 (mb b:Nat) (E:Es) (p q:Pt) (hg:getE E (p,q)=none) (hk:okW (p,q)) (w:World) (Bm:Box w mb [.map (some b)] 93) (Hm:Hs w b E):Calls prog 137 #[pt0 mb,p,q] w (Rt w (.tuple #[.agg #[(),(),(),(),(),()],.bool false])):=by
 go_enter func137,ntmps137
 go_wp2_with fail;refine qD3 λW1 Bp Bq Br hw=>?_;have BM:Box W1 (mb) [.map (some b)] 93:=Bm.ee hw;have hl:∀ d os,(Instr.lookup 91 (.map (some b)) (.agg #[p.x,p.y,q.x,q.y]) true).run prog (grow (redrawn W1 d) os)=.ok (.tuple #[.agg #[(),(),(),(),(),()],.bool false]) (grow (redrawn W1 d) os):=λd os=>((Hm.ee hw).ext (below_regrown W1 d os) rfl).look_none kvR zl hk hg;clear hg;have G7:=J4 Bp.cells Bq.cells Br.cells BM.cells;refine rgl 11 8 19 (λw2 bks hb h1b h2b Bs=>?_);have lps:=Bp.lt;have lqs:=Bq.lt;have lrs:=Br.lt;have lMs:=BM.lt;have hw0z:=hw.size;clear G7;obtain ⟨Bp,Bq,Br,BM,hw,-⟩:=qX4 Bp Bq Br BM hw hb;have fs:=h1b;have hwz:w.heap.size<=W1.heap.size:=hw0z;clear hb h1b h2b hw0z;simp only [Act.put];clear hl;have Fp:=Bp.f;have Fq:=Bq.f;have Fr:=Br.f;have FM:=BM.f;have Fs:=Bs.f;go_wp2_with fail;refine bodyPost_ret (v:=.tuple #[.agg #[(),(),(),(),(),()],.bool false]) (by simp [results,results137,go_sem,Fr]) rfl ⟨rfl,by have hl:=hw.size;go_grown⟩
theorem yF (mb b:Nat) (E:Es) (p q:Pt) (hk:okW (p,q)) (w:World) (Bm:Box w mb [.map (some b)] 93) (Hm:Hs w b E):Calls prog 137 #[pt0 mb,p,q] w (Rt w (.tuple #[eT (lftE E p q).1,.bool (lftE E p q).2])):=by
 cases h:getE E (p,q) with
 | none=>rw [yk h];exact rleft_0 mb b E p q h hk w Bm Hm
 | some t=>rw [zw h];exact rleft_1 mb b E p q t h hk w Bm Hm
theorem toExtD {P : Program} {f : FuncId} {args : Array Value} {v : Value} {W : World} (c : ∀ d os, Calls P f args (grow (redrawn W d) os) λe w' => e = .returned v /\ Below (grow (redrawn W d) os).heap.size (grow (redrawn W d) os) w') :
    ∀ d os,Calls P f args (grow (redrawn W d) os) λe w'=>e=.returned v/\Ext (grow (redrawn W d) os) w':=c
theorem rput_0 (mb b:Nat) (E:Es) (T:Tri3) (S:Tri3) (hg0:getE E (T.A,T.B)=some S) (hk:okT T) (w:World) (Bm:Box w mb [.map (some b)] 93) (Hm:Hs w b E):Calls prog 90 #[pt0 mb,T] w (Rt w (.bool false)):=by
 have ce:=xN T
 go_enter func90,ntmps90
 go_wp2_with fail;refine qE1 λW1 Bt hw=>?_;refine qC1 (ce _) Bt hw λw2 Bt hw Ft=>?_;go_wp2_with fail;refine z7 λW3 hW=>?_;obtain ⟨bke,hbe⟩:∃ b,w2.heap.size=b:=⟨_,rfl⟩;rw [hbe];obtain ⟨lte,fe,Be,Bt,hw⟩:=qM1 hW hbe Bt hw;clear hW hbe;have BM:Box W3 (mb) [.map (some b)] 93:=Bm.ee hw;refine wp_loop_rounds 5 ?_;try rw [rounds_succ]
 have Ft:=Bt.f;have Fe:=Be.f;have FM:=BM.f;go_wp2_with fail;refine z7 λW4 hW=>?_;subst hW;clear Ft Fe FM;have hl:∀ d os,(Instr.lookup 91 (.map (some b)) (.agg #[T.A.x,T.A.y,T.B.x,T.B.y]) true).run prog (grow (redrawn W4 d) os)=.ok (.tuple #[S,.bool true]) (grow (redrawn W4 d) os):=λd os=>((Hm.ee hw).ext (below_regrown W4 d os) rfl).look_some kvR zl (okT_w hk).1 hg0;clear hg0;have FX:=J3 Bt.cells Be.cells BM.cells;refine rgl 11 7 25 (λw5 bks0 hb h1b h2b Bs0=>?_);have lts0:=Bt.lt;have les0:=Be.lt;have lMs0:=BM.lt;have hw0z:=hw.size;clear FX;obtain ⟨Bt,Be,BM,hw,-⟩:=qX3 Bt Be BM hw hb;have fs0:=h1b;have hwz:w.heap.size<=W4.heap.size:=hw0z;clear hb h1b h2b hw0z;simp only [Act.put];clear hl;have Ft:=Bt.f;have Fe:=Be.f;have FM:=BM.f;have Fs0:=Bs0.f;go_wp2
 go_ret
 exact ⟨rfl,hw⟩
theorem rput_1 (mb b:Nat) (E:Es) (T:Tri3) (S:Tri3) (hg0:getE E (T.A,T.B)=none) (hg1:getE E (T.B,T.C)=some S) (hk:okT T) (w:World) (Bm:Box w mb [.map (some b)] 93) (Hm:Hs w b E):Calls prog 90 #[pt0 mb,T] w (Rt w (.bool false)):=by
 have ce:=xN T
 go_enter func90,ntmps90
 go_wp2_with fail;refine qE1 λW1 Bt hw=>?_;refine qC1 (ce _) Bt hw λw2 Bt hw Ft=>?_;go_wp2_with fail;refine z7 λW3 hW=>?_;obtain ⟨bke,hbe⟩:∃ b,w2.heap.size=b:=⟨_,rfl⟩;rw [hbe];obtain ⟨lte,fe,Be,Bt,hw⟩:=qM1 hW hbe Bt hw;clear hW hbe;have BM:Box W3 (mb) [.map (some b)] 93:=Bm.ee hw;refine wp_loop_rounds 5 ?_;try rw [rounds_succ]
 have Ft:=Bt.f;have Fe:=Be.f;have FM:=BM.f;go_wp2_with fail;refine z7 λW4 hW=>?_;subst hW;clear Ft Fe FM;have hl:∀ d os,(Instr.lookup 91 (.map (some b)) (.agg #[T.A.x,T.A.y,T.B.x,T.B.y]) true).run prog (grow (redrawn W4 d) os)=.ok (.tuple #[.agg #[(),(),(),(),(),()],.bool false]) (grow (redrawn W4 d) os):=λd os=>((Hm.ee hw).ext (below_regrown W4 d os) rfl).look_none kvR zl (okT_w hk).1 hg0;clear hg0;have FX:=J3 Bt.cells Be.cells BM.cells;refine rgl 11 7 25 (λw5 bks0 hb h1b h2b Bs0=>?_);have lts0:=Bt.lt;have les0:=Be.lt;have lMs0:=BM.lt;have hw0z:=hw.size;clear FX;obtain ⟨Bt,Be,BM,hw,-⟩:=qX3 Bt Be BM hw hb;have fs0:=h1b;have hwz:w.heap.size<=W4.heap.size:=hw0z;clear hb h1b h2b hw0z;simp only [Act.put];clear hl;have GW:=J4 Bt.f Be.f BM.f Bs0.f;go_wp2_with fail;clear GW;clear Bs0;try rw [rounds_succ]
 have Ft:=Bt.f;have Fe:=Be.f;have FM:=BM.f;go_wp2_with fail;refine z7 λW6 hW=>?_;subst hW;clear Ft Fe FM;have hl:∀ d os,(Instr.lookup 91 (.map (some b)) (.agg #[T.B.x,T.B.y,T.C.x,T.C.y]) true).run prog (grow (redrawn W6 d) os)=.ok (.tuple #[S,.bool true]) (grow (redrawn W6 d) os):=λd os=>((Hm.ee hw).ext (below_regrown W6 d os) rfl).look_some kvR zl (okT_w hk).2.1 hg1;clear hg1;have FX:=J3 Bt.cells Be.cells BM.cells;refine rgl 11 7 25 (λw7 bks1 hb h1b h2b Bs1=>?_);have lts1:=Bt.lt;have les1:=Be.lt;have lMs1:=BM.lt;have hw0z:=hw.size;clear FX;obtain ⟨Bt,Be,BM,hw,-⟩:=qX3 Bt Be BM hw hb;have fs1:=h1b;have hwz:w.heap.size<=W6.heap.size:=hw0z;clear hb h1b h2b hw0z;simp only [Act.put];clear hl;have Ft:=Bt.f;have Fe:=Be.f;have FM:=BM.f;have Fs1:=Bs1.f;go_wp2
 go_ret
 exact ⟨rfl,hw⟩
theorem rput_2 (mb b:Nat) (E:Es) (T:Tri3) (S:Tri3) (hg0:getE E (T.A,T.B)=none) (hg1:getE E (T.B,T.C)=none) (hg2:getE E (T.C,T.A)=some S) (hk:okT T) (w:World) (Bm:Box w mb [.map (some b)] 93) (Hm:Hs w b E):Calls prog 90 #[pt0 mb,T] w (Rt w (.bool false)):=by
 have ce:=xN T
 go_enter func90,ntmps90
 go_wp2_with fail;refine qE1 λW1 Bt hw=>?_;refine qC1 (ce _) Bt hw λw2 Bt hw Ft=>?_;go_wp2_with fail;refine z7 λW3 hW=>?_;obtain ⟨bke,hbe⟩:∃ b,w2.heap.size=b:=⟨_,rfl⟩;rw [hbe];obtain ⟨lte,fe,Be,Bt,hw⟩:=qM1 hW hbe Bt hw;clear hW hbe;have BM:Box W3 (mb) [.map (some b)] 93:=Bm.ee hw;refine wp_loop_rounds 5 ?_;try rw [rounds_succ]
 have Ft:=Bt.f;have Fe:=Be.f;have FM:=BM.f;go_wp2_with fail;refine z7 λW4 hW=>?_;subst hW;clear Ft Fe FM;have hl:∀ d os,(Instr.lookup 91 (.map (some b)) (.agg #[T.A.x,T.A.y,T.B.x,T.B.y]) true).run prog (grow (redrawn W4 d) os)=.ok (.tuple #[.agg #[(),(),(),(),(),()],.bool false]) (grow (redrawn W4 d) os):=λd os=>((Hm.ee hw).ext (below_regrown W4 d os) rfl).look_none kvR zl (okT_w hk).1 hg0;clear hg0;have FX:=J3 Bt.cells Be.cells BM.cells;refine rgl 11 7 25 (λw5 bks0 hb h1b h2b Bs0=>?_);have lts0:=Bt.lt;have les0:=Be.lt;have lMs0:=BM.lt;have hw0z:=hw.size;clear FX;obtain ⟨Bt,Be,BM,hw,-⟩:=qX3 Bt Be BM hw hb;have fs0:=h1b;have hwz:w.heap.size<=W4.heap.size:=hw0z;clear hb h1b h2b hw0z;simp only [Act.put];clear hl;have GW:=J4 Bt.f Be.f BM.f Bs0.f;go_wp2_with fail;clear GW;clear Bs0;try rw [rounds_succ]
 have Ft:=Bt.f;have Fe:=Be.f;have FM:=BM.f;go_wp2_with fail;refine z7 λW6 hW=>?_;subst hW;clear Ft Fe FM;have hl:∀ d os,(Instr.lookup 91 (.map (some b)) (.agg #[T.B.x,T.B.y,T.C.x,T.C.y]) true).run prog (grow (redrawn W6 d) os)=.ok (.tuple #[.agg #[(),(),(),(),(),()],.bool false]) (grow (redrawn W6 d) os):=λd os=>((Hm.ee hw).ext (below_regrown W6 d os) rfl).look_none kvR zl (okT_w hk).2.1 hg1;clear hg1;have FX:=J3 Bt.cells Be.cells BM.cells;refine rgl 11 7 25 (λw7 bks1 hb h1b h2b Bs1=>?_);have lts1:=Bt.lt;have les1:=Be.lt;have lMs1:=BM.lt;have hw0z:=hw.size;clear FX;obtain ⟨Bt,Be,BM,hw,-⟩:=qX3 Bt Be BM hw hb;have fs1:=h1b;have hwz:w.heap.size<=W6.heap.size:=hw0z;clear hb h1b h2b hw0z;simp only [Act.put];clear hl;have Kq:=J4 Bt.f Be.f BM.f Bs1.f;go_wp2_with fail;clear Kq;clear Bs1;try rw [rounds_succ]
 have Ft:=Bt.f;have Fe:=Be.f;have FM:=BM.f;go_wp2_with fail;refine z7 λW8 hW=>?_;subst hW;clear Ft Fe FM;have hl:∀ d os,(Instr.lookup 91 (.map (some b)) (.agg #[T.C.x,T.C.y,T.A.x,T.A.y]) true).run prog (grow (redrawn W8 d) os)=.ok (.tuple #[S,.bool true]) (grow (redrawn W8 d) os):=λd os=>((Hm.ee hw).ext (below_regrown W8 d os) rfl).look_some kvR zl (okT_w hk).2.2 hg2;clear hg2;have FX:=J3 Bt.cells Be.cells BM.cells;refine rgl 11 7 25 (λw9 bks2 hb h1b h2b Bs2=>?_);have lts2:=Bt.lt;have les2:=Be.lt;have lMs2:=BM.lt;have hw0z:=hw.size;clear FX;obtain ⟨Bt,Be,BM,hw,-⟩:=qX3 Bt Be BM hw hb;have fs2:=h1b;have hwz:w.heap.size<=W8.heap.size:=hw0z;clear hb h1b h2b hw0z;simp only [Act.put];clear hl;have Ft:=Bt.f;have Fe:=Be.f;have FM:=BM.f;have Fs2:=Bs2.f;go_wp2
 go_ret
 exact ⟨rfl,hw⟩
theorem rput_3 (mb b:Nat) (E:Es) (T:Tri3) (hg0:getE E (T.A,T.B)=none) (hg1:getE E (T.B,T.C)=none) (hg2:getE E (T.C,T.A)=none) (hk:okT T) (w:World) (Bm:Box w mb [.map (some b)] 93) (Hm:Hs w b E):Calls prog 90 #[pt0 mb,T] w λe w'=>e=.returned (.bool true)/\w.grownBy w' (some b)/\Hs w' b (putT E T):=by
 have ce:=xN T
 go_enter func90,ntmps90
 go_wp2_with fail;refine qE1 λW1 Bt hw=>?_;refine qC1 (ce _) Bt hw λw2 Bt hw Ft=>?_;go_wp2_with fail;refine z7 λW3 hW=>?_;obtain ⟨bke,hbe⟩:∃ b,w2.heap.size=b:=⟨_,rfl⟩;rw [hbe];obtain ⟨lte,fe,Be,Bt,hw⟩:=qM1 hW hbe Bt hw;clear hW hbe;have BM:Box W3 (mb) [.map (some b)] 93:=Bm.ee hw;refine wp_loop_rounds 5 ?_;try rw [rounds_succ]
 have Ft:=Bt.f;have Fe:=Be.f;have FM:=BM.f;go_wp2_with fail;refine z7 λW4 hW=>?_;subst hW;clear Ft Fe FM;have hl:∀ d os,(Instr.lookup 91 (.map (some b)) (.agg #[T.A.x,T.A.y,T.B.x,T.B.y]) true).run prog (grow (redrawn W4 d) os)=.ok (.tuple #[.agg #[(),(),(),(),(),()],.bool false]) (grow (redrawn W4 d) os):=λd os=>((Hm.ee hw).ext (below_regrown W4 d os) rfl).look_none kvR zl (okT_w hk).1 hg0;clear hg0;have FX:=J3 Bt.cells Be.cells BM.cells;refine rgl 11 7 25 (λw5 bks0 hb h1b h2b Bs0=>?_);have lts0:=Bt.lt;have les0:=Be.lt;have lMs0:=BM.lt;have hw0z:=hw.size;clear FX;obtain ⟨Bt,Be,BM,hw,-⟩:=qX3 Bt Be BM hw hb;have fs0:=h1b;have hwz:w.heap.size<=W4.heap.size:=hw0z;clear hb h1b h2b hw0z;simp only [Act.put];clear hl;have GW:=J4 Bt.f Be.f BM.f Bs0.f;go_wp2_with fail;clear GW;clear Bs0;try rw [rounds_succ]
 have Ft:=Bt.f;have Fe:=Be.f;have FM:=BM.f;go_wp2_with fail;refine z7 λW6 hW=>?_;subst hW;clear Ft Fe FM;have hl:∀ d os,(Instr.lookup 91 (.map (some b)) (.agg #[T.B.x,T.B.y,T.C.x,T.C.y]) true).run prog (grow (redrawn W6 d) os)=.ok (.tuple #[.agg #[(),(),(),(),(),()],.bool false]) (grow (redrawn W6 d) os):=λd os=>((Hm.ee hw).ext (below_regrown W6 d os) rfl).look_none kvR zl (okT_w hk).2.1 hg1;clear hg1;have FX:=J3 Bt.cells Be.cells BM.cells;refine rgl 11 7 25 (λw7 bks1 hb h1b h2b Bs1=>?_);have lts1:=Bt.lt;have les1:=Be.lt;have lMs1:=BM.lt;have hw0z:=hw.size;clear FX;obtain ⟨Bt,Be,BM,hw,-⟩:=qX3 Bt Be BM hw hb;have fs1:=h1b;have hwz:w.heap.size<=W6.heap.size:=hw0z;clear hb h1b h2b hw0z;simp only [Act.put];clear hl;have Kq:=J4 Bt.f Be.f BM.f Bs1.f;go_wp2_with fail;clear Kq;clear Bs1;try rw [rounds_succ]
 have Ft:=Bt.f;have Fe:=Be.f;have FM:=BM.f;go_wp2_with fail;refine z7 λW8 hW=>?_;subst hW;clear Ft Fe FM;have hl:∀ d os,(Instr.lookup 91 (.map (some b)) (.agg #[T.C.x,T.C.y,T.A.x,T.A.y]) true).run prog (grow (redrawn W8 d) os)=.ok (.tuple #[.agg #[(),(),(),(),(),()],.bool false]) (grow (redrawn W8 d) os):=λd os=>((Hm.ee hw).ext (below_regrown W8 d os) rfl).look_none kvR zl (okT_w hk).2.2 hg2;clear hg2;have FX:=J3 Bt.cells Be.cells BM.cells;refine rgl 11 7 25 (λw9 bks2 hb h1b h2b Bs2=>?_);have lts2:=Bt.lt;have les2:=Be.lt;have lMs2:=BM.lt;have hw0z:=hw.size;clear FX;obtain ⟨Bt,Be,BM,hw,-⟩:=qX3 Bt Be BM hw hb;have fs2:=h1b;have hwz:w.heap.size<=W8.heap.size:=hw0z;clear hb h1b h2b hw0z;simp only [Act.put];clear hl;have K8:=J4 Bt.f Be.f BM.f Bs2.f;go_wp2_with fail;clear K8;clear Bs2;try rw [rounds_succ]
 have Ft:=Bt.f;have Fe:=Be.f;have FM:=BM.f;go_wp2_with fail;refine z7 λW10 hW=>?_;subst hW;clear Ft Fe FM;refine wp_loop_rounds 5 ?_;have HF:=Hm.ee hw;have hg:w.grownBy W10 (some b):=zK hw _;clear hw;try rw [rounds_succ]
 have Ft:=Bt.f;have Fe:=Be.f;have FM:=BM.f;go_wp2_with fail;have hw:Below W10 W10 W10:=Below.refl _ _;have FX:=J3 Bt.cells Be.cells BM.cells;refine rgn 8 (λw11 hb=>?_);clear FX;clear Ft Fe FM;obtain ⟨Bt,Be,BM,hw,-⟩:=qX3 Bt Be BM hw hb;replace HF:=HF.ee hw;replace hg:=zQ hg hw;clear hw;refine yL _ rfl _ _ _ rfl kvR rfl HF (T.A,T.B) T rfl rfl (okT_w hk).1 ?_;intro c0 HG hh hs;replace Bt:=Bt.turn HF hh;replace Be:=Be.turn HF hh;replace BM:=BM.turn HF hh;replace hg:=zO hg hh;clear HF hh hs;have HF:=HG;clear HG;have Gu:=J3 Bt.f Be.f BM.f;go_wp2_with fail;clear Gu;try rw [rounds_succ]
 have Ft:=Bt.f;have Fe:=Be.f;have FM:=BM.f;go_wp2_with fail;have hw:Below c0 c0 c0:=Below.refl _ _;have FX:=J3 Bt.cells Be.cells BM.cells;refine rgn 8 (λw12 hb=>?_);clear FX;clear Ft Fe FM;obtain ⟨Bt,Be,BM,hw,-⟩:=qX3 Bt Be BM hw hb;replace HF:=HF.ee hw;replace hg:=zQ hg hw;clear hw;refine yL _ rfl _ _ _ rfl kvR rfl HF (T.B,T.C) T rfl rfl (okT_w hk).2.1 ?_;intro c1 HG hh hs;replace Bt:=Bt.turn HF hh;replace Be:=Be.turn HF hh;replace BM:=BM.turn HF hh;replace hg:=zO hg hh;clear HF hh hs;have HF:=HG;clear HG;have Gu:=J3 Bt.f Be.f BM.f;go_wp2_with fail;clear Gu;try rw [rounds_succ]
 have Ft:=Bt.f;have Fe:=Be.f;have FM:=BM.f;go_wp2_with fail;have hw:Below c1 c1 c1:=Below.refl _ _;have FX:=J3 Bt.cells Be.cells BM.cells;refine rgn 8 (λw13 hb=>?_);clear FX;clear Ft Fe FM;obtain ⟨Bt,Be,BM,hw,-⟩:=qX3 Bt Be BM hw hb;replace HF:=HF.ee hw;replace hg:=zQ hg hw;clear hw;refine yL _ rfl _ _ _ rfl kvR rfl HF (T.C,T.A) T rfl rfl (okT_w hk).2.2 ?_;intro c2 HG hh hs;replace Bt:=Bt.turn HF hh;replace Be:=Be.turn HF hh;replace BM:=BM.turn HF hh;replace hg:=zO hg hh;clear HF hh hs;have HF:=HG;clear HG;have Gu:=J3 Bt.f Be.f BM.f;go_wp2_with fail;clear Gu;try rw [rounds_succ]
 have Ft:=Bt.f;have Fe:=Be.f;have FM:=BM.f;go_wp2
 go_ret
 exact ⟨rfl,hg,HF⟩
def freeE (E:Es) (T:Tri3):Bool:=(getE E (T.A,T.B)).isNone && ((getE E (T.B,T.C)).isNone && (getE E (T.C,T.A)).isNone)
theorem jd (E:Es) (T:Tri3):fitsE E T=(freeE E T && valT T):=by unfold fitsE freeE;simp only [Bool.and_assoc]
theorem rput_no (mb b:Nat) (E:Es) (T:Tri3) (hf:freeE E T=false) (hk:okT T) (w:World) (Bm:Box w mb [.map (some b)] 93) (Hm:Hs w b E):Calls prog 90 #[pt0 mb,T] w (Rt w (.bool false)):=by
 unfold freeE at hf;cases h0:getE E (T.A,T.B) with
 | some S=>exact rput_0 mb b E T S h0 hk w Bm Hm
 | none=>
  cases h1:getE E (T.B,T.C) with
  | some S=>exact rput_1 mb b E T S h0 h1 hk w Bm Hm
  | none=>
   cases h2:getE E (T.C,T.A) with
   | some S=>exact rput_2 mb b E T S h0 h1 h2 hk w Bm Hm
   | none=>rw [h0,h1,h2] at hf;simp at hf
theorem vg (mb b:Nat) (E:Es) (T:Tri3) (hf:freeE E T=true) (hk:okT T) (w:World) (Bm:Box w mb [.map (some b)] 93) (Hm:Hs w b E):Calls prog 90 #[pt0 mb,T] w λe w'=>e=.returned (.bool true)/\w.grownBy w' (some b)/\Hs w' b (putT E T):=by
 unfold freeE at hf;simp only [Yf,JO] at hf;exact rput_3 mb b E T hf.1 hf.2.1 hf.2.2 hk w Bm Hm
attribute [local go_sem] run_makeMap
def Six (w : World) (A : Addr) (T : Tri3) : Prop := A.block < w.heap.size /\ (w.cell? A = some (.int .i64 T.A.x) /\ w.cell? ⟨A.block, A.off + 1, none⟩ = some (.int .i64 T.A.y) /\ w.cell? ⟨A.block, A.off + 2, none⟩ = some (.int .i64 T.B.x) /\
      w.cell? ⟨A.block,A.off+3,none⟩=some (.int .i64 T.B.y)/\w.cell? ⟨A.block,A.off+4,none⟩=some (.int .i64 T.C.x)/\w.cell? ⟨A.block,A.off+5,none⟩=some (.int .i64 T.C.y))
theorem RowAt.six {w:World} {a:Option Addr} {L:List Tri3} (h:RowAt cT 6 w a L) {j:Nat} (hj:j < L.length):∃ ad A,a=some ad/\ad.add (j * 6)=A/\Six w A L[j]:=by
 obtain ⟨ad,A,h1,h2,_,h4,h5⟩:=h.tri hj;exact ⟨ad,A,h1,h2,h4,h5⟩
theorem Six.ext {w w':World} {A:Addr} {T:Tri3} {n:Nat} (h:Six w A T) (hb:Below n w w') (hn:n=w.heap.size):Six w' A T:=by
 obtain ⟨h0,h1,h2,h3,h4,h5,h6⟩:=h;have e:∀ p:Addr,p.block=A.block->w'.cell? p=w.cell? p:=λp hp=>hb.cell (by rw [hp,hn];exact h0);exact ⟨Xi h0 hb.size,(e A rfl).trans h1,(e ⟨A.block,A.off+1,none⟩ rfl).trans h2,(e ⟨A.block,A.off+2,none⟩ rfl).trans h3,(e ⟨A.block,A.off+3,none⟩ rfl).trans h4,(e ⟨A.block,A.off+4,none⟩ rfl).trans h5,(e ⟨A.block,A.off+5,none⟩ rfl).trans h6⟩
theorem Six.ee {w w':World} {A:Addr} {T:Tri3} (h:Six w A T) (hb:Below w w w'):Six w' A T:=h.ext hb rfl
theorem Six.f {w : World} {A : Addr} {T : Tri3} (h : Six w A T) : (A.block = w.heap.size) = False /\ w.cell? A = some (.int .i64 T.A.x) /\ w.cell? ⟨A.block, A.off + 1, none⟩ = some (.int .i64 T.A.y) /\ w.cell? ⟨A.block, A.off + 2, none⟩ = some (.int .i64 T.B.x) /\
      w.cell? ⟨A.block,A.off+3,none⟩=some (.int .i64 T.B.y)/\w.cell? ⟨A.block,A.off+4,none⟩=some (.int .i64 T.C.x)/\w.cell? ⟨A.block,A.off+5,none⟩=some (.int .i64 T.C.y):=⟨by simp;have:=h.1;omega,h.2⟩
def RNewPost (w:World) (n:Nat) (L:List Tri3) (e:Ending) (w':World):Prop:=
 (∃ mb b,e=.returned (.pointer (some ⟨mb,0,none⟩))/\Box w' mb [.map (some b)] 93/\Hs w' b (putRun [] L).2/\w.heap.size<=b/\w.heap.size<=mb/\Below w w w'/\(putRun [] L).1=n) \/
 (e=.returned (.pointer none)/\Below w w w'/\(putRun [] L).1 < n)
theorem rnew_any (a:Option Addr) (cap n:Nat) (L:List Tri3) (hn:Hi (L.length=n)) (hn1:n<=1000000) (hok:∀ T∈L,okT T) (w:World) (Hr:RowAt cT 6 w a L):Calls prog 70 #[.slice a n cap] w (RNewPost w n L):=by
 go_enter func70,ntmps70
 go_wp2_with fail;refine z7 λW1 hW=>?_;have BM:Box W1 (w+1) [.map (some w.heap.size)] 93:=by rw [hW];exact Box.new (by simp)
 have HM:Hs W1 w.heap.size ([]:Es):=by rw [hW];exact (HoldsMap.made w).alloc _
 have hw:Below w w W1:=by rw [hW];go_grown
 clear hW
 go_loopw [4] (λi wr=>∃ (k:Nat) (F:Es),k<=n/\i=.int .i64 k/\Hi (putRun [] L=(k+(putRun F (L.drop k)).1,(putRun F (L.drop k)).2))/\Box wr (w+1) [.map (some w.heap.size)] 93/\Hs wr w.heap.size F/\Below w w wr) (λi _=>n - (intOf i).toNat)
 case atStart=>exact ⟨0,[],XZ _,rfl,hdd (by simp),BM,HM,hw⟩
 case round=>
  clear BM HM hw;obtain ⟨k,F,hk,rfl,hR,BM,HF,hw⟩:=hrel;by_cases hlt:k < n
  ·have hlk:k < L.length:=hn.o▸hlt;have hokk:=hok L[k] (Yx hlk);have hst:=λhf=>ks hlk hR.o hf;have hsp:=λhf=>kr hlk hR.o hf;obtain ⟨ad,A,ea,eA,hA⟩:=(Hr.ee hw).six hlk;generalize L[k]=T at *
   have cv:=yA T;cases hv:valT T with
   | false=>
    have HP:=hdd (hsp (by rw [jd,hv,Bool.and_false]));rw [hv] at cv;clear hst hsp hv;obtain ⟨zA,q0,q1,q2,q3,q4,q5⟩:=hA.f;go_wp2_with fail;refine (cv _).mono ?_;rintro e w2 ⟨rfl,hb⟩;clear zA q0 q1 q2 q3 q4 q5;go_wp2
    go_ret
    exact .inr ⟨rfl,(upB hw hb),by rw [HP.o];exact hlt⟩
   | true=>
    rw [hv] at cv;cases hf:freeE F T with
    | false=>
     have HP:=hdd (hsp (by rw [jd,hf,Bool.false_and]));have cp:=rput_no (w.heap.size+1) w.heap.size F T hf hokk;clear hst hsp hv hf;obtain ⟨zA,q0,q1,q2,q3,q4,q5⟩:=hA.f;go_wp2_with fail;refine (cv _).mono ?_;rintro e w2 ⟨rfl,hb⟩;clear zA q0 q1 q2 q3 q4 q5;obtain ⟨zA,q0,q1,q2,q3,q4,q5⟩:=(hA.ee hb).f;replace hw:=upB hw hb;go_wp2_with fail;refine (cp _ (BM.ee hb) (HF.ee hb)).mono ?_;rintro e w3 ⟨rfl,hb2⟩;clear zA q0 q1 q2 q3 q4 q5;go_wp2
     go_ret
     exact .inr ⟨rfl,(upB hw hb2),by rw [HP.o];exact hlt⟩
    | true=>
     have HP:=hdd (hst (by rw [jd,hf,hv];rfl));have cp:=vg (w.heap.size+1) w.heap.size F T hf hokk;clear hst hsp hv hf;obtain ⟨zA,q0,q1,q2,q3,q4,q5⟩:=hA.f;go_wp2_with fail;refine (cv _).mono ?_;rintro e w2 ⟨rfl,hb⟩;clear zA q0 q1 q2 q3 q4 q5;obtain ⟨zA,q0,q1,q2,q3,q4,q5⟩:=(hA.ee hb).f;replace hw:=upB hw hb;replace BM:=BM.ee hb;replace HF:=HF.ee hb;go_wp2_with fail;refine (cp _ BM HF).mono ?_;rintro e w3 ⟨rfl,hg,HG⟩;clear zA q0 q1 q2 q3 q4 q5;replace BM:=BM.turn HF hg;replace hw:=jA hw hg hw.size (Yq _);clear HF hg hb hA;go_wp2;rw [<-ea]
     go_roundw
     case rel=>exact ⟨k+1,putT F T,by omega,by go_num,HP,BM,HG,hw⟩
     case measure=>simp [intOf];omega
  ·have HP:=hdd (jy (by rw [hn.o];omega) hR.o);go_wp2
   go_ret
   exact .inl ⟨_,_,rfl,BM,by rw [HP.o];exact HF,Yq _,by omega,hw,by rw [HP.o];omega⟩
end
end Go.Proofs.YtmpfadapbbjbkaaGreat
