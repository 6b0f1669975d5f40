import Derived.Test.YtmpfadapbbjbkaaGreatPgt11
set_option maxRecDepth 100000
set_option maxHeartbeats 8000000
set_option linter.all false
namespace Go.Proofs.YtmpfadapbbjbkaaGreat
open _root_.Go.Proofs.Tryz
section
open Go.RowKit Go.Sort
attribute [local go_sem] rOper rAt rUpon cell_set sg_i64 sg_u64 alloc_cell alloc_frozen
attribute [local go_sem 10000] pt_eql pt_neq tri_eql
attribute [local irreducible] rWalk
theorem gt_no (s:Int) (a0 a2 a1:Option Addr) (n q m c0 c2 c1:Nat) (T:Tri3) (hf:s < 1\/40 < s\/25 < n\/12 < q\/15 < m) (w:World):Calls prog 3 #[s,.slice a0 n c0,.slice a2 q c2,.slice a1 m c1,T] w (Rt w (.bool true)):=by
 have cf:=λW=>ub s a0 a2 n q c0 c2 W;have em:decide ((15:Int) < (m:Int))=decide (15 < m):=by simp;omega
 have hQ:=hdd (show (decide (1<=s) && (decide (s<=40) && (decide (n<=25) && decide (q<=12))))=false\/15 < m by
  rcases hf with h | h | h | h | h
  ·left;simp;omega
  ·left;simp;omega
  ·left;simp;omega
  ·left;simp;omega
  ·right;exact h)
 clear hf;generalize (decide (1<=s) && (decide (s<=40) && (decide (n<=25) && decide (q<=12))))=f at *
 cases f with
 | false=>
  go_enter func3,ntmps3
  go_wp2_with fail;refine zI λW1 hW=>?_;have hw0:Below w w W1:=by rw [hW];go_grown
  clear hW;refine (cf _).mono ?_;rintro e w1 ⟨rfl,hb⟩;replace hb:=(upB hw0 hb);go_wp2_with fail;refine (xo _).mono ?_;rintro e w2 ⟨rfl,hb2⟩;have hw:=(upB hb hb2);go_wp2
  go_ret
  exact ⟨rfl,hw⟩
 | true=>
  have hm:decide ((15:Int) < (m:Int))=true:=by
   rw [em];rcases hQ.o with h | h
   ·cases h
   ·exact Qi h
  clear em
  go_enter func3,ntmps3
  go_wp2_with fail;refine zI λW1 hW=>?_;have hw0:Below w w W1:=by rw [hW];go_grown
  clear hW;refine (cf _).mono ?_;rintro e w1 ⟨rfl,hb⟩;replace hb:=(upB hw0 hb);go_wp2_with fail;refine (xo _).mono ?_;rintro e w2 ⟨rfl,hb2⟩;have hw:=(upB hb hb2);go_wp2
  go_ret
  exact ⟨rfl,hw⟩
end
end Go.Proofs.YtmpfadapbbjbkaaGreat
