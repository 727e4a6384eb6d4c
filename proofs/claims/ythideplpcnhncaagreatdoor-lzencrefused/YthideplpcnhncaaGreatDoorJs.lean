/- Of no statement by itself: Js (without blanks and remarks). -/
import Derived.Test.YthideplpcnhncaaGreatDoorB26Jp
import Derived.Test.YthideplpcnhncaaGreatDoorZa
namespace Go.Proofs.YthideplpcnhncaaGreatDoor
open Go.RowKit
open St12 Sy13 Lz14
set_option linter.unusedVariables false
set_option linter.unusedSimpArgs false
set_option maxHeartbeats 2000000 in
theorem dist2 (a:Nat)(s:Stt)(yb yl yd:Int)(w:World)(c22:w.cell? ⟨a,22,none⟩=some (.int .i64 s.n))(c23:w.cell? ⟨a,23,none⟩=some (.int .i64 s.a))(c24:w.cell? ⟨a,24,none⟩=some (.int .i64 s.b))(c25:w.cell? ⟨a,25,none⟩=some (.int .i64 s.c))(c26:w.cell? ⟨a,26,none⟩=some (.int .i64 s.d)):Calls Tryz.prog 72 #[.pointer (some ⟨a,0,none⟩),.agg #[.int .i64 2,.int .u8 yb,.int .i64 yl,.int .i64 yd]] w fun e w'=>e= .returned (.int .i64 yd)∧Chg (fun _=>False) w w':=by
 have cA:=chg_one w (.cells #[.int .i64 2,.int .u8 yb,.int .i64 yl,.int .i64 yd] 34)
 have hbx:(w.alloc (.cells #[.int .i64 2,.int .u8 yb,.int .i64 yl,.int .i64 yd] 34)).heap[w.heap.size]?=some (.cells #[.int .i64 2,.int .u8 yb,.int .i64 yl,.int .i64 yd] 34 (0,0)):=heap_alloc_last _ _
 obtain⟨z0,z1,z2,z3⟩:=cells4y hbx
 have x23:=cell_chg c23 cA
 have x24:=cell_chg c24 cA
 have x25:=cell_chg c25 cA
 have x26:=cell_chg c26 cA
 have HC:Hid (Chg (fun _=>False) w (w.alloc (.cells #[.int .i64 2,.int .u8 yb,.int .i64 yl,.int .i64 yd] 34))):=cA
 clear hbx cA c22 c23 c24 c25 c26
 go_enter Tryz.func72,Tryz.ntmps72
 go_wp2_with fail
 go_wp2
 go_ret
 exact⟨rfl,HC.out⟩
set_option maxHeartbeats 2000000 in
theorem dist30 (a:Nat)(s:Stt)(yb yl:Int)(w:World)(c22:w.cell? ⟨a,22,none⟩=some (.int .i64 s.n))(c23:w.cell? ⟨a,23,none⟩=some (.int .i64 s.a))(c24:w.cell? ⟨a,24,none⟩=some (.int .i64 s.b))(c25:w.cell? ⟨a,25,none⟩=some (.int .i64 s.c))(c26:w.cell? ⟨a,26,none⟩=some (.int .i64 s.d)):Calls Tryz.prog 72 #[.pointer (some ⟨a,0,none⟩),.agg #[.int .i64 3,.int .u8 yb,.int .i64 yl,.int .i64 0]] w fun e w'=>e= .returned (.int .i64 s.a)∧Chg (fun _=>False) w w':=by
 have cA:=chg_one w (.cells #[.int .i64 3,.int .u8 yb,.int .i64 yl,.int .i64 0] 34)
 have hbx:(w.alloc (.cells #[.int .i64 3,.int .u8 yb,.int .i64 yl,.int .i64 0] 34)).heap[w.heap.size]?=some (.cells #[.int .i64 3,.int .u8 yb,.int .i64 yl,.int .i64 0] 34 (0,0)):=heap_alloc_last _ _
 obtain⟨z0,z1,z2,z3⟩:=cells4y hbx
 have x23:=cell_chg c23 cA
 have x24:=cell_chg c24 cA
 have x25:=cell_chg c25 cA
 have x26:=cell_chg c26 cA
 have HC:Hid (Chg (fun _=>False) w (w.alloc (.cells #[.int .i64 3,.int .u8 yb,.int .i64 yl,.int .i64 0] 34))):=cA
 clear hbx cA c22 c23 c24 c25 c26
 go_enter Tryz.func72,Tryz.ntmps72
 go_wp2_with fail
 go_quiet (fail)
 go_wp2
 go_ret
 exact⟨rfl,HC.out.trans (chg_drewN _ _) (fun _ f=>f.elim)⟩
set_option maxHeartbeats 2000000 in
theorem dist31 (a:Nat)(s:Stt)(yb yl:Int)(w:World)(c22:w.cell? ⟨a,22,none⟩=some (.int .i64 s.n))(c23:w.cell? ⟨a,23,none⟩=some (.int .i64 s.a))(c24:w.cell? ⟨a,24,none⟩=some (.int .i64 s.b))(c25:w.cell? ⟨a,25,none⟩=some (.int .i64 s.c))(c26:w.cell? ⟨a,26,none⟩=some (.int .i64 s.d)):Calls Tryz.prog 72 #[.pointer (some ⟨a,0,none⟩),.agg #[.int .i64 3,.int .u8 yb,.int .i64 yl,.int .i64 1]] w fun e w'=>e= .returned (.int .i64 s.b)∧Chg (fun _=>False) w w':=by
 have cA:=chg_one w (.cells #[.int .i64 3,.int .u8 yb,.int .i64 yl,.int .i64 1] 34)
 have hbx:(w.alloc (.cells #[.int .i64 3,.int .u8 yb,.int .i64 yl,.int .i64 1] 34)).heap[w.heap.size]?=some (.cells #[.int .i64 3,.int .u8 yb,.int .i64 yl,.int .i64 1] 34 (0,0)):=heap_alloc_last _ _
 obtain⟨z0,z1,z2,z3⟩:=cells4y hbx
 have x23:=cell_chg c23 cA
 have x24:=cell_chg c24 cA
 have x25:=cell_chg c25 cA
 have x26:=cell_chg c26 cA
 have HC:Hid (Chg (fun _=>False) w (w.alloc (.cells #[.int .i64 3,.int .u8 yb,.int .i64 yl,.int .i64 1] 34))):=cA
 clear hbx cA c22 c23 c24 c25 c26
 go_enter Tryz.func72,Tryz.ntmps72
 go_wp2_with fail
 go_quiet (fail)
 go_wp2
 go_ret
 exact⟨rfl,HC.out.trans (chg_drewN _ _) (fun _ f=>f.elim)⟩
set_option maxHeartbeats 2000000 in
theorem dist32 (a:Nat)(s:Stt)(yb yl:Int)(w:World)(c22:w.cell? ⟨a,22,none⟩=some (.int .i64 s.n))(c23:w.cell? ⟨a,23,none⟩=some (.int .i64 s.a))(c24:w.cell? ⟨a,24,none⟩=some (.int .i64 s.b))(c25:w.cell? ⟨a,25,none⟩=some (.int .i64 s.c))(c26:w.cell? ⟨a,26,none⟩=some (.int .i64 s.d)):Calls Tryz.prog 72 #[.pointer (some ⟨a,0,none⟩),.agg #[.int .i64 3,.int .u8 yb,.int .i64 yl,.int .i64 2]] w fun e w'=>e= .returned (.int .i64 s.c)∧Chg (fun _=>False) w w':=by
 have cA:=chg_one w (.cells #[.int .i64 3,.int .u8 yb,.int .i64 yl,.int .i64 2] 34)
 have hbx:(w.alloc (.cells #[.int .i64 3,.int .u8 yb,.int .i64 yl,.int .i64 2] 34)).heap[w.heap.size]?=some (.cells #[.int .i64 3,.int .u8 yb,.int .i64 yl,.int .i64 2] 34 (0,0)):=heap_alloc_last _ _
 obtain⟨z0,z1,z2,z3⟩:=cells4y hbx
 have x23:=cell_chg c23 cA
 have x24:=cell_chg c24 cA
 have x25:=cell_chg c25 cA
 have x26:=cell_chg c26 cA
 have HC:Hid (Chg (fun _=>False) w (w.alloc (.cells #[.int .i64 3,.int .u8 yb,.int .i64 yl,.int .i64 2] 34))):=cA
 clear hbx cA c22 c23 c24 c25 c26
 go_enter Tryz.func72,Tryz.ntmps72
 go_wp2_with fail
 go_quiet (fail)
 go_wp2
 go_ret
 exact⟨rfl,HC.out.trans (chg_drewN _ _) (fun _ f=>f.elim)⟩
set_option maxHeartbeats 2000000 in
theorem dist33 (a:Nat)(s:Stt)(yb yl:Int)(w:World)(c22:w.cell? ⟨a,22,none⟩=some (.int .i64 s.n))(c23:w.cell? ⟨a,23,none⟩=some (.int .i64 s.a))(c24:w.cell? ⟨a,24,none⟩=some (.int .i64 s.b))(c25:w.cell? ⟨a,25,none⟩=some (.int .i64 s.c))(c26:w.cell? ⟨a,26,none⟩=some (.int .i64 s.d)):Calls Tryz.prog 72 #[.pointer (some ⟨a,0,none⟩),.agg #[.int .i64 3,.int .u8 yb,.int .i64 yl,.int .i64 3]] w fun e w'=>e= .returned (.int .i64 s.d)∧Chg (fun _=>False) w w':=by
 have cA:=chg_one w (.cells #[.int .i64 3,.int .u8 yb,.int .i64 yl,.int .i64 3] 34)
 have hbx:(w.alloc (.cells #[.int .i64 3,.int .u8 yb,.int .i64 yl,.int .i64 3] 34)).heap[w.heap.size]?=some (.cells #[.int .i64 3,.int .u8 yb,.int .i64 yl,.int .i64 3] 34 (0,0)):=heap_alloc_last _ _
 obtain⟨z0,z1,z2,z3⟩:=cells4y hbx
 have x23:=cell_chg c23 cA
 have x24:=cell_chg c24 cA
 have x25:=cell_chg c25 cA
 have x26:=cell_chg c26 cA
 have HC:Hid (Chg (fun _=>False) w (w.alloc (.cells #[.int .i64 3,.int .u8 yb,.int .i64 yl,.int .i64 3] 34))):=cA
 clear hbx cA c22 c23 c24 c25 c26
 go_enter Tryz.func72,Tryz.ntmps72
 go_wp2_with fail
 go_quiet (fail)
 go_wp2
 go_ret
 exact⟨rfl,HC.out.trans (chg_drewN _ _) (fun _ f=>f.elim)⟩
set_option maxHeartbeats 2000000 in
theorem dist4 (a:Nat)(s:Stt)(yb yl yd:Int)(w:World)(c22:w.cell? ⟨a,22,none⟩=some (.int .i64 s.n))(c23:w.cell? ⟨a,23,none⟩=some (.int .i64 s.a))(c24:w.cell? ⟨a,24,none⟩=some (.int .i64 s.b))(c25:w.cell? ⟨a,25,none⟩=some (.int .i64 s.c))(c26:w.cell? ⟨a,26,none⟩=some (.int .i64 s.d)):Calls Tryz.prog 72 #[.pointer (some ⟨a,0,none⟩),.agg #[.int .i64 4,.int .u8 yb,.int .i64 yl,.int .i64 yd]] w fun e w'=>e= .returned (.int .i64 s.a)∧Chg (fun _=>False) w w':=by
 have cA:=chg_one w (.cells #[.int .i64 4,.int .u8 yb,.int .i64 yl,.int .i64 yd] 34)
 have hbx:(w.alloc (.cells #[.int .i64 4,.int .u8 yb,.int .i64 yl,.int .i64 yd] 34)).heap[w.heap.size]?=some (.cells #[.int .i64 4,.int .u8 yb,.int .i64 yl,.int .i64 yd] 34 (0,0)):=heap_alloc_last _ _
 obtain⟨z0,z1,z2,z3⟩:=cells4y hbx
 have x23:=cell_chg c23 cA
 have x24:=cell_chg c24 cA
 have x25:=cell_chg c25 cA
 have x26:=cell_chg c26 cA
 have HC:Hid (Chg (fun _=>False) w (w.alloc (.cells #[.int .i64 4,.int .u8 yb,.int .i64 yl,.int .i64 yd] 34))):=cA
 clear hbx cA c22 c23 c24 c25 c26
 go_enter Tryz.func72,Tryz.ntmps72
 go_wp2_with fail
 go_wp2
 go_ret
 exact⟨rfl,HC.out⟩
theorem dist_any (a:Nat)(s:Stt)(k yb yl yd:Int)(hf:formed ⟨k,yb,yl,yd⟩=0)(hk1:k≠1)(w:World)(c22:w.cell? ⟨a,22,none⟩=some (.int .i64 s.n))(c23:w.cell? ⟨a,23,none⟩=some (.int .i64 s.a))(c24:w.cell? ⟨a,24,none⟩=some (.int .i64 s.b))(c25:w.cell? ⟨a,25,none⟩=some (.int .i64 s.c))(c26:w.cell? ⟨a,26,none⟩=some (.int .i64 s.d)):Calls Tryz.prog 72 #[.pointer (some ⟨a,0,none⟩),.agg #[.int .i64 k,.int .u8 yb,.int .i64 yl,.int .i64 yd]] w fun e w'=>e= .returned (.int .i64 (distS s ⟨k,yb,yl,yd⟩))∧Chg (fun _=>False) w w':=by
 have hk:=formed_kind hf
 simp only at hk
 rcases hk with rfl|⟨rfl,_,_,h3,h4⟩|⟨rfl,_,_,h3,h4⟩|rfl
 ·exact absurd rfl hk1
 ·exact dist2 a s yb yl yd w c22 c23 c24 c25 c26
 ·have hyd:yd=0∨yd=1∨yd=2∨yd=3:=by omega
  clear h3 h4
  rcases hyd with rfl|rfl|rfl|rfl
  ·exact dist30 a s yb yl w c22 c23 c24 c25 c26
  ·exact dist31 a s yb yl w c22 c23 c24 c25 c26
  ·exact dist32 a s yb yl w c22 c23 c24 c25 c26
  ·exact dist33 a s yb yl w c22 c23 c24 c25 c26
 ·exact dist4 a s yb yl yd w c22 c23 c24 c25 c26
set_option maxHeartbeats 4000000 in
set_option maxRecDepth 100000 in
theorem refuses_q (S:StSpec Tab)(B a wa:Nat)(vw:Value)(n:Nat)(bs:List Nat)(s:Stt)(k yb yl yd:Int)(hs:s.I)(hy:(⟨k,yb,yl,yd⟩:Sym).I)(w:World)(hT:Tab w)(hW:Win w B wa vw n bs)(hbl:bs.length≤1152921504606846976)(c21:w.cell? ⟨a,21,none⟩=some (.pointer (some ⟨wa,0,none⟩)))(c22:w.cell? ⟨a,22,none⟩=some (.int .i64 s.n))(c23:w.cell? ⟨a,23,none⟩=some (.int .i64 s.a))(c24:w.cell? ⟨a,24,none⟩=some (.int .i64 s.b))(c25:w.cell? ⟨a,25,none⟩=some (.int .i64 s.c))(c26:w.cell? ⟨a,26,none⟩=some (.int .i64 s.d)):Calls Tryz.prog 36 #[.pointer (some ⟨a,0,none⟩),.agg #[.int .i64 k,.int .u8 yb,.int .i64 yl,.int .i64 yd]] w fun e w'=>e= .returned (.int .i64 (app n bs s ⟨k,yb,yl,yd⟩).2.2)∧Chg (fun _=>False) w w':=by
 have cA:=chg_one w (.cells #[.int .i64 k,.int .u8 yb,.int .i64 yl,.int .i64 yd] 34)
 have HY:Hid ((w.alloc (.cells #[.int .i64 k,.int .u8 yb,.int .i64 yl,.int .i64 yd] 34)).heap[w.heap.size]?=some (.cells #[.int .i64 k,.int .u8 yb,.int .i64 yl,.int .i64 yd] 34 (0,0))):=heap_alloc_last _ _
 have HC:Hid (Chg (fun _=>False) w (w.alloc (.cells #[.int .i64 k,.int .u8 yb,.int .i64 yl,.int .i64 yd] 34))):=cA
 have HT:Hid (Tab (w.alloc (.cells #[.int .i64 k,.int .u8 yb,.int .i64 yl,.int .i64 yd] 34))):=tab_keep hT cA
 have HW:Hid (Win (w.alloc (.cells #[.int .i64 k,.int .u8 yb,.int .i64 yl,.int .i64 yd] 34)) B wa vw n bs):=winSpec.new hW cA
 have x21:=cell_chg c21 cA
 have x22:=cell_chg c22 cA
 have x23:=cell_chg c23 cA
 have x24:=cell_chg c24 cA
 have x25:=cell_chg c25 cA
 have x26:=cell_chg c26 cA
 obtain⟨t,er,hx⟩: ∃t er,nxt s ⟨k,yb,yl,yd⟩=(t,er):=⟨_,_,rfl⟩
 have HX:Hid (nxt s ⟨k,yb,yl,yd⟩=(t,er)):=hx
 have HNX:Hid (∀w_,Tab w_→Calls Tryz.prog 70 #[.agg #[.int .i64 s.n,.int .i64 s.a,.int .i64 s.b,.int .i64 s.c,.int .i64 s.d],.agg #[.int .i64 k,.int .u8 yb,.int .i64 yl,.int .i64 yd]] w_ fun e w'=>e= .returned (.tuple #[.agg #[.int .i64 t.n,.int .i64 t.a,.int .i64 t.b,.int .i64 t.c,.int .i64 t.d],.int .i64 er])∧Chg (fun _=>False) w_ w'):=fun w_ h=>by
  have h9:=S.next s ⟨k,yb,yl,yd⟩ w_ h hs hy
  rw [hx]at h9
  exact h9
 clear cA hT hW hx c21 c22 c23 c24 c25 c26
 go_enter Tryz.func36,Tryz.ntmps36
 go_wp2_with fail
 generalize w.alloc (.cells #[.int .i64 k,.int .u8 yb,.int .i64 yl,.int .i64 yd] 34)=W0 at*
 refine wp_region_setM (mk:=fun u=> #[_,_,_,_,_,u 5,_,_,_,u 9,u 10,u 11,u 12,u 13,u 14,u 15,u 16,u 17,_,_,_,_,_,_,_,_,_,_,_,_,_,_,_,_,_,_]) (G:=lookG [(10,.pointer (some ⟨a,0,none⟩)),(11,.pointer (some ⟨a,0,none⟩)),(12,.pointer (some ⟨a,22,none⟩)),(13,.agg #[.int .i64 s.n,.int .i64 s.a,.int .i64 s.b,.int .i64 s.c,.int .i64 s.d]),(14,.agg #[.int .i64 k,.int .u8 yb,.int .i64 yl,.int .i64 yd])]) (J:=fun L_ u ww=>Chg (fun _=>False) W0 ww∧((L_ 5=false∧L_ 6=false∧L_ 7=false∧L_ 8=false∧L_ 10=false∧Chg (fun _=>False) W0 ww)∨(L_ 5=true∧ ∃gz,u 15= .tuple #[.agg #[.int .i64 t.n,.int .i64 t.a,.int .i64 t.b,.int .i64 t.c,.int .i64 t.d],.int .i64 er]∧(L_ 6=true→u 9= .tuple #[.agg #[.int .i64 t.n,.int .i64 t.a,.int .i64 t.b,.int .i64 t.c,.int .i64 t.d],.int .i64 er])∧(L_ 7=true→u 16= .agg #[.int .i64 t.n,.int .i64 t.a,.int .i64 t.b,.int .i64 t.c,.int .i64 t.d])∧(L_ 8=true→u 17= .int .i64 er)∧(gz=(0:Nat))))∧(L_ 9=true→ ∃b7,u 5= .pointer (some ⟨b7,0,none⟩)∧W0.heap.size≤b7∧ww.heap[b7]?=some (.cells (if L_ 10=true then #[.int .i64 t.n,.int .i64 t.a,.int .i64 t.b,.int .i64 t.c,.int .i64 t.d]else #[.int .i64 0,.int .i64 0,.int .i64 0,.int .i64 0,.int .i64 0]) 88 (0,0)))∧(L_ 10=true→L_ 9=true)) [5,6,7,8,9,10] ([]) (fun _=>undef) rfl (by kernel_rfl) 11 _ rfl rfl (by kernel_rfl) (by kernel_rfl) ?_ ?_ ?_ ?_ ?_
 ·repeat (refine⟨fun _ _=>rfl,?_⟩)
  exact trivial
 ·intro L_ L2 u u2 ww h hj
  have l5_:L_ 5=L2 5:=(h 5 (by decide)).1
  have e5_:u 15=u2 15:=(h 5 (by decide)).2
  have l6_:L_ 6=L2 6:=(h 6 (by decide)).1
  have e6_:u 9=u2 9:=(h 6 (by decide)).2
  have l7_:L_ 7=L2 7:=(h 7 (by decide)).1
  have e7_:u 16=u2 16:=(h 7 (by decide)).2
  have l8_:L_ 8=L2 8:=(h 8 (by decide)).1
  have e8_:u 17=u2 17:=(h 8 (by decide)).2
  have l9_:L_ 9=L2 9:=(h 9 (by decide)).1
  have e9_:u 5=u2 5:=(h 9 (by decide)).2
  have l10_:L_ 10=L2 10:=(h 10 (by decide)).1
  show _∧_
  rw [←l5_,←e5_,←l6_,←e6_,←l7_,←e7_,←l8_,←e8_,←l9_,←e9_,←l10_]
  exact hj
 ·exact⟨(Chg.refl _ W0).drew,.inl ⟨rfl,rfl,rfl,rfl,rfl,(Chg.refl _ W0).drew⟩,(fun h=>nomatch h),(fun h=>nomatch h)⟩
 ·refine⟨?_,?_,?_,?_,?_,?_,?_,?_,?_,?_,?_,trivial⟩
  ·show StepRS _ _ _ _ _ _ _ _
   unfold StepRS
   intro L_ u w_ hj hd K hK
   clear hd
   have hc:=hj.1
   clear hj hc
   go_simp
   exact hK.out _ rfl
  ·show StepRS _ _ _ _ _ _ _ _
   unfold StepRS
   intro L_ u w_ hj hd K hK
   have h10:u 10= .pointer (some ⟨a,0,none⟩):=hd.get 0 (by kernel_rfl)
   clear hd
   simp only [h10]at hK
   have hc:=hj.1
   clear hj hc
   go_simp
   exact hK.out _ rfl
  ·show StepRS _ _ _ _ _ _ _ _
   unfold StepRS
   intro L_ u w_ hj hd K hK
   have h11:u 11= .pointer (some ⟨a,0,none⟩):=hd.get 1 (by kernel_rfl)
   clear hd
   simp only [h11]at hK
   have hc:=hj.1
   clear hj hc
   go_simp
   exact hK.out _ rfl
  ·show StepRS _ _ _ _ _ _ _ _
   unfold StepRS
   intro L_ u w_ hj hd K hK
   have h12:u 12= .pointer (some ⟨a,22,none⟩):=hd.get 2 (by kernel_rfl)
   clear hd
   simp only [h12]at hK
   have hc:=hj.1
   have v22:=cell_chg x22 hc
   have v23:=cell_chg x23 hc
   have v24:=cell_chg x24 hc
   have v25:=cell_chg x25 hc
   have v26:=cell_chg x26 hc
   clear hj hc
   go_simp
   exact hK.out _ rfl
  ·show StepRS _ _ _ _ _ _ _ _
   unfold StepRS
   intro L_ u w_ hj hd K hK
   clear hd
   have hc:=hj.1
   obtain⟨x0,x1,x2,x3⟩:=cells4y (blk_keep HY.out hc (fun f=>f))
   clear hj hc
   go_simp
   exact hK.out _ rfl
  ·show StepWS _ _ _ _ _ _ _ _ _
   unfold StepWS
   intro L_ u w_ hj hli hwt hd K hK
   have h13:u 13= .agg #[.int .i64 s.n,.int .i64 s.a,.int .i64 s.b,.int .i64 s.c,.int .i64 s.d]:=hd.get 3 (by kernel_rfl)
   have h14:u 14= .agg #[.int .i64 k,.int .u8 yb,.int .i64 yl,.int .i64 yd]:=hd.get 4 (by kernel_rfl)
   clear hd
   simp only [h13,h14]at hK
   obtain⟨hc,hm,ha,hs⟩:=hj
   rcases hm with⟨n15,n9,n16,n17,ns,hF⟩|⟨l15,_⟩
   ·have m9: ¬L_ 6=true:=by rw [n9];decide
    have m16: ¬L_ 7=true:=by rw [n16];decide
    have m17: ¬L_ 8=true:=by rw [n17];decide
    go_simp
    refine Calls.mono (HNX.out w_ (tab_keep HT.out hF)) ?_
    rintro z w2 ⟨rfl,c2⟩
    skip
    exact hK.out _ w2 ⟨hc.trans c2 (fun z f=> .inl f),.inr ⟨rfl,0,rfl,(fun e=>absurd e m9),(fun e=>absurd e m16),(fun e=>absurd e m17),rfl⟩,(fun e=>by obtain⟨b7,e7,hb7,hk7⟩:=ha e;exact⟨b7,e7,hb7,blk_keep hk7 c2 (fun f=>f)⟩),hs⟩ trivial
   ·rw [l15]at hli;cases hli
  ·show StepWS _ _ _ _ _ _ _ _ _
   unfold StepWS
   intro L_ u w_ hj hli hwt hd K hK
   clear hd
   obtain⟨hc,hm,ha,hs⟩:=hj
   have lopr:L_ 5=true:=hwt ⟨5,.data⟩ (by simp) rfl
   rcases hm with⟨n15,n9,n16,n17,ns,hF⟩|⟨l15,gz,e15,q9,q16,q17,hp⟩
   ·rw [n15]at lopr;cases lopr
   ·have eo:=e15
    have HPH:Hid _:=hp
    clear hp
    simp only [eo]at hK⊢
    go_simp
    exact hK.out _ _ ⟨hc,.inr ⟨l15,gz,e15,(fun _=>rfl),q16,q17,HPH.out⟩,ha,hs⟩ trivial
  ·show StepWS _ _ _ _ _ _ _ _ _
   unfold StepWS
   intro L_ u w_ hj hli hwt hd K hK
   clear hd
   obtain⟨hc,hm,ha,hs⟩:=hj
   have lopr:L_ 6=true:=hwt ⟨6,.data⟩ (by simp) rfl
   rcases hm with⟨n15,n9,n16,n17,ns,hF⟩|⟨l15,gz,e15,q9,q16,q17,hp⟩
   ·rw [n9]at lopr;cases lopr
   ·have eo:=q9 lopr
    have HPH:Hid _:=hp
    clear hp
    simp only [eo,e15]at hK⊢
    go_simp
    exact hK.out _ _ ⟨hc,.inr ⟨l15,gz,e15,q9,(fun _=>rfl),q17,HPH.out⟩,ha,hs⟩ trivial
  ·show StepWS _ _ _ _ _ _ _ _ _
   unfold StepWS
   intro L_ u w_ hj hli hwt hd K hK
   clear hd
   obtain⟨hc,hm,ha,hs⟩:=hj
   have lopr:L_ 6=true:=hwt ⟨6,.data⟩ (by simp) rfl
   rcases hm with⟨n15,n9,n16,n17,ns,hF⟩|⟨l15,gz,e15,q9,q16,q17,hp⟩
   ·rw [n9]at lopr;cases lopr
   ·have eo:=q9 lopr
    have HPH:Hid _:=hp
    clear hp
    simp only [eo,e15]at hK⊢
    go_simp
    exact hK.out _ _ ⟨hc,.inr ⟨l15,gz,e15,q9,q16,(fun _=>rfl),HPH.out⟩,ha,hs⟩ trivial
  ·show StepWS _ _ _ _ _ _ _ _ _
   unfold StepWS
   intro L_ u w_ hj hli hwt hd K hK
   clear hd
   obtain⟨hc,hm,ha,hs⟩:=hj
   have nal_:L_ 9≠true:=by rw [hli];decide
   have nst_: ¬L_ 10=true:=fun e=>nal_ (hs e)
   have c2:=chg_one w_ (.cells #[.int .i64 0,.int .i64 0,.int .i64 0,.int .i64 0,.int .i64 0] 88)
   rcases hm with⟨n15,n9,n16,n17,ns,hF⟩|⟨l15,gz,e15,q9,q16,q17,hp⟩
   ·go_simp
    refine hK.out _ _ ⟨hc.trans c2 (fun _ f=>f.elim),.inl ⟨n15,n9,n16,n17,ns,chg_then hF c2⟩,fun _=>⟨_,rfl,hc.size,?_⟩,fun _=>rfl⟩ trivial
    show _=some (Obj.cells (if L_ 10=true then #[.int .i64 t.n,.int .i64 t.a,.int .i64 t.b,.int .i64 t.c,.int .i64 t.d]else #[.int .i64 0,.int .i64 0,.int .i64 0,.int .i64 0,.int .i64 0]) 88 (0,0))
    rw [if_neg nst_]
    exact heap_alloc_last _ _
   ·have c:=c2
    have HP:=hp
    simp only [e15]at hK⊢
    go_simp
    refine hK.out _ _ ⟨hc.trans c2 (fun _ f=>f.elim),.inr ⟨l15,gz,e15,q9,q16,q17,HP⟩,fun _=>⟨_,rfl,hc.size,?_⟩,fun _=>rfl⟩ trivial
    show _=some (Obj.cells (if L_ 10=true then #[.int .i64 t.n,.int .i64 t.a,.int .i64 t.b,.int .i64 t.c,.int .i64 t.d]else #[.int .i64 0,.int .i64 0,.int .i64 0,.int .i64 0,.int .i64 0]) 88 (0,0))
    rw [if_neg nst_]
    exact heap_alloc_last _ _
  ·show StepWS _ _ _ _ _ _ _ _ _
   unfold StepWS
   intro L_ u w_ hj hli hwt hd K hK
   clear hd
   obtain⟨hc,hm,ha,hs⟩:=hj
   have lal_:L_ 9=true:=hwt ⟨9,.data⟩ (by simp) rfl
   have lopr:L_ 7=true:=hwt ⟨7,.data⟩ (by simp) rfl
   have nst_: ¬L_ 10=true:=by rw [hli];decide
   rcases hm with⟨n15,n9,n16,n17,ns,hF⟩|⟨l15,gz,e15,q9,q16,q17,hp⟩
   ·rw [n16]at lopr;cases lopr
   ·have eo:=q16 lopr
    obtain⟨b7,e7,hb7,hk7⟩:=ha lal_
    rw [if_neg nst_]at hk7
    obtain⟨⟨p0,f0⟩,⟨p1,f1⟩,⟨p2,f2⟩,⟨p3,f3⟩,⟨p4,f4⟩,hblk,c⟩:=put5_of hk7 (.int .i64 t.n) (.int .i64 t.a) (.int .i64 t.b) (.int .i64 t.c) (.int .i64 t.d)
    have hb:=hk7
    have HP:Hid _:=hp
    have HL9:Hid (L_ 9=true):=lal_
    have HBK:Hid _:=hblk
    have HCH:Hid (Chg (fun _=>False) W0 _):=hc.trans c (fun z e=> .inr (by omega))
    have HQ:Hid _:=(And.intro l15 (And.intro e15 (And.intro q9 (And.intro q16 q17))))
    clear lal_ nst_ ha hs hblk c hc l15 e15 q9 q16 q17 hp hk7 hb
    simp only [e7,eo]at hK⊢
    go_simp
    obtain⟨l15,e15,q9,q16,q17⟩:=HQ.out
    exact hK.out undef _ ⟨HCH.out,.inr ⟨l15,gz,e15,q9,q16,q17,HP.out⟩,fun _=>⟨b7,e7,hb7,HBK.out⟩,fun _=>HL9.out⟩ trivial
 ·intro u w7 hj hA K hK
  obtain⟨hc7,hm,_,_⟩:=hj
  rcases hm with⟨n8,_⟩|⟨_,gz,e8,_,_,q17,_⟩
  ·cases n8
  have e17:u 17= .int .i64 er:=q17 rfl
  have HC7:Hid (Chg (fun _=>False) w w7):=chg_then HC.out hc7
  have HY7:Hid _:=blk_keep HY.out hc7 (fun f=>f)
  have HW7:Hid (Win w7 B wa vw n bs):=winSpec.new HW.out hc7
  have x21:=cell_chg x21 hc7
  have x22:=cell_chg x22 hc7
  have x23:=cell_chg x23 hc7
  have x24:=cell_chg x24 hc7
  have x25:=cell_chg x25 hc7
  have x26:=cell_chg x26 hc7
  obtain⟨y0,y1,y2,y3⟩:=cells4y HY7.out
  clear hA hc7 e8 q17 HY HC HT HNX HW
  simp only [e17]
  go_simp
  refine hK.out _ _ ?_
  clear hK e17
  by_cases he:er=0
  rotate_left
  ·have HAP:Hid ((app n bs s ⟨k,yb,yl,yd⟩).2.2=er):=by show _=_;unfold app;rw [HX.out,if_pos he]
   have e0:(er==0)=false:=by rw [beq_eq_false_iff_ne];exact he
   have e0':(er !=0)=true:=by simp [he]
   have e0'':decide (er=0)=false:=decide_eq_false he
   clear he
   go_wp2
   go_ret
   exact⟨by rw [HAP.out];rfl,HC7.out⟩
  subst he
  have HRF:Hid (right s∧formed ⟨k,yb,yl,yd⟩=0):=nxt_err (by rw [HX.out])
  by_cases hk1:k=1
  ·subst hk1
   have HAP:Hid ((app n bs s ⟨1,yb,yl,yd⟩).2.2=0):=by show _=_;unfold app;rw [HX.out,if_neg (by simp),if_pos rfl]
   go_wp2
   go_ret
   exact⟨by rw [HAP.out];rfl,HC7.out⟩
  have HDS:Hid (∀u,Chg (fun _=>False) w7 u→Calls Tryz.prog 72 #[.pointer (some ⟨a,0,none⟩),.agg #[.int .i64 k,.int .u8 yb,.int .i64 yl,.int .i64 yd]] u fun e w'=>e= .returned (.int .i64 (distS s ⟨k,yb,yl,yd⟩))∧Chg (fun _=>False) u w'):=fun u hc=>dist_any a s k yb yl yd HRF.out.2 hk1 u (cell_chg x22 hc) (cell_chg x23 hc) (cell_chg x24 hc) (cell_chg x25 hc) (cell_chg x26 hc)
  have HI6:Hid (I64 (distS s ⟨k,yb,yl,yd⟩)):=by
   show I64 _
   unfold distS rep4
   split
   ·exact hy.d
   ·split
    ·split
     ·exact hs.b
     ·split
      ·exact hs.c
      ·split
       ·exact hs.d
       ·exact hs.a
    ·exact hs.a
  have HAP:Hid ((app n bs s ⟨k,yb,yl,yd⟩).2.2=if inwD n bs (distS s ⟨k,yb,yl,yd⟩)then 0 else 7):=by
   show _=_
   unfold app
   rw [HX.out,if_neg (by simp),if_neg hk1]
   split<;>rfl
  generalize distS s ⟨k,yb,yl,yd⟩=ds at*
  have HLA:Hid (∃lb er,er=(if inwD n bs ds then(0:Int)else 7)∧ ∀u,Chg (fun _=>False) w7 u→Calls Tryz.prog 71 #[.pointer (some ⟨wa,0,none⟩),.int .i64 ds] u fun e w'=>e= .returned (.tuple #[.int .u8 lb,.int .i64 er])∧Chg (fun _=>False) u w'):=by
   by_cases hin:inwD n bs ds
   ·refine⟨((backB bs ds.toNat:Nat):Int),0,by rw [if_pos hin],fun u hc=> ?_⟩
    refine(winSpec.last B wa vw n bs ds u (winSpec.new HW7.out hc) hbl HI6.out).mono ?_
    rintro e w' ⟨hh,cc⟩
    rcases hh with⟨k,_⟩|⟨_,k⟩
    ·exact absurd hin k
    ·exact⟨k,cc⟩
   ·refine⟨0,7,by rw [if_neg hin],fun u hc=> ?_⟩
    refine(winSpec.last B wa vw n bs ds u (winSpec.new HW7.out hc) hbl HI6.out).mono ?_
    rintro e w' ⟨hh,cc⟩
    rcases hh with⟨_,k⟩|⟨k,_⟩
    ·exact⟨k,cc⟩
    ·exact absurd k hin
  obtain⟨lb,er,her,HL⟩:=HLA.out
  have HLA:Hid _:=HL
  have HER:Hid ((app n bs s ⟨k,yb,yl,yd⟩).2.2=er):=HAP.out.trans her.symm
  have hkn:decide (k=1)=false:=decide_eq_false hk1
  have hkn':(k==1)=false:=by rw [beq_eq_false_iff_ne];exact hk1
  clear HL her HAP hk1
  go_upto_region 6 with fail
  refine wp_region_setM (mk:=fun u=> #[_,_,_,_,_,_,_,u 7,_,_,_,_,_,_,_,_,_,_,_,_,_,_,_,_,u 24,u 25,u 26,u 27,u 28,u 29,u 30,u 31,u 32,u 33,u 34,_]) (G:=lookG [(25,.pointer (some ⟨a,0,none⟩)),(26,.pointer (some ⟨a,0,none⟩)),(27,.pointer (some ⟨a,21,none⟩)),(28,.pointer (some ⟨wa,0,none⟩)),(29,.pointer (some ⟨a,0,none⟩)),(30,.agg #[.int .i64 k,.int .u8 yb,.int .i64 yl,.int .i64 yd]),(31,.int .i64 ds)]) (J:=fun L_ u ww=>Chg (fun _=>False) w7 ww∧((L_ 7=false∧L_ 8=false∧L_ 9=false∧L_ 10=false∧L_ 11=false∧Chg (fun _=>False) w7 ww)∨(L_ 6=true∧L_ 7=true∧ ∃gz,u 32= .tuple #[.int .u8 lb,.int .i64 er]∧(L_ 8=true→u 24= .tuple #[.int .u8 lb,.int .i64 er])∧(L_ 9=true→u 33= .int .u8 lb)∧(L_ 10=true→u 34= .int .i64 er)∧(L_ 11=true→u 7= .int .u8 lb)∧(gz=(0:Nat))))) [6,7,8,9,10,11] ([]) (fun _=>undef) rfl (by kernel_rfl) 12 _ rfl rfl (by kernel_rfl) (by kernel_rfl) ?_ ?_ ?_ ?_ ?_
  ·repeat (refine⟨fun _ _=>rfl,?_⟩)
   exact trivial
  ·intro L_ L2 u u2 ww h hj
   have l6_:L_ 6=L2 6:=(h 6 (by decide)).1
   have l7_:L_ 7=L2 7:=(h 7 (by decide)).1
   have e7_:u 32=u2 32:=(h 7 (by decide)).2
   have l8_:L_ 8=L2 8:=(h 8 (by decide)).1
   have e8_:u 24=u2 24:=(h 8 (by decide)).2
   have l9_:L_ 9=L2 9:=(h 9 (by decide)).1
   have e9_:u 33=u2 33:=(h 9 (by decide)).2
   have l10_:L_ 10=L2 10:=(h 10 (by decide)).1
   have e10_:u 34=u2 34:=(h 10 (by decide)).2
   have l11_:L_ 11=L2 11:=(h 11 (by decide)).1
   have e11_:u 7=u2 7:=(h 11 (by decide)).2
   show _∧_
   rw [←l6_,←l7_,←e7_,←l8_,←e8_,←l9_,←e9_,←l10_,←e10_,←l11_,←e11_]
   exact hj
  ·exact⟨(Chg.refl _ w7).drew,.inl ⟨rfl,rfl,rfl,rfl,rfl,(Chg.refl _ w7).drew⟩⟩
  ·refine⟨?_,?_,?_,?_,?_,?_,?_,?_,?_,?_,?_,?_,trivial⟩
   ·show StepRS _ _ _ _ _ _ _ _
    unfold StepRS
    intro L_ u w_ hj hd K hK
    clear hd
    have hc:=hj.1
    clear hj hc
    go_simp
    exact hK.out _ rfl
   ·show StepRS _ _ _ _ _ _ _ _
    unfold StepRS
    intro L_ u w_ hj hd K hK
    have h25:u 25= .pointer (some ⟨a,0,none⟩):=hd.get 0 (by kernel_rfl)
    clear hd
    simp only [h25]at hK
    have hc:=hj.1
    clear hj hc
    go_simp
    exact hK.out _ rfl
   ·show StepRS _ _ _ _ _ _ _ _
    unfold StepRS
    intro L_ u w_ hj hd K hK
    have h26:u 26= .pointer (some ⟨a,0,none⟩):=hd.get 1 (by kernel_rfl)
    clear hd
    simp only [h26]at hK
    have hc:=hj.1
    clear hj hc
    go_simp
    exact hK.out _ rfl
   ·show StepRS _ _ _ _ _ _ _ _
    unfold StepRS
    intro L_ u w_ hj hd K hK
    have h27:u 27= .pointer (some ⟨a,21,none⟩):=hd.get 2 (by kernel_rfl)
    clear hd
    simp only [h27]at hK
    have hc:=hj.1
    have v21:=cell_chg x21 hc
    clear hj hc
    go_simp
    exact hK.out _ rfl
   ·show StepRS _ _ _ _ _ _ _ _
    unfold StepRS
    intro L_ u w_ hj hd K hK
    clear hd
    have hc:=hj.1
    clear hj hc
    go_simp
    exact hK.out _ rfl
   ·show StepRS _ _ _ _ _ _ _ _
    unfold StepRS
    intro L_ u w_ hj hd K hK
    clear hd
    have hc:=hj.1
    obtain⟨x0,x1,x2,x3⟩:=cells4y (blk_keep HY7.out hc (fun f=>f))
    clear hj hc
    go_simp
    exact hK.out _ rfl
   ·show StepWS _ _ _ _ _ _ _ _ _
    unfold StepWS
    intro L_ u w_ hj hli hwt hd K hK
    have h29:u 29= .pointer (some ⟨a,0,none⟩):=hd.get 4 (by kernel_rfl)
    have h30:u 30= .agg #[.int .i64 k,.int .u8 yb,.int .i64 yl,.int .i64 yd]:=hd.get 5 (by kernel_rfl)
    clear hd
    simp only [h29,h30]at hK
    obtain⟨hc,hm⟩:=hj
    rcases hm with⟨n32,n24,n33,n34,n7,hF⟩|⟨l31,l32,_⟩
    ·go_simp
     refine Calls.mono (HDS.out w_ hF) ?_
     rintro z w2 ⟨rfl,c2⟩
     exact hK.out _ w2 ⟨hc.trans c2 (fun _ f=>f.elim),.inl ⟨n32,n24,n33,n34,n7,chg_then hF c2⟩⟩ rfl
    ·rw [l31]at hli;cases hli
   ·show StepWS _ _ _ _ _ _ _ _ _
    unfold StepWS
    intro L_ u w_ hj hli hwt hd K hK
    have h28:u 28= .pointer (some ⟨wa,0,none⟩):=hd.get 3 (by kernel_rfl)
    have h31:u 31= .int .i64 ds:=hd.get 6 (by kernel_rfl)
    clear hd
    simp only [h28,h31]at hK
    obtain⟨hc,hm⟩:=hj
    rcases hm with⟨n32,n24,n33,n34,n7,hF⟩|⟨l31,l32,_⟩
    ·have m24: ¬L_ 8=true:=by rw [n24];decide
     have m33: ¬L_ 9=true:=by rw [n33];decide
     have m34: ¬L_ 10=true:=by rw [n34];decide
     have m7: ¬L_ 11=true:=by rw [n7];decide
     have l31:L_ 6=true:=hwt ⟨6,.data⟩ (by simp) rfl
     go_simp
     refine Calls.mono (HLA.out w_ hF) ?_
     rintro z w2 ⟨rfl,c2⟩
     skip
     exact hK.out _ w2 ⟨hc.trans c2 (fun z f=> .inl f),.inr ⟨l31,rfl,0,rfl,(fun e=>absurd e m24),(fun e=>absurd e m33),(fun e=>absurd e m34),(fun e=>absurd e m7),rfl⟩⟩ trivial
    ·rw [l32]at hli;cases hli
   ·show StepWS _ _ _ _ _ _ _ _ _
    unfold StepWS
    intro L_ u w_ hj hli hwt hd K hK
    clear hd
    obtain⟨hc,hm⟩:=hj
    have lopr:L_ 7=true:=hwt ⟨7,.data⟩ (by simp) rfl
    rcases hm with⟨n32,n24,n33,n34,n7,hF⟩|⟨l31,l32,gz,e32,q24,q33,q34,q7,hp⟩
    ·rw [n32]at lopr;cases lopr
    ·have eo:=e32
     have HPH:Hid _:=hp
     clear hp
     simp only [eo]at hK⊢
     go_simp
     exact hK.out _ _ ⟨hc,.inr ⟨l31,l32,gz,e32,(fun _=>rfl),q33,q34,q7,HPH.out⟩⟩ trivial
   ·show StepWS _ _ _ _ _ _ _ _ _
    unfold StepWS
    intro L_ u w_ hj hli hwt hd K hK
    clear hd
    obtain⟨hc,hm⟩:=hj
    have lopr:L_ 8=true:=hwt ⟨8,.data⟩ (by simp) rfl
    rcases hm with⟨n32,n24,n33,n34,n7,hF⟩|⟨l31,l32,gz,e32,q24,q33,q34,q7,hp⟩
    ·rw [n24]at lopr;cases lopr
    ·have eo:=q24 lopr
     have HPH:Hid _:=hp
     clear hp
     simp only [eo,e32]at hK⊢
     go_simp
     exact hK.out _ _ ⟨hc,.inr ⟨l31,l32,gz,e32,q24,(fun _=>rfl),q34,q7,HPH.out⟩⟩ trivial
   ·show StepWS _ _ _ _ _ _ _ _ _
    unfold StepWS
    intro L_ u w_ hj hli hwt hd K hK
    clear hd
    obtain⟨hc,hm⟩:=hj
    have lopr:L_ 8=true:=hwt ⟨8,.data⟩ (by simp) rfl
    rcases hm with⟨n32,n24,n33,n34,n7,hF⟩|⟨l31,l32,gz,e32,q24,q33,q34,q7,hp⟩
    ·rw [n24]at lopr;cases lopr
    ·have eo:=q24 lopr
     have HPH:Hid _:=hp
     clear hp
     simp only [eo,e32]at hK⊢
     go_simp
     exact hK.out _ _ ⟨hc,.inr ⟨l31,l32,gz,e32,q24,q33,(fun _=>rfl),q7,HPH.out⟩⟩ trivial
   ·show StepWS _ _ _ _ _ _ _ _ _
    unfold StepWS
    intro L_ u w_ hj hli hwt hd K hK
    clear hd
    obtain⟨hc,hm⟩:=hj
    have lopr:L_ 9=true:=hwt ⟨9,.data⟩ (by simp) rfl
    rcases hm with⟨n32,n24,n33,n34,n7,hF⟩|⟨l31,l32,gz,e32,q24,q33,q34,q7,hp⟩
    ·rw [n33]at lopr;cases lopr
    ·have eo:=q33 lopr
     have HPH:Hid _:=hp
     clear hp
     simp only [eo,e32]at hK⊢
     go_simp
     exact hK.out _ _ ⟨hc,.inr ⟨l31,l32,gz,e32,q24,q33,q34,(fun _=>rfl),HPH.out⟩⟩ trivial
  ·intro u w8 hj hA K hK
   obtain⟨hc8,hm⟩:=hj
   rcases hm with⟨n8,_⟩|⟨_,_,gz,e8,q24,q33,q34,q7,_⟩
   ·cases n8
   have e34:u 34= .int .i64 er:=q34 rfl
   have e7:u 7= .int .u8 lb:=q7 rfl
   have HC8:Hid (Chg (fun _=>False) w w8):=chg_then HC7.out hc8
   clear hA hc8 e8 q24 q33 q34 q7 HY7 HC7 HW7 HDS HLA
   simp only [e34,e7]
   go_simp
   refine hK.out _ _ ?_
   clear hK e34 e7
   go_wp2
   go_ret
   exact⟨by rw [HER.out];rfl,HC8.out⟩
end Go.Proofs.YthideplpcnhncaaGreatDoor
