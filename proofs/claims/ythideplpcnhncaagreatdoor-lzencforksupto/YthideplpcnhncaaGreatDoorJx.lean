/- Of no statement by itself: Jx (without blanks and remarks). -/
import Derived.Test.YthideplpcnhncaaGreatDoorB30Ju
namespace Go.Proofs.YthideplpcnhncaaGreatDoor
open Go.RowKit
open St12 Sy13 Lz14
set_option linter.unusedVariables false
set_option linter.unusedSimpArgs false
structure CfI (W:World) (B:Nat) (p:Prp) (pr:Nm→Nat→Int) (n:Nat) (bs:List Nat) (s:Stt) (D:Dir) (V:Lst) (wa:Nat) (vw:Value) (g:Nat) (Z:Array Value) (q:Nat) (x6 x11 x16:Value) (w:World):Prop where
 ch:Chg (fun _=>False) W w
 e6:0<q→x6= .agg (tabC p D V)∧Part w B p pr 18 D V
 e11:1<q→x11= .pointer (some ⟨wa,0,none⟩)∧Win w B wa vw n bs
 e16:2<q→x16= .agg (codC p D V wa s)
 z:w.heap[g]?=some (.cells Z 91 (0,0))
def CfJ (W:World)(B:Nat)(p:Prp)(pr:Nm→Nat→Int)(n:Nat)(bs:List Nat)(s:Stt)(g:Nat)(Z:Array Value)(q:Nat)(x6 x11 x16:Value)(w:World):Prop:= ∃D V wa vw,CfI W B p pr n bs s D V wa vw g Z q x6 x11 x16 w
def Z27:Array Value:= #[.int .i64 0,.int .i64 0,.int .i64 0,.slice none 0 0,.slice none 0 0,.pointer none,.pointer none,.pointer none,.pointer none,.slice none 0 0,.pointer none,.slice none 0 0,.slice none 0 0,.pointer none,.pointer none,.slice none 0 0,.slice none 0 0,.pointer none,.slice none 0 0,.slice none 0 0,.pointer none,.pointer none,.int .i64 0,.int .i64 0,.int .i64 0,.int .i64 0,.int .i64 0]
theorem ptr_one (x:Option Addr):(Value.pointer x).oneCell'=true:=rfl
theorem cod_one {w:World}{B:Nat}{p:Prp}{pr:Nm→Nat→Int}{D:Dir}{V:Lst}(h:Part w B p pr 18 D V)(wa:Nat)(s:Stt):(codC p D V wa s).all (·.oneCell')=true:=by
 have h0:=ls_one (h.ls 0 (by omega) rfl)
 have h1:=ls_one (h.ls 1 (by omega) rfl)
 have h6:=ls_one (h.ls 6 (by omega) rfl)
 have h8:=ls_one (h.ls 8 (by omega) rfl)
 have h9:=ls_one (h.ls 9 (by omega) rfl)
 have h12:=ls_one (h.ls 12 (by omega) rfl)
 have h13:=ls_one (h.ls 13 (by omega) rfl)
 have h15:=ls_one (h.ls 15 (by omega) rfl)
 have h16:=ls_one (h.ls 16 (by omega) rfl)
 simp [codC,pt_one,ptr_one,h0,h1,h6,h8,h9,h12,h13,h15,h16,int_one]
set_option maxHeartbeats 4000000 in
set_option maxRecDepth 100000 in
theorem codfork (p:Prp)(hp:allow p)(pr:Nm→Nat→Int)(n:Nat)(bs:List Nat)(s:Stt)(B B0 a:Nat)(D0:Dir)(V0:Lst)(wa:Nat)(vw:Value)(w0:World)(h0:Part w0 B0 p pr 18 D0 V0)(hw:Win w0 B0 wa vw n bs)(hB:B≤w0.heap.size)(hr:w0.rangeAt a 0 (codC p D0 V0 wa s).toList):Calls Tryz.prog 40 #[.pointer (some ⟨a,0,none⟩)] w0 fun e w'=> ∃D V wa2 vw2,e= .returned (.agg (codC p D V wa2 s))∧Part w' B p pr 18 D V∧Win w' B wa2 vw2 n bs∧Chg (fun _=>False) w0 w':=by
 have cA:=chg_one w0 (.cells Z27 91)
 have HB:Hid (B≤(w0.alloc (.cells Z27 91)).heap.size):=Nat.le_trans hB cA.size
 have HZ:Hid ((w0.alloc (.cells Z27 91)).heap[w0.heap.size]?=some (.cells Z27 91 (0,0))):=heap_alloc_last _ _
 have HP0:Hid (Part (w0.alloc (.cells Z27 91)) B0 p pr 18 D0 V0):=h0.new cA
 have HW:Hid (Win (w0.alloc (.cells Z27 91)) B0 wa vw n bs):=winSpec.new hw cA
 have HC:Hid (Chg (fun _=>False) w0 (w0.alloc (.cells Z27 91))):=cA
 have HRG:Hid ((w0.alloc (.cells Z27 91)).rangeAt a 0 (tabC p D0 V0).toList):=fun j v hv=>cell_chg (hr j v (by
  rw [show(codC p D0 V0 wa s).toList=(tabC p D0 V0).toList++[.pointer (some ⟨wa,0,none⟩),.int .i64 s.n,.int .i64 s.a,.int .i64 s.b,.int .i64 s.c,.int .i64 s.d]from rfl,List.getElem?_append_left (List.getElem?_eq_some_iff.1 hv).1]
  exact hv)) cA
 have X21:Hid ((w0.alloc (.cells Z27 91)).cell? ⟨a,21,none⟩=some (.pointer (some ⟨wa,0,none⟩))):=cell_chg (tab_cell hr 21 _ rfl) cA
 have X22:Hid ((w0.alloc (.cells Z27 91)).cell? ⟨a,22,none⟩=some (.int .i64 s.n)):=cell_chg (tab_cell hr 22 _ rfl) cA
 have X23:Hid ((w0.alloc (.cells Z27 91)).cell? ⟨a,23,none⟩=some (.int .i64 s.a)):=cell_chg (tab_cell hr 23 _ rfl) cA
 have X24:Hid ((w0.alloc (.cells Z27 91)).cell? ⟨a,24,none⟩=some (.int .i64 s.b)):=cell_chg (tab_cell hr 24 _ rfl) cA
 have X25:Hid ((w0.alloc (.cells Z27 91)).cell? ⟨a,25,none⟩=some (.int .i64 s.c)):=cell_chg (tab_cell hr 25 _ rfl) cA
 have X26:Hid ((w0.alloc (.cells Z27 91)).cell? ⟨a,26,none⟩=some (.int .i64 s.d)):=cell_chg (tab_cell hr 26 _ rfl) cA
 unfold Z27 at HB HZ HP0 HW HC HRG X21 X22 X23 X24 X25 X26
 clear h0 hw cA hB hr
 go_enter Tryz.func40,Tryz.ntmps40
 go_wp2_with fail
 generalize w0.alloc (.cells #[.int .i64 0,.int .i64 0,.int .i64 0,.slice none 0 0,.slice none 0 0,.pointer none,.pointer none,.pointer none,.pointer none,.slice none 0 0,.pointer none,.slice none 0 0,.slice none 0 0,.pointer none,.pointer none,.slice none 0 0,.slice none 0 0,.pointer none,.slice none 0 0,.slice none 0 0,.pointer none,.pointer none,.int .i64 0,.int .i64 0,.int .i64 0,.int .i64 0,.int .i64 0] 91)=W at*
 change Hid (W.heap[w0.heap.size]?=some (.cells Z27 91 (0,0)))at HZ
 refine wp_region_setM (mk:=fun u=> #[_,_,_,u 3,u 4,u 5,u 6,u 7,u 8,u 9,u 10,u 11,u 12,u 13,u 14,u 15,u 16]) (G:=lookG [(3,.pointer (some ⟨a,0,none⟩)),(4,.pointer (some ⟨a,0,none⟩)),(5,.pointer (some ⟨a,0,none⟩)),(7,.pointer (some ⟨a,0,none⟩)),(8,.pointer (some ⟨a,0,none⟩)),(9,.pointer (some ⟨a,21,none⟩)),(10,.pointer (some ⟨wa,0,none⟩)),(12,.pointer (some ⟨a,0,none⟩)),(13,.pointer (some ⟨a,0,none⟩)),(14,.pointer (some ⟨a,22,none⟩)),(15,.agg #[.int .i64 s.n,.int .i64 s.a,.int .i64 s.b,.int .i64 s.c,.int .i64 s.d])]) (J:=fun L_ u ww=> ∃q,q≤3∧L_ 3=decide (0<q)∧L_ 8=decide (1<q)∧L_ 13=decide (2<q)∧CfJ W B p pr n bs s w0.heap.size Z27 q (u 6) (u 11) (u 16) ww) [3,8,13] ([]) (fun _=>undef) rfl (by kernel_rfl) 14 _ rfl rfl (by kernel_rfl) (by kernel_rfl) ?_ ?_ ?_ ?_ ?_
 ·repeat (refine⟨fun _ _=>rfl,?_⟩)
  exact trivial
 ·intro L_ L2 u u2 ww h hj
  obtain⟨q,hq,l3,l8,l13,hs⟩:=hj
  have e6_:u 6=u2 6:=(h 3 (by decide)).2
  have e11_:u 11=u2 11:=(h 8 (by decide)).2
  have e16_:u 16=u2 16:=(h 13 (by decide)).2
  rw [e6_,e11_,e16_]at hs
  exact⟨q,hq,((h 3 (by decide)).1).symm.trans l3,((h 8 (by decide)).1).symm.trans l8,((h 13 (by decide)).1).symm.trans l13,hs⟩
 ·exact⟨0,by omega,rfl,rfl,rfl,⟨fun _ _=>(0,.slice none 0 0),fun _=> .slice none 0 0,0,.slice none 0 0,(Chg.refl _ W).drew,(fun e=>absurd e (by omega)),(fun e=>absurd e (by omega)),(fun e=>absurd e (by omega)),HZ.out⟩⟩
 ·refine⟨?_,?_,?_,?_,?_,?_,?_,?_,?_,?_,?_,?_,?_,?_,trivial⟩
  ·show StepRS _ _ _ _ _ _ _ _
   unfold StepRS
   intro L_ u w_ hj hd K hK
   clear hd
   obtain⟨q,hq,l3,l8,l13,hs⟩:=hj
   clear l3 l8 l13
   clear hs hq
   go_simp
   exact hK.out _ rfl
  ·show StepRS _ _ _ _ _ _ _ _
   unfold StepRS
   intro L_ u w_ hj hd K hK
   have h3:u 3= .pointer (some ⟨a,0,none⟩):=hd.get 0 (by kernel_rfl)
   clear hd
   simp only [h3]at hK
   obtain⟨q,hq,l3,l8,l13,hs⟩:=hj
   clear l3 l8 l13
   clear hs hq
   go_simp
   exact hK.out _ rfl
  ·show StepRS _ _ _ _ _ _ _ _
   unfold StepRS
   intro L_ u w_ hj hd K hK
   have h4:u 4= .pointer (some ⟨a,0,none⟩):=hd.get 1 (by kernel_rfl)
   clear hd
   simp only [h4]at hK
   obtain⟨q,hq,l3,l8,l13,hs⟩:=hj
   clear l3 l8 l13
   clear hs hq
   go_simp
   exact hK.out _ rfl
  ·show StepWS _ _ _ _ _ _ _ _ _
   unfold StepWS
   intro L_ u w_ hj hli hwt hd K hK
   have h5:u 5= .pointer (some ⟨a,0,none⟩):=hd.get 2 (by kernel_rfl)
   clear hd
   simp only [h5]at hK
   obtain⟨q,hq,l3,l8,l13,hs⟩:=hj
   have kq: ¬0<q:=fun e=>by rw [l3,decide_eq_true e]at hli;cases hli
   obtain rfl:q=0:=by omega
   clear kq hq
   obtain⟨D_,V_,wa_,vw_,hs⟩:=hs
   go_simp
   refine Calls.mono (tabfork p hp pr B B0 a D0 V0 w_ (HP0.out.new hs.ch) (by have:=hs.ch.size;have:=HB.out;omega) (fun j v hv=>cell_chg (HRG.out j v hv) hs.ch)) ?_
   rintro z w2 ⟨D2,V2,rfl,hp2,c2⟩
   exact hK.out _ w2 ⟨1,by omega,rfl,l8,l13,⟨D2,V2,wa_,vw_,chg_then hs.ch c2,(fun _=>⟨rfl,hp2⟩),(fun e=>absurd e (by omega)),(fun e=>absurd e (by omega)),blk_keep hs.z c2 (fun f=>f)⟩⟩ trivial
  ·show StepRS _ _ _ _ _ _ _ _
   unfold StepRS
   intro L_ u w_ hj hd K hK
   clear hd
   obtain⟨q,hq,l3,l8,l13,hs⟩:=hj
   clear l3 l8 l13
   clear hs hq
   go_simp
   exact hK.out _ rfl
  ·show StepRS _ _ _ _ _ _ _ _
   unfold StepRS
   intro L_ u w_ hj hd K hK
   have h7:u 7= .pointer (some ⟨a,0,none⟩):=hd.get 4 (by kernel_rfl)
   clear hd
   simp only [h7]at hK
   obtain⟨q,hq,l3,l8,l13,hs⟩:=hj
   clear l3 l8 l13
   clear hs hq
   go_simp
   exact hK.out _ rfl
  ·show StepRS _ _ _ _ _ _ _ _
   unfold StepRS
   intro L_ u w_ hj hd K hK
   have h8:u 8= .pointer (some ⟨a,0,none⟩):=hd.get 5 (by kernel_rfl)
   clear hd
   simp only [h8]at hK
   obtain⟨q,hq,l3,l8,l13,hs⟩:=hj
   clear l3 l8 l13
   clear hs hq
   go_simp
   exact hK.out _ rfl
  ·show StepRS _ _ _ _ _ _ _ _
   unfold StepRS
   intro L_ u w_ hj hd K hK
   have h9:u 9= .pointer (some ⟨a,21,none⟩):=hd.get 6 (by kernel_rfl)
   clear hd
   simp only [h9]at hK
   obtain⟨q,hq,l3,l8,l13,hs⟩:=hj
   clear l3 l8 l13
   obtain⟨D_,V_,wa_,vw_,hs⟩:=hs
   have v21:=cell_chg X21.out hs.ch
   clear hs hq
   go_simp
   exact hK.out _ rfl
  ·show StepWS _ _ _ _ _ _ _ _ _
   unfold StepWS
   intro L_ u w_ hj hli hwt hd K hK
   have h10:u 10= .pointer (some ⟨wa,0,none⟩):=hd.get 7 (by kernel_rfl)
   clear hd
   simp only [h10]at hK
   obtain⟨q,hq,l3,l8,l13,hs⟩:=hj
   have kq: ¬1<q:=fun e=>by rw [l8,decide_eq_true e]at hli;cases hli
   have kw:L_ 3=true:=hwt ⟨3,.chain⟩ (by simp) rfl
   rw [l3,decide_eq_true_eq]at kw
   obtain rfl:q=1:=by omega
   clear kq hq kw
   obtain⟨D_,V_,wa_,vw_,hs⟩:=hs
   go_simp
   refine Calls.mono (winSpec.fork B0 wa vw n bs w_ (winSpec.new HW.out hs.ch)) ?_
   rintro z w2 ⟨wa2,vw2,rfl,hw2,c2⟩
   exact hK.out _ w2 ⟨2,by omega,l3,rfl,l13,⟨D_,V_,wa2,vw2,chg_then hs.ch c2,(fun _=>⟨(hs.e6 (by omega)).1,(hs.e6 (by omega)).2.new c2⟩),(fun _=>⟨rfl,winSpec.down hw2 (by have:=hs.ch.size;have:=HB.out;omega)⟩),(fun e=>absurd e (by omega)),blk_keep hs.z c2 (fun f=>f)⟩⟩ trivial
  ·show StepRS _ _ _ _ _ _ _ _
   unfold StepRS
   intro L_ u w_ hj hd K hK
   clear hd
   obtain⟨q,hq,l3,l8,l13,hs⟩:=hj
   clear l3 l8 l13
   clear hs hq
   go_simp
   exact hK.out _ rfl
  ·show StepRS _ _ _ _ _ _ _ _
   unfold StepRS
   intro L_ u w_ hj hd K hK
   have h12:u 12= .pointer (some ⟨a,0,none⟩):=hd.get 9 (by kernel_rfl)
   clear hd
   simp only [h12]at hK
   obtain⟨q,hq,l3,l8,l13,hs⟩:=hj
   clear l3 l8 l13
   clear hs hq
   go_simp
   exact hK.out _ rfl
  ·show StepRS _ _ _ _ _ _ _ _
   unfold StepRS
   intro L_ u w_ hj hd K hK
   have h13:u 13= .pointer (some ⟨a,0,none⟩):=hd.get 10 (by kernel_rfl)
   clear hd
   simp only [h13]at hK
   obtain⟨q,hq,l3,l8,l13,hs⟩:=hj
   clear l3 l8 l13
   clear hs hq
   go_simp
   exact hK.out _ rfl
  ·show StepRS _ _ _ _ _ _ _ _
   unfold StepRS
   intro L_ u w_ hj hd K hK
   have h14:u 14= .pointer (some ⟨a,22,none⟩):=hd.get 11 (by kernel_rfl)
   clear hd
   simp only [h14]at hK
   obtain⟨q,hq,l3,l8,l13,hs⟩:=hj
   clear l3 l8 l13
   obtain⟨D_,V_,wa_,vw_,hs⟩:=hs
   have v22:=cell_chg X22.out hs.ch
   have v23:=cell_chg X23.out hs.ch
   have v24:=cell_chg X24.out hs.ch
   have v25:=cell_chg X25.out hs.ch
   have v26:=cell_chg X26.out hs.ch
   clear hs hq
   go_simp
   exact hK.out _ rfl
  ·show StepWS _ _ _ _ _ _ _ _ _
   unfold StepWS
   intro L_ u w_ hj hli hwt hd K hK
   have h15:u 15= .agg #[.int .i64 s.n,.int .i64 s.a,.int .i64 s.b,.int .i64 s.c,.int .i64 s.d]:=hd.get 12 (by kernel_rfl)
   clear hd
   simp only [h15]at hK
   obtain⟨q,hq,l3,l8,l13,hs⟩:=hj
   have kq: ¬2<q:=fun e=>by rw [l13,decide_eq_true e]at hli;cases hli
   have kw:L_ 8=true:=hwt ⟨8,.data⟩ (by simp) rfl
   rw [l8,decide_eq_true_eq]at kw
   obtain rfl:q=2:=by omega
   clear kq hq kw
   obtain⟨D_,V_,wa_,vw_,hs⟩:=hs
   obtain⟨q6,hpt⟩:=hs.e6 (by omega)
   obtain⟨q11,hwn⟩:=hs.e11 (by omega)
   have HS:Hid _:=hs
   clear hs hwn
   obtain⟨a0,c0,f0⟩:=form1 (hpt.ls 0 (by decide) rfl)
   obtain⟨a1,c1,f1⟩:=form1 (hpt.ls 1 (by decide) rfl)
   obtain⟨a6,c6,f6⟩:=form1 (hpt.ls 6 (by decide) rfl)
   obtain⟨a8,c8,f8⟩:=form1 (hpt.ls 8 (by decide) rfl)
   obtain⟨a9,c9,f9⟩:=form1 (hpt.ls 9 (by decide) rfl)
   obtain⟨a12,c12,f12⟩:=form1 (hpt.ls 12 (by decide) rfl)
   obtain⟨a13,c13,f13⟩:=form1 (hpt.ls 13 (by decide) rfl)
   obtain⟨a15,c15,f15⟩:=form1 (hpt.ls 15 (by decide) rfl)
   obtain⟨a16,c16,f16⟩:=form1 (hpt.ls 16 (by decide) rfl)
   clear hpt
   simp only [tabC,f0,f1,f6,f8,f9,f12,f13,f15,f16,ptV]at q6
   simp only [q6,q11,h15]at hK⊢
   go_simp
   exact hK.out _ _ ⟨3,by omega,l3,l8,rfl,⟨D_,V_,wa_,vw_,HS.out.ch,(fun _=>HS.out.e6 (by omega)),(fun _=>HS.out.e11 (by omega)),(fun _=>by simp only [codC,f0,f1,f6,f8,f9,f12,f13,f15,f16,ptV];rfl),HS.out.z⟩⟩ trivial
 ·intro u w7 hj hA K hK
  obtain⟨q,hq,l3,l8,l13,hs⟩:=hj
  have hqn:2<q:=of_decide_eq_true (Eq.symm l13)
  clear l3 l8 l13
  obtain rfl:q=3:=by omega
  obtain⟨D_,V_,wa_,vw_,hs⟩:=hs
  have q16:=hs.e16 (by omega)
  obtain⟨_,hpt⟩:=hs.e6 (by omega)
  obtain⟨_,hwn⟩:=hs.e11 (by omega)
  have HT1:Hid _:=there_blk hs.z (o:=0) (n:=27) (by show 0+27≤27;omega)
  have HT2:Hid _:=cod_one hpt wa_ s
  have hch:=chg_cells w0.heap.size (codC p D_ V_ wa_ s).toList 0 w7
  have HPN:Hid _:=hpt.off hch (fun z e=>e) hs.z (by decide) (by decide) (by decide)
  have HWN:Hid _:=winSpec.keep hwn hch (fun z f e=>win_off hwn hs.z (by decide) (by decide) (e▸f))
  have HBN:Hid ((w7.setCells w0.heap.size 0 (codC p D_ V_ wa_ s).toList).heap[w0.heap.size]?=some (.cells (codC p D_ V_ wa_ s) 91 (0,0))):=blk_over hs.z (by rfl)
  have HCN:Hid (Chg (fun _=>False) w0 (w7.setCells w0.heap.size 0 (codC p D_ V_ wa_ s).toList)):=(chg_then HC.out hs.ch).trans hch (fun z e=> .inr (by omega))
  clear hs hch hA hq hqn hpt hwn
  simp only [q16]at hK⊢
  refine wp_store_mid 91 (.tmp 2) (.tmp 16) rfl w0.heap.size 0 (codC p D_ V_ wa_ s) rfl rfl HT1.out infoLC HT2.out ?_
  refine hK.out _ _ ?_
  clear hK
  generalize w7.setCells w0.heap.size 0 (codC p D_ V_ wa_ s).toList=WN at*
  go_wp2
  refine bodyPost_ret (results_cell_row rfl _ _ w0.heap.size 91 _ (0,0) _ rfl HBN.out Tryz.underlying91 rfl (by kernel_rfl)) rfl ?_
  exact⟨D_,V_,wa_,vw_,rfl,HPN.out,HWN.out,HCN.out⟩
structure FkI (W:World) (X:Lz) (D:Dir) (V:Lst) (wa:Nat) (vw:Value) (ea:Nat) (ve:Value) (q:Nat) (x6 x11 x12 x13:Value) (w:World):Prop where
 ch:Chg (fun _=>False) W w
 e6:0<q→x6= .agg (codC X.p D V wa X.s)∧Part w W.heap.size X.p X.c.pr 18 D V∧Win w W.heap.size wa vw X.n X.bs
 e11:1<q→x11= .pointer (some ⟨ea,0,none⟩)∧Enc w W.heap.size ea ve X.c.e∧ ∀g,ve.ownBlock=some g→vw.ownBlock≠some g
 e12:2<q→x12= .agg (encC X.p D V wa X.s ea)
 e13:3<q→ ∃b,x13= .pointer (some ⟨b,0,none⟩)∧W.heap.size≤b∧w.heap[b]?=some (.cells (encC X.p D V wa X.s ea) 95 (0,0))
def FkJ (W:World)(X:Lz)(q:Nat)(x6 x11 x12 x13:Value)(w:World):Prop:= ∃D V wa vw ea ve,FkI W X D V wa vw ea ve q x6 x11 x12 x13 w
theorem range_cod {w:World}{B a:Nat}{D:Dir}{V:Lst}{wa:Nat}{vw:Value}{ea:Nat}{ve:Value}{X:Lz}(h:Le w B a D V wa vw ea ve X):w.rangeAt a 0 (codC X.p D V wa X.s).toList:=fun j v hv=>by
 rw [Nat.zero_add]
 refine h.cell j v ?_
 have e:(encC X.p D V wa X.s ea).toList=(codC X.p D V wa X.s).toList++[.pointer (some ⟨ea,0,none⟩)]:=rfl
 rw [←Array.getElem?_toList,e,List.getElem?_append_left (List.getElem?_eq_some_iff.1 hv).1]
 exact hv
set_option maxHeartbeats 4000000 in
set_option maxRecDepth 100000 in
theorem forkc_any {B a:Nat}{D:Dir}{V:Lst}{wa:Nat}{vw:Value}{ea:Nat}{ve:Value}{X:Lz}(w0:World)(h:Le w0 B a D V wa vw ea ve X)(hI:Lz14.I X)(hk:X.c.e.k+5≤140737488355328):Calls Tryz.prog 14 #[.pointer (some ⟨a,0,none⟩)] w0 fun e w'=> ∃a' D' V' wa' vw' ea' ve',e= .returned (.pointer (some ⟨a',0,none⟩))∧Le w' w0.heap.size a' D' V' wa' vw' ea' ve' X∧Chg (fun _=>False) w0 w':=by
 have HL:Hid (Le w0 B a D V wa vw ea ve X):=h
 have HAL:Hid (allow X.p):=hI.al
 have HKB:Hid (X.c.e.k≤140737488355328):=by show _≤_;omega
 have X27:Hid (w0.cell? ⟨a,27,none⟩=some (.pointer (some ⟨ea,0,none⟩))):=h.cell 27 _ rfl
 clear h hI hk
 go_enter Tryz.func14,Tryz.ntmps14
 go_wp2_with fail
 refine wp_region_setM (mk:=fun u=> #[_,_,_,u 3,u 4,u 5,u 6,u 7,u 8,u 9,u 10,u 11,u 12,u 13]) (G:=lookG [(3,.pointer (some ⟨a,0,none⟩)),(4,.pointer (some ⟨a,0,none⟩)),(5,.pointer (some ⟨a,0,none⟩)),(7,.pointer (some ⟨a,0,none⟩)),(8,.pointer (some ⟨a,0,none⟩)),(9,.pointer (some ⟨a,27,none⟩)),(10,.pointer (some ⟨ea,0,none⟩))]) (J:=fun L_ u ww=> ∃q,q≤4∧L_ 3=decide (0<q)∧L_ 8=decide (1<q)∧L_ 9=decide (2<q)∧L_ 10=decide (3<q)∧FkJ w0 X q (u 6) (u 11) (u 12) (u 13) ww) [3,8,9,10] ([]) (fun t=>if t=2 then .pointer none else undef) rfl (by kernel_rfl) 11 _ rfl rfl (by kernel_rfl) (by kernel_rfl) ?_ ?_ ?_ ?_ ?_
 ·repeat (refine⟨fun _ _=>rfl,?_⟩)
  exact trivial
 ·intro L_ L2 u u2 ww h hj
  obtain⟨q,hq,l3,l8,l9,l10,hs⟩:=hj
  have e6_:u 6=u2 6:=(h 3 (by decide)).2
  have e11_:u 11=u2 11:=(h 8 (by decide)).2
  have e12_:u 12=u2 12:=(h 9 (by decide)).2
  have e13_:u 13=u2 13:=(h 10 (by decide)).2
  rw [e6_,e11_,e12_,e13_]at hs
  exact⟨q,hq,((h 3 (by decide)).1).symm.trans l3,((h 8 (by decide)).1).symm.trans l8,((h 9 (by decide)).1).symm.trans l9,((h 10 (by decide)).1).symm.trans l10,hs⟩
 ·exact⟨0,by omega,rfl,rfl,rfl,rfl,⟨fun _ _=>(0,.slice none 0 0),fun _=> .slice none 0 0,0,.slice none 0 0,0,.slice none 0 0,(Chg.refl _ w0).drew,(fun e=>absurd e (by omega)),(fun e=>absurd e (by omega)),(fun e=>absurd e (by omega)),(fun e=>absurd e (by omega))⟩⟩
 ·refine⟨?_,?_,?_,?_,?_,?_,?_,?_,?_,?_,?_,trivial⟩
  ·show StepRS _ _ _ _ _ _ _ _
   unfold StepRS
   intro L_ u w_ hj hd K hK
   clear hd
   obtain⟨q,hq,l3,l8,l9,l10,hs⟩:=hj
   clear l3 l8 l9 l10
   clear hs hq
   go_simp
   exact hK.out _ rfl
  ·show StepRS _ _ _ _ _ _ _ _
   unfold StepRS
   intro L_ u w_ hj hd K hK
   have h3:u 3= .pointer (some ⟨a,0,none⟩):=hd.get 0 (by kernel_rfl)
   clear hd
   simp only [h3]at hK
   obtain⟨q,hq,l3,l8,l9,l10,hs⟩:=hj
   clear l3 l8 l9 l10
   clear hs hq
   go_simp
   exact hK.out _ rfl
  ·show StepRS _ _ _ _ _ _ _ _
   unfold StepRS
   intro L_ u w_ hj hd K hK
   have h4:u 4= .pointer (some ⟨a,0,none⟩):=hd.get 1 (by kernel_rfl)
   clear hd
   simp only [h4]at hK
   obtain⟨q,hq,l3,l8,l9,l10,hs⟩:=hj
   clear l3 l8 l9 l10
   clear hs hq
   go_simp
   exact hK.out _ rfl
  ·show StepWS _ _ _ _ _ _ _ _ _
   unfold StepWS
   intro L_ u w_ hj hli hwt hd K hK
   have h5:u 5= .pointer (some ⟨a,0,none⟩):=hd.get 2 (by kernel_rfl)
   clear hd
   simp only [h5]at hK
   obtain⟨q,hq,l3,l8,l9,l10,hs⟩:=hj
   have kq: ¬0<q:=fun e=>by rw [l3,decide_eq_true e]at hli;cases hli
   obtain rfl:q=0:=by omega
   clear kq hq
   obtain⟨D_,V_,wa_,vw_,ea_,ve_,hs⟩:=hs
   have hl:=HL.out.new hs.ch
   go_simp
   refine Calls.mono (codfork X.p HAL.out X.c.pr X.n X.bs X.s w0.heap.size B a D V wa vw w_ hl.pt hl.win hs.ch.size (range_cod hl)) ?_
   rintro z w2 ⟨D2,V2,wa2,vw2,rfl,hp2,hw2,c2⟩
   exact hK.out _ w2 ⟨1,by omega,rfl,l8,l9,l10,⟨D2,V2,wa2,vw2,ea_,ve_,chg_then hs.ch c2,(fun _=>⟨rfl,hp2,hw2⟩),(fun e=>absurd e (by omega)),(fun e=>absurd e (by omega)),(fun e=>absurd e (by omega))⟩⟩ trivial
  ·show StepRS _ _ _ _ _ _ _ _
   unfold StepRS
   intro L_ u w_ hj hd K hK
   clear hd
   obtain⟨q,hq,l3,l8,l9,l10,hs⟩:=hj
   clear l3 l8 l9 l10
   clear hs hq
   go_simp
   exact hK.out _ rfl
  ·show StepRS _ _ _ _ _ _ _ _
   unfold StepRS
   intro L_ u w_ hj hd K hK
   have h7:u 7= .pointer (some ⟨a,0,none⟩):=hd.get 4 (by kernel_rfl)
   clear hd
   simp only [h7]at hK
   obtain⟨q,hq,l3,l8,l9,l10,hs⟩:=hj
   clear l3 l8 l9 l10
   clear hs hq
   go_simp
   exact hK.out _ rfl
  ·show StepRS _ _ _ _ _ _ _ _
   unfold StepRS
   intro L_ u w_ hj hd K hK
   have h8:u 8= .pointer (some ⟨a,0,none⟩):=hd.get 5 (by kernel_rfl)
   clear hd
   simp only [h8]at hK
   obtain⟨q,hq,l3,l8,l9,l10,hs⟩:=hj
   clear l3 l8 l9 l10
   clear hs hq
   go_simp
   exact hK.out _ rfl
  ·show StepRS _ _ _ _ _ _ _ _
   unfold StepRS
   intro L_ u w_ hj hd K hK
   have h9:u 9= .pointer (some ⟨a,27,none⟩):=hd.get 6 (by kernel_rfl)
   clear hd
   simp only [h9]at hK
   obtain⟨q,hq,l3,l8,l9,l10,hs⟩:=hj
   clear l3 l8 l9 l10
   obtain⟨D_,V_,wa_,vw_,ea_,ve_,hs⟩:=hs
   have v27:=cell_chg X27.out hs.ch
   clear hs hq
   go_simp
   exact hK.out _ rfl
  ·show StepWS _ _ _ _ _ _ _ _ _
   unfold StepWS
   intro L_ u w_ hj hli hwt hd K hK
   have h10:u 10= .pointer (some ⟨ea,0,none⟩):=hd.get 7 (by kernel_rfl)
   clear hd
   simp only [h10]at hK
   obtain⟨q,hq,l3,l8,l9,l10,hs⟩:=hj
   have kq: ¬1<q:=fun e=>by rw [l8,decide_eq_true e]at hli;cases hli
   have kw:L_ 3=true:=hwt ⟨3,.chain⟩ (by simp) rfl
   rw [l3,decide_eq_true_eq]at kw
   obtain rfl:q=1:=by omega
   clear kq hq kw
   obtain⟨D_,V_,wa_,vw_,ea_,ve_,hs⟩:=hs
   have hl:=HL.out.new hs.ch
   have H6:Hid _:=hs.e6 (by omega)
   go_simp
   refine Calls.mono (efork_any B ea ve X.c.e w_ hl.enc HKB.out) ?_
   rintro z w2 ⟨ea2,ve2,rfl,hea,hen,c2⟩
   obtain⟨q6,hpt,hwn⟩:=H6.out
   exact hK.out _ w2 ⟨2,by omega,l3,rfl,l9,l10,⟨D_,V_,wa_,vw_,ea2,ve2,chg_then hs.ch c2,(fun _=>⟨q6,hpt.new c2,winSpec.new hwn c2⟩),(fun _=>⟨rfl,hen.down hs.ch.size,fun g e e2=>by have h8:=(hen.lt3.2.2 g e).1.1;have h9:=(winSpec.lt hwn g (.inr e2)).2;omega⟩),(fun e=>absurd e (by omega)),(fun e=>absurd e (by omega))⟩⟩ trivial
  ·show StepWS _ _ _ _ _ _ _ _ _
   unfold StepWS
   intro L_ u w_ hj hli hwt hd K hK
   clear hd
   obtain⟨q,hq,l3,l8,l9,l10,hs⟩:=hj
   have kq: ¬2<q:=fun e=>by rw [l9,decide_eq_true e]at hli;cases hli
   have kw:L_ 8=true:=hwt ⟨8,.data⟩ (by simp) rfl
   rw [l8,decide_eq_true_eq]at kw
   obtain rfl:q=2:=by omega
   clear kq hq kw
   obtain⟨D_,V_,wa_,vw_,ea_,ve_,hs⟩:=hs
   obtain⟨q6,hpt,_⟩:=hs.e6 (by omega)
   obtain⟨q11,_,_⟩:=hs.e11 (by omega)
   have HS:Hid _:=hs
   clear hs
   obtain⟨a0,c0,f0⟩:=form1 (hpt.ls 0 (by decide) rfl)
   obtain⟨a1,c1,f1⟩:=form1 (hpt.ls 1 (by decide) rfl)
   obtain⟨a6,c6,f6⟩:=form1 (hpt.ls 6 (by decide) rfl)
   obtain⟨a8,c8,f8⟩:=form1 (hpt.ls 8 (by decide) rfl)
   obtain⟨a9,c9,f9⟩:=form1 (hpt.ls 9 (by decide) rfl)
   obtain⟨a12,c12,f12⟩:=form1 (hpt.ls 12 (by decide) rfl)
   obtain⟨a13,c13,f13⟩:=form1 (hpt.ls 13 (by decide) rfl)
   obtain⟨a15,c15,f15⟩:=form1 (hpt.ls 15 (by decide) rfl)
   obtain⟨a16,c16,f16⟩:=form1 (hpt.ls 16 (by decide) rfl)
   clear hpt
   simp only [codC,f0,f1,f6,f8,f9,f12,f13,f15,f16,ptV]at q6
   simp only [q6,q11]at hK⊢
   go_simp
   exact hK.out _ _ ⟨3,by omega,l3,l8,rfl,l10,⟨D_,V_,wa_,vw_,ea_,ve_,HS.out.ch,(fun _=>HS.out.e6 (by omega)),(fun _=>HS.out.e11 (by omega)),(fun _=>by simp only [encC,f0,f1,f6,f8,f9,f12,f13,f15,f16,ptV];rfl),(fun e=>absurd e (by omega))⟩⟩ trivial
  ·show StepWS _ _ _ _ _ _ _ _ _
   unfold StepWS
   intro L_ u w_ hj hli hwt hd K hK
   clear hd
   obtain⟨q,hq,l3,l8,l9,l10,hs⟩:=hj
   have kq: ¬3<q:=fun e=>by rw [l10,decide_eq_true e]at hli;cases hli
   have kw:L_ 9=true:=hwt ⟨9,.data⟩ (by simp) rfl
   rw [l9,decide_eq_true_eq]at kw
   obtain rfl:q=3:=by omega
   clear kq hq kw
   obtain⟨D_,V_,wa_,vw_,ea_,ve_,hs⟩:=hs
   have q12:=hs.e12 (by omega)
   have HS:Hid _:=hs
   have HBX:Hid _:=heap_alloc_last w_ (.cells (encC X.p D_ V_ wa_ X.s ea_) 95)
   have HCX:Hid _:=chg_one w_ (.cells (encC X.p D_ V_ wa_ X.s ea_) 95)
   clear hs
   simp only [q12]at hK⊢
   go_simp
   exact hK.out _ _ ⟨4,by omega,l3,l8,l9,rfl,⟨D_,V_,wa_,vw_,ea_,ve_,chg_then HS.out.ch HCX.out,(fun _=>⟨(HS.out.e6 (by omega)).1,(HS.out.e6 (by omega)).2.1.new HCX.out,winSpec.new (HS.out.e6 (by omega)).2.2 HCX.out⟩),(fun _=>⟨(HS.out.e11 (by omega)).1,(HS.out.e11 (by omega)).2.1.keep2 HCX.out (fun _ _ f=>f),(HS.out.e11 (by omega)).2.2⟩),(fun _=>HS.out.e12 (by omega)),(fun _=>⟨_,rfl,HS.out.ch.size,HBX.out⟩)⟩⟩ trivial
 ·intro u w7 hj hA K hK
  obtain⟨q,hq,l3,l8,l9,l10,hs⟩:=hj
  have hqn:3<q:=of_decide_eq_true (Eq.symm l10)
  clear l3 l8 l9 l10
  obtain rfl:q=4:=by omega
  obtain⟨D_,V_,wa_,vw_,ea_,ve_,hs⟩:=hs
  obtain⟨b,e13,hb,hbk⟩:=hs.e13 (by omega)
  have h6:=(hs.e6 (by omega)).2
  have h11:=(hs.e11 (by omega)).2
  have HF:Hid _:=And.intro hs.ch (And.intro hb (And.intro hbk (And.intro h6 h11)))
  clear hs hA hq hqn hb hbk h6 h11
  simp only [e13]at hK⊢
  go_simp
  refine hK.out _ _ ?_
  clear hK e13
  go_wp2
  go_ret
  obtain⟨hch,hb,hbk,h6,h11⟩:=HF.out
  exact⟨b,D_,V_,wa_,vw_,ea_,ve_,rfl,⟨hb,hbk,h6.1,h6.2,h11.1,h11.2⟩,hch⟩
end Go.Proofs.YthideplpcnhncaaGreatDoor
