/- Of no statement by itself: Vj, Vk, Wr, Ws, Wt, Wp, Wring, Xm, Xa (without blanks and remarks). -/
import Derived.Test.YthideplpcnhncaaGreatDoorVi
import Derived.Test.YthideplpcnhncaaGreatDoorB1LastQ
import Derived.Test.YthideplpcnhncaaGreatDoorB8Ja
import Derived.Test.YthideplpcnhncaaGreatDoorB9Vg
import Derived.Test.YthideplpcnhncaaGreatDoorB4Wb
import Derived.Test.YthideplpcnhncaaGreatDoorWm
import Derived.Laws.CopyOwn
namespace Go.Proofs.YthideplpcnhncaaGreatDoor
open Go.RowKit
open St12
set_option linter.unusedVariables false
set_option linter.unusedSimpArgs false
theorem tbehind (n a b c d k yb yl yd:Int)(hf:formed ⟨k,yb,yl,yd⟩=0): ∃r0 r1 r2 r3,reps ⟨n,a,b,c,d⟩ ⟨k,yb,yl,yd⟩=(r0,r1,r2,r3)∧ ∀w0,Calls Tryz.prog 117 #[.agg #[.int .i64 a,.int .i64 b,.int .i64 c,.int .i64 d],.agg #[.int .i64 k,.int .u8 yb,.int .i64 yl,.int .i64 yd]] w0 fun e w'=>e= .returned (.agg #[.int .i64 r0,.int .i64 r1,.int .i64 r2,.int .i64 r3])∧Chg (fun _=>False) w0 w':=by
 have hk:=formed_kind hf
 simp only at hk
 rcases hk with rfl|⟨rfl,hl1,hl2,hd1,hd2⟩|⟨rfl,hl1,hl2,hd1,hd2⟩|rfl
 ·exact⟨a,b,c,d,rfl,fun w0=>behindo 1 a b c d yb yl yd (by decide) (by decide) w0⟩
 ·exact⟨yd,a,b,c,rfl,fun w0=>behind2 a b c d yb yl yd w0⟩
 ·have hyd:yd=0∨yd=1∨yd=2∨yd=3:=by omega
  rcases hyd with rfl|rfl|rfl|rfl
  ·exact⟨a,b,c,d,rfl,fun w0=>behind30 a b c d yb yl w0⟩
  ·exact⟨b,a,c,d,rfl,fun w0=>behind31 a b c d yb yl w0⟩
  ·exact⟨c,a,b,d,rfl,fun w0=>behind32 a b c d yb yl w0⟩
  ·exact⟨d,a,b,c,rfl,fun w0=>behind33 a b c d yb yl w0⟩
 ·exact⟨a,b,c,d,rfl,fun w0=>behindo 4 a b c d yb yl yd (by decide) (by decide) w0⟩
set_option maxHeartbeats 4000000 in
set_option maxRecDepth 100000 in
theorem tnext_any (n a b c d k yb yl yd:Int)(hs:(⟨n,a,b,c,d⟩:Stt).I)(hy:(⟨k,yb,yl,yd⟩:Sym).I)(w:World)(hT:Tab w):Calls Tryz.prog 70 #[.agg #[.int .i64 n,.int .i64 a,.int .i64 b,.int .i64 c,.int .i64 d],.agg #[.int .i64 k,.int .u8 yb,.int .i64 yl,.int .i64 yd]] w fun e w'=>e= .returned (.tuple #[stv (nxt ⟨n,a,b,c,d⟩ ⟨k,yb,yl,yd⟩).1,.int .i64 (nxt ⟨n,a,b,c,d⟩ ⟨k,yb,yl,yd⟩).2])∧Chg (fun _=>False) w w':=by
 have HS:Hid ((((w.alloc (.cells #[.int .i64 n,.int .i64 a,.int .i64 b,.int .i64 c,.int .i64 d] 88)).alloc (.cells #[.int .i64 k,.int .u8 yb,.int .i64 yl,.int .i64 yd] 34)).alloc (.cells #[.int .i64 0,.int .i64 0,.int .i64 0,.int .i64 0,.int .i64 0] 88)).heap[w.heap.size]?=some (.cells #[.int .i64 n,.int .i64 a,.int .i64 b,.int .i64 c,.int .i64 d] 88 (0,0))):=(Below.heap_alloc _ _ _ (by simp;omega)).trans ((Below.heap_alloc _ _ _ (by simp)).trans (heap_alloc_last w _))
 have HY:Hid ((((w.alloc (.cells #[.int .i64 n,.int .i64 a,.int .i64 b,.int .i64 c,.int .i64 d] 88)).alloc (.cells #[.int .i64 k,.int .u8 yb,.int .i64 yl,.int .i64 yd] 34)).alloc (.cells #[.int .i64 0,.int .i64 0,.int .i64 0,.int .i64 0,.int .i64 0] 88)).heap[w.heap.size+1]?=some (.cells #[.int .i64 k,.int .u8 yb,.int .i64 yl,.int .i64 yd] 34 (0,0))):=by
  have:=heap_alloc_last (w.alloc (.cells #[.int .i64 n,.int .i64 a,.int .i64 b,.int .i64 c,.int .i64 d] 88)) (.cells #[.int .i64 k,.int .u8 yb,.int .i64 yl,.int .i64 yd] 34)
  rw [World.size_alloc]at this
  exact(Below.heap_alloc _ _ _ (by simp)).trans this
 have HZ:Hid ((((w.alloc (.cells #[.int .i64 n,.int .i64 a,.int .i64 b,.int .i64 c,.int .i64 d] 88)).alloc (.cells #[.int .i64 k,.int .u8 yb,.int .i64 yl,.int .i64 yd] 34)).alloc (.cells #[.int .i64 0,.int .i64 0,.int .i64 0,.int .i64 0,.int .i64 0] 88)).heap[w.heap.size+1+1]?=some (.cells #[.int .i64 0,.int .i64 0,.int .i64 0,.int .i64 0,.int .i64 0] 88 (0,0))):=by
  have:=heap_alloc_last ((w.alloc (.cells #[.int .i64 n,.int .i64 a,.int .i64 b,.int .i64 c,.int .i64 d] 88)).alloc (.cells #[.int .i64 k,.int .u8 yb,.int .i64 yl,.int .i64 yd] 34)) (.cells #[.int .i64 0,.int .i64 0,.int .i64 0,.int .i64 0,.int .i64 0] 88)
  rw [World.size_alloc,World.size_alloc]at this
  exact this
 have HC:Hid (Chg (fun _=>False) w (((w.alloc (.cells #[.int .i64 n,.int .i64 a,.int .i64 b,.int .i64 c,.int .i64 d] 88)).alloc (.cells #[.int .i64 k,.int .u8 yb,.int .i64 yl,.int .i64 yd] 34)).alloc (.cells #[.int .i64 0,.int .i64 0,.int .i64 0,.int .i64 0,.int .i64 0] 88))):=chg_then (chg_then (chg_one _ _) (chg_one _ _)) (chg_one _ _)
 have HT:Hid (Tab (((w.alloc (.cells #[.int .i64 n,.int .i64 a,.int .i64 b,.int .i64 c,.int .i64 d] 88)).alloc (.cells #[.int .i64 k,.int .u8 yb,.int .i64 yl,.int .i64 yd] 34)).alloc (.cells #[.int .i64 0,.int .i64 0,.int .i64 0,.int .i64 0,.int .i64 0] 88))):=tab_keep hT HC.out
 have HR:Hid (∀w',Calls Tryz.prog 114 #[.agg #[.int .i64 n,.int .i64 a,.int .i64 b,.int .i64 c,.int .i64 d]] w' fun e w''=>e= .returned (.bool (decide (right ⟨n,a,b,c,d⟩)))∧Chg (fun _=>False) w' w''):=fun w'=>tright_q ⟨n,a,b,c,d⟩ hs w'
 have HK:Hid (∀w',Calls Tryz.prog 115 #[.int .i64 k] w' fun e w''=>e= .returned (.bool (decide (1≤k∧k≤4)))∧w''=w'):=fun w'=>known_q k w'
 have HFO:Hid (∀w',Calls Tryz.prog 116 #[.agg #[.int .i64 k,.int .u8 yb,.int .i64 yl,.int .i64 yd]] w' fun e w''=>e= .returned (.bool (fmd ⟨k,yb,yl,yd⟩))∧Chg (fun _=>False) w' w''):=fun w'=>tformed_q k yb yl yd w'
 obtain⟨s0,s1,s2,s3,s4⟩:=cells5 HS.out
 clear hT
 go_enter Tryz.func70,Tryz.ntmps70
 go_wp2_with fail
 generalize ((w.alloc (.cells #[.int .i64 n,.int .i64 a,.int .i64 b,.int .i64 c,.int .i64 d] 88)).alloc (.cells #[.int .i64 k,.int .u8 yb,.int .i64 yl,.int .i64 yd] 34)).alloc (.cells #[.int .i64 0,.int .i64 0,.int .i64 0,.int .i64 0,.int .i64 0] 88)=W at*
 refine(HR.out _).mono ?_
 rintro z w1 ⟨rfl,c1⟩
 have HS1:Hid (w1.heap[w.heap.size]?=some (.cells #[.int .i64 n,.int .i64 a,.int .i64 b,.int .i64 c,.int .i64 d] 88 (0,0))):=blk_keep HS.out c1 (fun f=>f)
 have HY1:Hid (w1.heap[w.heap.size+1]?=some (.cells #[.int .i64 k,.int .u8 yb,.int .i64 yl,.int .i64 yd] 34 (0,0))):=blk_keep HY.out c1 (fun f=>f)
 have HZ1:Hid (w1.heap[w.heap.size+1+1]?=some (.cells #[.int .i64 0,.int .i64 0,.int .i64 0,.int .i64 0,.int .i64 0] 88 (0,0))):=blk_keep HZ.out c1 (fun f=>f)
 have HC1:Hid (Chg (fun _=>False) w w1):=chg_then HC.out c1
 have HT1:Hid (Tab w1):=tab_keep HT.out c1
 clear c1 HR HS HY HZ HC HT s0 s1 s2 s3 s4
 by_cases hr:right ⟨n,a,b,c,d⟩
 ·rw [decide_eq_true hr]
  have HRT:Hid (right ⟨n,a,b,c,d⟩):=hr
  clear hr
  obtain⟨y0,y1,y2,y3⟩:=cells4z HY1.out
  go_wp2_with fail
  refine(HK.out _).mono ?_
  rintro z w1' ⟨rfl,rfl⟩
  by_cases hkn:1≤k∧k≤4
  ·rw [decide_eq_true hkn]
   have HKK:Hid (1≤k∧k≤4):=hkn
   clear hkn HK
   go_wp2_with fail
   refine(HFO.out _).mono ?_
   rintro z W0 ⟨rfl,c2⟩
   have HS:Hid (W0.heap[w.heap.size]?=some (.cells #[.int .i64 n,.int .i64 a,.int .i64 b,.int .i64 c,.int .i64 d] 88 (0,0))):=blk_keep HS1.out c2 (fun f=>f)
   have HY:Hid (W0.heap[w.heap.size+1]?=some (.cells #[.int .i64 k,.int .u8 yb,.int .i64 yl,.int .i64 yd] 34 (0,0))):=blk_keep HY1.out c2 (fun f=>f)
   have HZ:Hid (W0.heap[w.heap.size+1+1]?=some (.cells #[.int .i64 0,.int .i64 0,.int .i64 0,.int .i64 0,.int .i64 0] 88 (0,0))):=blk_keep HZ1.out c2 (fun f=>f)
   have HC:Hid (Chg (fun _=>False) w W0):=chg_then HC1.out c2
   have HT:Hid (Tab W0):=tab_keep HT1.out c2
   clear c2 HFO HS1 HY1 HZ1 HC1 HT1 y0 y1 y2 y3
   have hfo:=formed_of (y:=⟨k,yb,yl,yd⟩)
   rw [if_neg (not_not_intro HKK.out)]at hfo
   cases hfm:fmd ⟨k,yb,yl,yd⟩with
   |true=>
    rw [hfm,if_neg (by decide)]at hfo
    obtain⟨r0,r1,r2,r3,hrp,hbh⟩:=tbehind n a b c d k yb yl yd hfo
    obtain⟨mn,hmn⟩: ∃mn,mvd n k=mn:=⟨_,rfl⟩
    have HNX:Hid (nxt ⟨n,a,b,c,d⟩ ⟨k,yb,yl,yd⟩=(⟨mn,r0,r1,r2,r3⟩,0)):=by
     show _=_
     unfold nxt
     rw [if_neg (not_not_intro HRT.out),if_neg (not_not_intro hfo),hrp,←hmn]
    have HBH:Hid _:=hbh
    clear hbh hrp hfo hfm
    obtain⟨nn,rfl⟩: ∃nn:Nat,n=(nn:Int):=⟨n.toNat,by have:=HRT.out.1.1;simp only at this;omega⟩
    obtain⟨kk,rfl⟩: ∃kk:Nat,k=(kk:Int)+1:=⟨(k-1).toNat,by have:=HKK.out.1;omega⟩
    have HKN:Hid (kk<4∧nn<12):=⟨by have:=HKK.out.2;omega,by have:=HRT.out.1.2;simp only at this;omega⟩
    have HMN:Hid (mvd (nn:Int) ((kk:Int)+1)=mn):=hmn
    have hkk:(kk:Int)<4:=by have:=HKN.out.1;omega
    have hnn:(nn:Int)<12:=by have:=HKN.out.2;omega
    clear hmn
    go_wp2_with fail
    refine wp_region_phaseQ (mk:=fun u=> #[_,_,_,_,_,_,_,_,_,_,_,_,_,_,_,_,_,_,_,_,_,_,u 22,u 23,u 24,u 25,u 26,u 27,u 28,u 29,u 30,u 31,u 32,u 33,u 34]) (G:=lookG [(22,.pointer (some ⟨(w.heap.size+1),0,none⟩)),(23,.int .i64 ((kk:Int)+1)),(24,.int .i64 (kk:Int)),(25,.pointer (some ⟨w.heap.size,0,none⟩)),(26,.int .i64 (nn:Int)),(27,.pointer (some ⟨0,(kk*12),none⟩)),(28,.pointer (some ⟨0,(kk*12+nn),none⟩)),(29,.int .i64 mn),(30,.pointer (some ⟨w.heap.size,1,none⟩)),(31,.agg #[.int .i64 a,.int .i64 b,.int .i64 c,.int .i64 d]),(32,.agg #[.int .i64 ((kk:Int)+1),.int .u8 yb,.int .i64 yl,.int .i64 yd]),(33,.agg #[.int .i64 r0,.int .i64 r1,.int .i64 r2,.int .i64 r3]),(34,.agg #[.int .i64 mn,.int .i64 r0,.int .i64 r1,.int .i64 r2,.int .i64 r3])]) (J:=fun q u ww=>(q≤1→Chg (fun _=>False) W0 ww)∧(q=2→ww.heap[w.heap.size+1+1]?=some (.cells #[.int .i64 mn,.int .i64 r0,.int .i64 r1,.int .i64 r2,.int .i64 r3] 88 (0,0))∧Chg (fun _=>False) w ww)) [11,13] (fun i=>if i=0 then 1 else if i=1 then 1 else if i=2 then 1 else if i=3 then 1 else if i=4 then 1 else if i=5 then 1 else if i=6 then 1 else if i=7 then 1 else if i=8 then 1 else if i=9 then 1 else if i=10 then 1 else if i=12 then 1 else 2) ([]) (fun t=>if t=5 then .int .i64 0 else undef) rfl (by kernel_rfl) 14 _ rfl rfl (by kernel_rfl) (by kernel_rfl) (by kernel_rfl) (by decide) ?_ ?_ ?_ (by kernel_rfl) ?_ ?_
    ·repeat (refine⟨fun _ _=>rfl,?_⟩)
     exact trivial
    ·exact fun q u u2 ww h hj=>hj
    ·exact⟨fun _=>(Chg.refl _ W0).drew,fun h=>by omega⟩
    ·refine⟨?_,?_,?_,?_,?_,?_,?_,?_,?_,?_,?_,?_,?_,?_,trivial⟩
     ·show StepRQ _ _ _ _ _ _ _ _ _
      unfold StepRQ
      intro q hq u w_ hj hd K hK
      clear hd
      go_simp
      exact hK.out (.pointer (some ⟨(w.heap.size+1),0,none⟩)) rfl
     ·show StepRQ _ _ _ _ _ _ _ _ _
      unfold StepRQ
      intro q hq u w_ hj hd K hK
      have h22:u 22= .pointer (some ⟨(w.heap.size+1),0,none⟩):=hd.get 0 (by kernel_rfl)
      clear hd
      simp only [h22]at hK
      have hc:=hj.1 (by simpa using hq)
      obtain⟨y0,_⟩:=cells4z (blk_keep HY.out hc (fun f=>f))
      clear hj hc
      go_simp
      exact hK.out _ rfl
     ·show StepRQ _ _ _ _ _ _ _ _ _
      unfold StepRQ
      intro q hq u w_ hj hd K hK
      have h23:u 23= .int .i64 ((kk:Int)+1):=hd.get 1 (by kernel_rfl)
      clear hd
      simp only [h23]at hK
      clear hj
      go_simp
      rw [show IntKind.i64.wrap (kk:Int)=(kk:Int) by rw [IntKind.wrap_i64];omega]
      exact hK.out _ rfl
     ·show StepRQ _ _ _ _ _ _ _ _ _
      unfold StepRQ
      intro q hq u w_ hj hd K hK
      clear hd
      go_simp
      exact hK.out (.pointer (some ⟨w.heap.size,0,none⟩)) rfl
     ·show StepRQ _ _ _ _ _ _ _ _ _
      unfold StepRQ
      intro q hq u w_ hj hd K hK
      have h25:u 25= .pointer (some ⟨w.heap.size,0,none⟩):=hd.get 3 (by kernel_rfl)
      clear hd
      simp only [h25]at hK
      have hc:=hj.1 (by simpa using hq)
      obtain⟨s0,_⟩:=cells5 (blk_keep HS.out hc (fun f=>f))
      clear hj hc
      go_simp
      exact hK.out _ rfl
     ·show StepRQ _ _ _ _ _ _ _ _ _
      unfold StepRQ
      intro q hq u w_ hj hd K hK
      have h24:u 24= .int .i64 (kk:Int):=hd.get 2 (by kernel_rfl)
      clear hd
      simp only [h24]at hK
      clear hj
      go_simp
      exact hK.out _ rfl
     ·show StepRQ _ _ _ _ _ _ _ _ _
      unfold StepRQ
      intro q hq u w_ hj hd K hK
      have h27:u 27= .pointer (some ⟨0,(kk*12),none⟩):=hd.get 5 (by kernel_rfl)
      have h26:u 26= .int .i64 (nn:Int):=hd.get 4 (by kernel_rfl)
      clear hd
      simp only [h27,h26]at hK
      clear hj
      go_simp
      exact hK.out _ rfl
     ·show StepRQ _ _ _ _ _ _ _ _ _
      unfold StepRQ
      intro q hq u w_ hj hd K hK
      have h28:u 28= .pointer (some ⟨0,(kk*12+nn),none⟩):=hd.get 6 (by kernel_rfl)
      clear hd
      simp only [h28]at hK
      have hc:=hj.1 (by simpa using hq)
      have kq:=tab_move (tab_keep HT.out hc) HKN.out.1 HKN.out.2
      rw [HMN.out]at kq
      clear hj hc
      go_simp
      exact hK.out _ rfl
     ·show StepRQ _ _ _ _ _ _ _ _ _
      unfold StepRQ
      intro q hq u w_ hj hd K hK
      clear hd
      go_simp
      exact hK.out (.pointer (some ⟨w.heap.size,1,none⟩)) rfl
     ·show StepRQ _ _ _ _ _ _ _ _ _
      unfold StepRQ
      intro q hq u w_ hj hd K hK
      have h30:u 30= .pointer (some ⟨w.heap.size,1,none⟩):=hd.get 8 (by kernel_rfl)
      clear hd
      simp only [h30]at hK
      have hc:=hj.1 (by simpa using hq)
      obtain⟨_,s1,s2,s3,s4⟩:=cells5 (blk_keep HS.out hc (fun f=>f))
      clear hj hc
      go_simp
      exact hK.out _ rfl
     ·show StepRQ _ _ _ _ _ _ _ _ _
      unfold StepRQ
      intro q hq u w_ hj hd K hK
      clear hd
      have hc:=hj.1 (by simpa using hq)
      obtain⟨y0,y1,y2,y3⟩:=cells4z (blk_keep HY.out hc (fun f=>f))
      clear hj hc
      go_simp
      exact hK.out _ rfl
     ·show StepWQ _ _ _ _ _ _ _ _ _
      unfold StepWQ
      intro u w_ hj hd K hK
      have h31:u 31= .agg #[.int .i64 a,.int .i64 b,.int .i64 c,.int .i64 d]:=hd.get 9 (by kernel_rfl)
      have h32:u 32= .agg #[.int .i64 ((kk:Int)+1),.int .u8 yb,.int .i64 yl,.int .i64 yd]:=hd.get 10 (by kernel_rfl)
      clear hd
      simp only [h31,h32]at hK
      have hc:=hj.1 (by omega)
      clear hj
      go_simp
      go_at_call 117
      refine(HBH.out w_).mono ?_
      rintro z w2 ⟨rfl,c2⟩
      exact hK.out _ _ ⟨fun _=>chg_then hc c2,fun h=>by omega⟩ rfl
     ·show StepRQ _ _ _ _ _ _ _ _ _
      unfold StepRQ
      intro q hq u w_ hj hd K hK
      have h29:u 29= .int .i64 mn:=hd.get 7 (by kernel_rfl)
      have h33:u 33= .agg #[.int .i64 r0,.int .i64 r1,.int .i64 r2,.int .i64 r3]:=hd.get 11 (by kernel_rfl)
      clear hd
      simp only [h29,h33]at hK
      go_simp
      exact hK.out (.agg #[.int .i64 mn,.int .i64 r0,.int .i64 r1,.int .i64 r2,.int .i64 r3]) rfl
     ·show StepWQ _ _ _ _ _ _ _ _ _
      unfold StepWQ
      intro u w_ hj hd K hK
      have h34:u 34= .agg #[.int .i64 mn,.int .i64 r0,.int .i64 r1,.int .i64 r2,.int .i64 r3]:=hd.get 12 (by kernel_rfl)
      clear hd
      simp only [h34]at hK
      have hc:=hj.1 (by omega)
      have hz:=blk_keep HZ.out hc (fun f=>f)
      have hC:=chg_then HC.out hc
      obtain⟨⟨p0,f0⟩,⟨p1,f1⟩,⟨p2,f2⟩,⟨p3,f3⟩,⟨p4,f4⟩,hblk,hchg⟩:=put5_of hz (.int .i64 mn) (.int .i64 r0) (.int .i64 r1) (.int .i64 r2) (.int .i64 r3)
      have HE:Hid _:=And.intro hblk (hC.trans hchg (fun z e=> .inr (by omega)))
      clear hj hc hz hC hblk hchg
      go_simp
      exact hK.out undef _ ⟨fun h=>by omega,fun _=>HE.out⟩ trivial
    ·intro u w5 hj hA K hK
     obtain⟨_,h8⟩:=hj
     obtain⟨hb,hC⟩:=h8 rfl
     have HE:Hid _:=cells5 hb
     have HCE:Hid _:=hC
     clear hA h8 hb hC HS HY HZ HC HT
     go_simp
     refine hK.out _ _ ?_
     clear hK
     go_wp2
     obtain⟨q0,q1,q2,q3,q4⟩:=HE.out
     refine bodyPost_ret (v:= .tuple #[.agg #[.int .i64 mn,.int .i64 r0,.int .i64 r1,.int .i64 r2,.int .i64 r3],.int .i64 0]) (by simp [results,Tryz.results70,go_sem,q0,q1,q2,q3,q4]) rfl ?_
     exact⟨by rw [HNX.out];rfl,HCE.out⟩
   |false=>
    rw [hfm,if_pos rfl]at hfo
    have HNX:Hid (nxt ⟨n,a,b,c,d⟩ ⟨k,yb,yl,yd⟩=(zero,7)):=by
     show _=_
     unfold nxt
     rw [if_neg (not_not_intro HRT.out),if_pos (by rw [hfo];decide),hfo]
    clear hfo hfm
    obtain⟨⟨p0,g0⟩,⟨p1,g1⟩,⟨p2,g2⟩,⟨p3,g3⟩,⟨p4,g4⟩,hblk,hchg⟩:=put5_of HZ.out (.int .i64 0) (.int .i64 0) (.int .i64 0) (.int .i64 0) (.int .i64 0)
    have HE:Hid _:=cells5 hblk
    have HCE:Hid (Chg (fun _=>False) w _):=HC.out.trans hchg (fun z e=> .inr (by omega))
    clear hblk hchg HS HY HZ HC HT
    go_wp2
    obtain⟨q0,q1,q2,q3,q4⟩:=HE.out
    refine bodyPost_ret (v:= .tuple #[.agg #[.int .i64 0,.int .i64 0,.int .i64 0,.int .i64 0,.int .i64 0],.int .i64 7]) (by simp [results,Tryz.results70,go_sem,q0,q1,q2,q3,q4]) rfl ?_
    exact⟨by rw [HNX.out];rfl,HCE.out⟩
  ·rw [decide_eq_false hkn]
   have hfo:=formed_of (y:=⟨k,yb,yl,yd⟩)
   rw [if_pos hkn]at hfo
   have HNX:Hid (nxt ⟨n,a,b,c,d⟩ ⟨k,yb,yl,yd⟩=(zero,6)):=by
    show _=_
    unfold nxt
    rw [if_neg (not_not_intro HRT.out),if_pos (by rw [hfo];decide),hfo]
   clear hfo hkn HK HFO
   obtain⟨⟨p0,g0⟩,⟨p1,g1⟩,⟨p2,g2⟩,⟨p3,g3⟩,⟨p4,g4⟩,hblk,hchg⟩:=put5_of HZ1.out (.int .i64 0) (.int .i64 0) (.int .i64 0) (.int .i64 0) (.int .i64 0)
   have HE:Hid _:=cells5 hblk
   have HCE:Hid (Chg (fun _=>False) w _):=HC1.out.trans hchg (fun z e=> .inr (by omega))
   clear hblk hchg HS1 HY1 HZ1 HC1 HT1
   go_wp2
   obtain⟨q0,q1,q2,q3,q4⟩:=HE.out
   refine bodyPost_ret (v:= .tuple #[.agg #[.int .i64 0,.int .i64 0,.int .i64 0,.int .i64 0,.int .i64 0],.int .i64 6]) (by simp [results,Tryz.results70,go_sem,q0,q1,q2,q3,q4]) rfl ?_
   exact⟨by rw [HNX.out];rfl,HCE.out⟩
 ·have HNX:Hid (nxt ⟨n,a,b,c,d⟩ ⟨k,yb,yl,yd⟩=(zero,7)):=by
   show _=_
   unfold nxt
   rw [if_pos hr]
  rw [decide_eq_false hr]
  clear hr HFO HK
  obtain⟨⟨p0,g0⟩,⟨p1,g1⟩,⟨p2,g2⟩,⟨p3,g3⟩,⟨p4,g4⟩,hblk,hchg⟩:=put5_of HZ1.out (.int .i64 0) (.int .i64 0) (.int .i64 0) (.int .i64 0) (.int .i64 0)
  have HE:Hid _:=cells5 hblk
  have HCE:Hid (Chg (fun _=>False) w _):=HC1.out.trans hchg (fun z e=> .inr (by omega))
  clear hblk hchg HS1 HY1 HZ1 HC1 HT1
  go_wp2
  obtain⟨q0,q1,q2,q3,q4⟩:=HE.out
  refine bodyPost_ret (v:= .tuple #[.agg #[.int .i64 0,.int .i64 0,.int .i64 0,.int .i64 0,.int .i64 0],.int .i64 7]) (by simp [results,Tryz.results70,go_sem,q0,q1,q2,q3,q4]) rfl ?_
  exact⟨by rw [HNX.out];rfl,HCE.out⟩
end Go.Proofs.YthideplpcnhncaaGreatDoor
namespace Go.Proofs.YthideplpcnhncaaGreatDoor
open Go.RowKit
open St12
set_option linter.unusedVariables false
theorem stSpec:StSpec Tab where
 keep:=tab_keep
 new:=fun w _=>tnew_q w
 next:=fun s y w hT hs hy=>tnext_any s.n s.a s.b s.c s.d y.k y.y y.l y.d hs hy w hT
 lit:=fun s w _ hs=>tlit_q s hs w
 slot:=fun d w _ hd=>tslot_q d hd w
 range:=fun i w _ hi=>trange_q i hi w
 pb:=fun p w _ hp=>tpb_q p.lc p.lp p.pb hp.lc hp.lp hp.pb w
end Go.Proofs.YthideplpcnhncaaGreatDoor
namespace Go.Proofs.YthideplpcnhncaaGreatDoor
open Go.RowKit
set_option linter.unusedVariables false
def Inw (n:Nat)(bs:List Nat)(d:Int):Prop:=0<d∧d≤((fullN n bs:Nat):Int)
instance (n:Nat) (bs:List Nat) (d:Int):Decidable (Inw n bs d):=by unfold Inw;infer_instance
theorem Inw.nat {n:Nat}{bs:List Nat}{d:Int}(h:Inw n bs d):1≤d.toNat∧d.toNat≤bs.length∧d.toNat≤n∧((d.toNat:Nat):Int)=d:=by
 obtain⟨h1,h2⟩:=h
 unfold fullN at h2
 omega
theorem row8_cell {w:World}{ad:Option Addr}{m c:Nat}{bs:List Nat}{k b:Nat}(h:Row8 w ad m c (nums bs))(hk:bs[k]?=some b): ∃x,ad=some x∧w.cell? (x.add k)=some (.int .u8 (b:Int)):=by
 rcases h.2 with⟨_,e,_⟩|⟨x,e,hx⟩
 ·have h1:=h.1
  rw [nums_len]at h1
  have:=(List.getElem?_eq_some_iff.1 hk).1
  omega
 ·exact⟨x,e,hx k _ (by simp [nums,hk])⟩
end Go.Proofs.YthideplpcnhncaaGreatDoor
namespace Go.Proofs.YthideplpcnhncaaGreatDoor
open Go.RowKit
set_option linter.unusedVariables false
theorem one8 (xs:List Nat): ∀u∈(nums xs).map (Value.int .u8),u.oneCell'=true:=fun u hu=>by
 obtain⟨x,_,rfl⟩:=List.mem_map.1 hu
 rfl
theorem own_app {w:World}{B:Nat}{v:Value}{n:Nat}{a b:List Nat}(h:w.ownsRow B 5 1 v n (ins .u8 (nums a)++(nums b).map (Value.int .u8))):w.ownsRow B 5 1 v n (ins .u8 (nums (a++b))):=by
 rw [nums_append,ins_append,ins_map (nums b)]
 exact h
end Go.Proofs.YthideplpcnhncaaGreatDoor
namespace Go.Proofs.YthideplpcnhncaaGreatDoor
open Go.RowKit
set_option linter.unusedVariables false
def Cpy (n:Nat)(bs:List Nat)(d m:Int):Prop:=Inw n bs d∧0≤m∧m≤273
instance (n:Nat) (bs:List Nat) (d m:Int):Decidable (Cpy n bs d m):=by unfold Cpy;infer_instance
end Go.Proofs.YthideplpcnhncaaGreatDoor
namespace Go.Proofs.YthideplpcnhncaaGreatDoor
open Go.RowKit
set_option linter.unusedVariables false
structure WinSpec (Win:World→Nat→Nat→Value→Nat→List Nat→Prop):Prop where
 lt: ∀ {w B a v n bs},Win w B a v n bs→ ∀z,Foot a v z→B≤z∧z<w.heap.size
 blk: ∀ {w B a v n bs},Win w B a v n bs→ ∃cs,w.heap[a]?=some (.cells cs 137 (0,0))
 ring: ∀ {w B a v n bs},Win w B a v n bs→ ∀g,v.ownBlock=some g→ ∃cs,w.heap[g]?=some (.cells cs 5 (0,0))
 keep: ∀ {w w' B a v n bs} {S:Nat→Prop},Win w B a v n bs→Chg S w w'→(∀z,Foot a v z→ ¬S z)→Win w' B a v n bs
 down: ∀ {w B B' a v n bs},Win w B a v n bs→B'≤B→Win w B' a v n bs
 nn: ∀ {w B a v n bs},Win w B a v n bs→1≤n∧n≤4294967295∧Rc.Dig bs
 newOut: ∀(n:Int) (w:World),n<1∨4294967295<n→Calls Tryz.prog 32 #[.int .i64 n] w fun e w'=>e= .returned (.tuple #[.pointer none,.int .i64 7])∧Chg (fun _=>False) w w'
 newIn: ∀(n:Nat) (w:World),1≤n→n≤4294967295→Calls Tryz.prog 32 #[.int .i64 (n:Int)] w fun e w'=> ∃a v,e= .returned (.tuple #[.pointer (some ⟨a,0,none⟩),.int .i64 0])∧Win w' w.heap.size a v n []∧Chg (fun _=>False) w w'
 pos: ∀(B a:Nat) (v:Value) (n:Nat) (bs:List Nat) (w:World),Win w B a v n bs→Calls Tryz.prog 74 #[.pointer (some ⟨a,0,none⟩)] w fun e w'=>e= .returned (.int .i64 (bs.length:Int))∧ ∃k,w'=w.drewN k
 last: ∀(B a:Nat) (v:Value) (n:Nat) (bs:List Nat) (d:Int) (w:World),Win w B a v n bs→bs.length≤1152921504606846976→I64 d→Calls Tryz.prog 71 #[.pointer (some ⟨a,0,none⟩),.int .i64 d] w fun e w'=>((¬Inw n bs d∧e= .returned (.tuple #[.int .u8 0,.int .i64 7]))∨(Inw n bs d∧e= .returned (.tuple #[.int .u8 ((backB bs d.toNat:Nat):Int),.int .i64 0])))∧Chg (fun _=>False) w w'
 put: ∀(B a:Nat) (v:Value) (n:Nat) (bs:List Nat) (ad:Option Addr) (m c:Nat) (xs:List Nat) (w:World),Win w B a v n bs→B≤w.heap.size→Row8 w ad m c (nums xs)→Rc.Dig xs→(∀x,ad=some x→ ¬Foot a v x.block)→m≤c→m≤140737488355328→bs.length+m≤1152921504606846976→Calls Tryz.prog 47 #[.pointer (some ⟨a,0,none⟩),.slice ad m c] w fun e w'=>e= .returned (.tuple #[])∧ ∃v',Win w' B a v' n (bs++xs)∧Chg (Foot a v) w w'∧Moved w v v'
 copy: ∀(B a:Nat) (v:Value) (n:Nat) (bs:List Nat) (d m:Int) (w:World),Win w B a v n bs→B≤w.heap.size→I64 d→I64 m→bs.length+273≤1152921504606846976→Calls Tryz.prog 126 #[.pointer (some ⟨a,0,none⟩),.int .i64 d,.int .i64 m] w fun e w'=>
  (¬Cpy n bs d m∧e= .returned (.tuple #[.slice none 0 0,.int .i64 7])∧Chg (fun _=>False) w w')
  ∨(Cpy n bs d m∧ ∃ov v',e= .returned (.tuple #[ov,.int .i64 0])∧Win w' B a v' n (bs++copyL d.toNat bs m.toNat)∧w'.ownsRow w.heap.size 5 1 ov m.toNat (ins .u8 (nums (copyL d.toNat bs m.toNat)))∧(∀g,ov.ownBlock=some g→ ¬Foot a v' g)∧Chg (Foot a v) w w'∧Moved w v v')
 clear: ∀(B a:Nat) (v:Value) (n:Nat) (bs:List Nat) (w:World),Win w B a v n bs→B≤w.heap.size→Calls Tryz.prog 42 #[.pointer (some ⟨a,0,none⟩)] w fun e w'=>e= .returned (.tuple #[])∧ ∃v',Win w' B a v' n []∧Chg (Foot a v) w w'∧Moved w v v'
 fork: ∀(B a:Nat) (v:Value) (n:Nat) (bs:List Nat) (w:World),Win w B a v n bs→Calls Tryz.prog 83 #[.pointer (some ⟨a,0,none⟩)] w fun e w'=> ∃a' v',e= .returned (.pointer (some ⟨a',0,none⟩))∧Win w' w.heap.size a' v' n bs∧Chg (fun _=>False) w w'
variable {Win:World→Nat→Nat→Value→Nat→List Nat→Prop}
theorem WinSpec.new (S:WinSpec Win){w w':World}{B a:Nat}{v:Value}{n:Nat}{bs:List Nat}(h:Win w B a v n bs)(hc:Chg (fun _=>False) w w'):Win w' B a v n bs:=S.keep h hc (fun _ _ f=>f)
theorem posS (S:WinSpec Win){B a:Nat}{v:Value}{n:Nat}{bs:List Nat}{w:World}(h:Win w B a v n bs):Calls Tryz.prog 74 #[.pointer (some ⟨a,0,none⟩)] w fun e w'=>e= .returned (.int .i64 (bs.length:Int))∧Chg (fun _=>False) w w':=(S.pos B a v n bs w h).mono fun e w' ⟨h1,k,h2⟩=>⟨h1,by rw [h2];exact chg_drewN _ _⟩
end Go.Proofs.YthideplpcnhncaaGreatDoor
namespace Go.Proofs.YthideplpcnhncaaGreatDoor
set_option linter.unusedVariables false
theorem backB_in (bs xs:List Nat)(d:Nat)(h1:1≤d)(h2:d≤xs.length):xs[xs.length-d]?=some (backB (bs++xs) d):=by
 rw [←backB_at h1 (by rw [List.length_append];omega),List.length_append,List.getElem?_append_right (by omega)]
 congr 1
 omega
theorem backB_past (bs xs:List Nat)(d:Nat)(h1:xs.length<d)(h2:d≤bs.length+xs.length):backB (bs++xs) d=backB bs (d-xs.length):=by
 have e1:=backB_at (bs:=bs++xs) (d:=d) (by omega) (by rw [List.length_append];exact h2)
 have e2:=backB_at (bs:=bs) (d:=d-xs.length) (by omega) (by omega)
 rw [List.length_append,List.getElem?_append_left (by omega),show bs.length+xs.length-d=bs.length-(d-xs.length) by omega,e2]at e1
 exact(Option.some.inj e1).symm
structure RingOk (n:Nat) (bs ring:List Nat) (a:Nat):Prop where
 len:ring.length=fullN n bs
 le:a≤ring.length
 grow:ring.length<n→a=ring.length
 back: ∀d,1≤d→d≤ring.length→ring[if d≤a then a-d else a+ring.length-d]?=some (backB bs d)
theorem RingOk.nil (n:Nat):RingOk n [] [] 0:=⟨by simp [fullN],Nat.le_refl _,fun _=>rfl,fun d h1 h2=>by simp at h2;omega⟩
theorem RingOk.turn {n:Nat}{bs ring:List Nat}(h:RingOk n bs ring n):RingOk n bs ring 0:=by
 have h1:=h.le
 have h2:=h.len
 have h3:ring.length=n:=by unfold fullN at h2;omega
 refine⟨h2,Nat.zero_le _,fun f=>by omega,fun d d1 d2=> ?_⟩
 have:=h.back d d1 d2
 rw [if_pos (by omega)]at this
 rw [if_neg (by omega),show 0+ring.length-d=n-d by omega]
 exact this
theorem RingOk.put {n:Nat}{bs ring:List Nat}{a:Nat}(h:RingOk n bs ring a)(xs:List Nat)(hk:a+xs.length≤n):RingOk n (bs++xs) (ring.take a++xs++ring.drop (a+xs.length)) (a+xs.length):=by
 have hle:=h.le
 have hln:=h.len
 have hgr:=h.grow
 unfold fullN at hln
 have hta:(ring.take a).length=a:=by rw [List.length_take];omega
 have hL:(ring.take a++xs++ring.drop (a+xs.length)).length=max ring.length (a+xs.length):=by simp only [List.length_append,List.length_drop,hta];omega
 refine⟨?_,by rw [hL];omega,fun f=> ?_,fun d d1 d2=> ?_⟩
 ·rw [hL]
  unfold fullN
  rw [List.length_append]
  by_cases c:ring.length<n
  ·have:=hgr c;omega
  ·omega
 ·rw [hL]at f⊢
  have:=hgr (by omega)
  omega
 ·rw [hL]at d2⊢
  by_cases c:d≤xs.length
  ·rw [if_pos (by omega),List.getElem?_append_left (by rw [List.length_append,hta];omega),List.getElem?_append_right (by omega),hta,show a+xs.length-d-a=xs.length-d by omega]
   exact backB_in bs xs d d1 c
  ·have hdl:d≤bs.length+xs.length:=by
    by_cases c2:ring.length<n
    ·have:=hgr c2;omega
    ·omega
   have hdm:d-xs.length≤ring.length:=by
    by_cases c2:ring.length<n
    ·have:=hgr c2;omega
    ·omega
   rw [backB_past bs xs d (by omega) hdl]
   have hb:=h.back (d-xs.length) (by omega) hdm
   by_cases c3:d≤a+xs.length
   ·rw [if_pos (by omega)]at hb
    rw [if_pos c3,List.getElem?_append_left (by rw [List.length_append,hta];omega),List.getElem?_append_left (by omega),List.getElem?_take,if_pos (by omega),show a+xs.length-d=a-(d-xs.length) by omega]
    exact hb
   ·rw [if_neg (by omega)]at hb
    have hm:max ring.length (a+xs.length)=ring.length:=by omega
    rw [if_neg c3,hm,List.getElem?_append_right (by rw [List.length_append,hta];omega),List.length_append,hta,List.getElem?_drop,show a+xs.length+(a+xs.length+ring.length-d-(a+xs.length))=a+ring.length-(d-xs.length) by omega]
    exact hb
theorem RingOk.at {n:Nat}{bs ring:List Nat}{a:Nat}(h:RingOk n bs ring a)(d:Nat)(h1:1≤d)(h2:d≤fullN n bs):(d≤a→ring[a-d]?=some (backB bs d))∧(a<d→ring[a+ring.length-d]?=some (backB bs d)):=by
 have hb:=h.back d h1 (by rw [h.len];exact h2)
 exact⟨fun c=>by rwa [if_pos c]at hb,fun c=>by rwa [if_neg (by omega)]at hb⟩
theorem RingOk.take {n:Nat}{bs ring:List Nat}{a:Nat}(h:RingOk n bs ring a)(k:Nat)(hk:k≤a)(i:Nat)(hi:i<k):ring[a-k+i]?=some (backB bs (k-i)):=by
 have hb:=h.back (k-i) (by omega) (by have:=h.le;omega)
 rw [if_pos (by omega)]at hb
 rw [show a-k+i=a-(k-i) by omega]
 exact hb
end Go.Proofs.YthideplpcnhncaaGreatDoor
namespace Go.Proofs.YthideplpcnhncaaGreatDoor
set_option linter.unusedVariables false
def RM (n:Nat)(bs ring:List Nat):Prop:=RingOk n bs ring (bs.length% n)
theorem RM.len {n:Nat}{bs ring:List Nat}(h:RM n bs ring):ring.length=min bs.length n:=RingOk.len h
theorem RM.nil (n:Nat):RM n [] []:=by
 unfold RM
 rw [List.length_nil,Nat.zero_mod]
 exact RingOk.nil n
theorem RM.of {n a:Nat}{bs ring:List Nat}(hn:1≤n)(h:RingOk n bs ring a)(ha:a=bs.length% n∨(a=n∧bs.length% n=0)):RM n bs ring:=by
 rcases ha with e|⟨e,e0⟩
 ·rw [e]at h;exact h
 ·subst e
  unfold RM
  rw [e0]
  exact h.turn
theorem mod_step (n L c:Nat)(hn:1≤n)(h:L% n+c≤n):L% n+c=(L+c)% n∨(L% n+c=n∧(L+c)% n=0):=by
 by_cases e:L% n+c=n
 ·refine .inr ⟨e,?_⟩
  rw [Nat.add_mod]
  by_cases e1:n=1
  ·subst e1;exact Nat.mod_one _
  ·by_cases e2:c=n
   ·subst e2;rw [Nat.mod_self,Nat.add_zero,Nat.mod_mod];omega
   ·rw [Nat.mod_eq_of_lt (show c<n by omega),e,Nat.mod_self]
 ·refine .inl ?_
  rw [Nat.add_mod,Nat.mod_eq_of_lt (show c<n by omega),Nat.mod_eq_of_lt (show L% n+c<n by omega)]
theorem RM.grow {n:Nat}{bs ring:List Nat}(hn:1≤n)(h:RM n bs ring)(xs:List Nat)(hx:xs.length≤n-ring.length):RM n (bs++xs) (ring++xs):=by
 by_cases hz:xs.length=0
 ·obtain rfl:=List.eq_nil_of_length_eq_zero hz
  rw [List.append_nil,List.append_nil]
  exact h
 ·have hl:=h.len
  have hg:=RingOk.grow h (by omega)
  have hp:=RingOk.put h xs (by omega)
  rw [hg,List.take_length,List.drop_eq_nil_of_le (by omega),List.append_nil]at hp
  refine RM.of hn hp ?_
  rw [←hg,List.length_append]
  exact mod_step n bs.length xs.length hn (by omega)
theorem RM.lay {n:Nat}{bs ring:List Nat}(hn:1≤n)(h:RM n bs ring)(hf:ring.length=n)(xs:List Nat)(hx:bs.length% n+xs.length≤n):RM n (bs++xs) (ring.take (bs.length% n)++(xs++ring.drop (bs.length% n+xs.length))):=by
 have hp:=RingOk.put h xs hx
 rw [List.append_assoc]at hp
 refine RM.of hn hp ?_
 rw [List.length_append]
 exact mod_step n bs.length xs.length hn hx
theorem RM.at {n:Nat}{bs ring:List Nat}(hn:1≤n)(h:RM n bs ring)(d:Nat)(h1:1≤d)(h2:d≤ring.length):ring[(bs.length-d)% n]?=some (backB bs d):=by
 have hl:=h.len
 obtain⟨ha,hb⟩:=RingOk.at h d h1 (by unfold fullN;omega)
 have hm:=Nat.div_add_mod bs.length n
 have hlt:=Nat.mod_lt bs.length (show 0<n by omega)
 have hg:=RingOk.grow h
 generalize bs.length/n=q at*
 generalize bs.length% n=p at*
 by_cases c:d≤p
 ·have e:(bs.length-d)% n=p-d:=by
   rw [show bs.length-d=p-d+n*q by omega,Nat.add_mul_mod_self_left,Nat.mod_eq_of_lt (by omega)]
  rw [e]
  exact ha c
 ·have hfull:ring.length=n:=by
   by_cases f:ring.length<n
   ·have:=hg f;omega
   ·omega
  obtain⟨q',rfl⟩: ∃q',q=q'+1:=by
   cases q with
   |zero=>simp at hm;omega
   |succ q'=>exact⟨q',rfl⟩
  have e:(bs.length-d)% n=p+ring.length-d:=by
   rw [Nat.mul_succ]at hm
   rw [hfull,show bs.length-d=p+n-d+n*q' by omega,Nat.add_mul_mod_self_left,Nat.mod_eq_of_lt (by omega)]
  rw [e]
  exact hb (by omega)
theorem RM.read {n:Nat}{bs ring:List Nat}(hn:1≤n)(h:RM n bs ring)(d j:Nat)(h1:1≤d)(h2:d≤ring.length)(hj:j≤d):
  (bs.drop (bs.length-d)).take j=(ring.drop ((bs.length-d)% n)).take j++ring.take (j-(ring.length-(bs.length-d)% n)):=by
 have hl:=h.len
 have hsl:=Nat.mod_lt (bs.length-d) (show 0<n by omega)
 have hat:=h.at hn
 have hsr:(bs.length-d)% n<ring.length:=by
  have:=hat d h1 h2
  exact(List.getElem?_eq_some_iff.1 this).1
 have hk: ∀i,i<j→bs[bs.length-d+i]?=ring[(bs.length-d+i)% n]?:=fun i hi=>by
  have e1:=hat (d-i) (by omega) (by omega)
  have e2:=backB_at (bs:=bs) (d:=d-i) (by omega) (by omega)
  rw [show bs.length-(d-i)=bs.length-d+i by omega]at e1 e2
  rw [e1,e2]
 have hmall:ring.length<n→(bs.length-d)% n=bs.length-d:=fun f=>Nat.mod_eq_of_lt (by omega)
 obtain⟨s,hs⟩: ∃s,(bs.length-d)% n=s:=⟨_,rfl⟩
 rw [hs]at hsl hsr hmall⊢
 have hmod: ∀i,i<j→(bs.length-d+i)% n=if s+i<ring.length then s+i else s+i-ring.length:=fun i hi=>by
  rw [Nat.add_mod,hs,Nat.mod_eq_of_lt (show i<n by omega)]
  by_cases c:s+i<ring.length
  ·rw [if_pos c,Nat.mod_eq_of_lt (by omega)]
  ·rw [if_neg c]
   have hfull:ring.length=n:=by
    by_cases f:ring.length<n
    ·have:=hmall f;omega
    ·omega
   rw [hfull,show s+i=s+i-n+n by omega,Nat.add_mod_right,Nat.mod_eq_of_lt (by omega)]
   omega
 apply List.ext_getElem?
 intro i
 by_cases hi:i<j
 ·rw [List.getElem?_take,if_pos hi,List.getElem?_drop,hk i hi,hmod i hi]
  by_cases c:s+i<ring.length
  ·rw [if_pos c,List.getElem?_append_left (by rw [List.length_take,List.length_drop];omega),List.getElem?_take,if_pos hi,List.getElem?_drop]
  ·rw [if_neg c,List.getElem?_append_right (by rw [List.length_take,List.length_drop];omega),List.length_take,List.length_drop,List.getElem?_take,if_pos (by omega)]
   congr 1
   omega
 ·rw [List.getElem?_eq_none (by rw [List.length_take];omega),List.getElem?_eq_none]
  rw [List.length_append,List.length_take,List.length_drop,List.length_take]
  omega
theorem copyL_front {d j:Nat}{bs:List Nat}(h1:1≤d)(h2:d≤bs.length)(hj:j≤d):copyL d bs j=(bs.drop (bs.length-d)).take j:=by
 apply List.ext_getElem?
 intro i
 by_cases hi:i<j
 ·rw [copyL_first h1 h2 hi (by omega),List.getElem?_take,if_pos hi,List.getElem?_drop]
 ·rw [List.getElem?_eq_none (by rw [copyL_len];omega),List.getElem?_eq_none (by rw [List.length_take];omega)]
theorem copyL_take {d:Nat}(bs:List Nat)(a b:Nat)(h:a≤b):(copyL d bs b).take a=copyL d bs a:=by
 rw [show b=a+(b-a) by omega,copyL_add]
 exact List.take_left' (copyL_len _ _ _)
theorem copyL_times {d n:Nat}{bs:List Nat}(h1:1≤d)(h2:d≤bs.length): ∀(q i:Nat),i+d*q<n→(copyL d bs n)[i+d*q]?=(copyL d bs n)[i]?
 |0,i,_=>by simp
 |q+1,i,hi=>by
  rw [Nat.mul_succ]at hi⊢
  rw [copyL_then h1 h2 hi (by omega),show i+(d*q+d)-d=i+d*q by omega]
  exact copyL_times h1 h2 q i (by omega)
theorem copyL_double {d a b:Nat}{bs:List Nat}(h1:1≤d)(h2:d≤bs.length)(hd:d∣a)(hb:b≤a):copyL d bs (a+b)=copyL d bs a++(copyL d bs a).take b:=by
 apply List.ext_getElem?
 intro i
 have hl:=copyL_len d a bs
 by_cases hi:i<a
 ·rw [List.getElem?_append_left (by omega),←copyL_take (d:=d) bs a (a+b) (by omega),List.getElem?_take,if_pos hi]
 ·rw [List.getElem?_append_right (by omega),hl,List.getElem?_take]
  by_cases c:i<a+b
  ·rw [if_pos (by omega)]
   obtain⟨q,rfl⟩:=hd
   rw [←copyL_take (d:=d) bs (d*q) (d*q+b) (by omega),List.getElem?_take,if_pos (by omega)]
   have:=copyL_times (n:=d*q+b) h1 h2 q (i-d*q) (by omega)
   rw [show i-d*q+d*q=i by omega]at this
   exact this
  ·rw [if_neg (by omega),List.getElem?_eq_none (by rw [copyL_len];omega)]
end Go.Proofs.YthideplpcnhncaaGreatDoor
namespace Go.Proofs.YthideplpcnhncaaGreatDoor
open Go.RowKit
set_option linter.unusedVariables false
theorem cells3 {w:World}{a:Nat}{x y z:Value}{t:TypeId}(h:w.heap[a]?=some (.cells #[x,y,z] t (0,0))):w.cell? ⟨a,0,none⟩=some x∧w.cell? ⟨a,1,none⟩=some y∧w.cell? ⟨a,2,none⟩=some z∧ ∀j,w.frozen? ⟨a,j,none⟩=false:=
 ⟨by simp [World.cell?,h],by simp [World.cell?,h],by simp [World.cell?,h],fun j=>by simp [World.frozen?,h]⟩
theorem set3 {w:World}{a:Nat}{x y z:Value}{t:TypeId}(h:w.heap[a]?=some (.cells #[x,y,z] t (0,0)))(j:Nat)(u:Value):(w.setCell ⟨a,j,none⟩ u).heap[a]?=some (.cells (#[x,y,z].setIfInBounds j u) t (0,0)):=by
 have hlt:=lt_of_blk h
 have h':w.heap[a]= .cells #[x,y,z] t (0,0):=by simpa [Array.getElem?_eq_getElem hlt]using h
 show(w.heap.modify a _)[a]?=_
 rw [Array.getElem?_eq_getElem (by simpa using hlt),Array.getElem_modify_self,h']
 rfl
structure WinR (w:World) (B a:Nat) (v:Value) (n:Nat) (bs ring:List Nat):Prop where
 hr:B≤a
 blk:w.heap[a]?=some (.cells #[.int .i64 (n:Int),.int .i64 (bs.length:Int),v] 137 (0,0))
 own:w.ownsRow B 5 1 v ring.length (ins .u8 (nums ring))
 ok:RM n bs ring
 n1:1≤n
 n2:n≤4294967295
 dig:Rc.Dig bs
def Win (w:World)(B a:Nat)(v:Value)(n:Nat)(bs:List Nat):Prop:= ∃ring,WinR w B a v n bs ring
theorem WinR.keep {w w':World}{S:Nat→Prop}{B a:Nat}{v:Value}{n:Nat}{bs ring:List Nat}(h:WinR w B a v n bs ring)(hc:Chg S w w')(hS: ∀z,Foot a v z→ ¬S z):WinR w' B a v n bs ring:=⟨h.hr,blk_keep h.blk hc (hS a (.inl rfl)),ownsRow_keep h.own hc (fun g e=>hS g (.inr e)),h.ok,h.n1,h.n2,h.dig⟩
theorem WinR.new {w w':World}{B a:Nat}{v:Value}{n:Nat}{bs ring:List Nat}(h:WinR w B a v n bs ring)(hc:Chg (fun _=>False) w w'):WinR w' B a v n bs ring:=h.keep hc (fun _ _ f=>f)
theorem WinR.lt {w:World}{B a:Nat}{v:Value}{n:Nat}{bs ring:List Nat}(h:WinR w B a v n bs ring){z:Nat}(f:Foot a v z):B≤z∧z<w.heap.size:=by
 rcases f with f|f
 ·rw [f];exact⟨h.hr,lt_of_blk h.blk⟩
 ·exact h.own.lt z f
theorem WinR.ne {w:World}{B a:Nat}{v:Value}{n:Nat}{bs ring:List Nat}(h:WinR w B a v n bs ring):v.ownBlock≠some a:=fun e=>by
 obtain⟨cur,hcur⟩:=owns_blk h.own e
 exact ty_ne hcur h.blk (by decide)
theorem WinR.small {w:World}{B a:Nat}{v:Value}{n:Nat}{bs ring:List Nat}(h:WinR w B a v n bs ring):ring.length=fullN n bs∧ring.length≤4294967295∧ring.length≤n∧ring.length≤bs.length:=by
 have:=h.ok.len
 have:=h.n2
 unfold fullN
 omega
theorem wnew_out (n:Int)(w:World)(h:n<1∨4294967295<n):Calls Tryz.prog 32 #[.int .i64 n] w fun e w'=>e= .returned (.tuple #[.pointer none,.int .i64 7])∧Chg (fun _=>False) w w':=by
 by_cases h0:n<1
 ·go_enter Tryz.func32,Tryz.ntmps32
  go_wp2
  go_ret2
  exact⟨rfl,Chg.refl _ _⟩
 ·have h1:4294967295<n:=by omega
  have hd:decide (n<1)=false:=by simp;omega
  have hd2:decide (4294967295<n)=true:=by simp;omega
  go_enter Tryz.func32,Tryz.ntmps32
  go_wp2
  go_ret2
  exact⟨rfl,Chg.refl _ _⟩
theorem wnew_in (n:Nat)(w:World)(h1:1≤n)(h2:n≤4294967295):Calls Tryz.prog 32 #[.int .i64 (n:Int)] w fun e w'=> ∃a v,e= .returned (.tuple #[.pointer (some ⟨a,0,none⟩),.int .i64 0])∧Win w' w.heap.size a v n []∧Chg (fun _=>False) w w':=by
 have hd:decide ((n:Int)<1)=false:=by simp;omega
 have hd2:decide (4294967295<(n:Int))=false:=by simp;omega
 go_enter Tryz.func32,Tryz.ntmps32
 go_wp2
 go_ret2
 exact⟨_,.slice none 0 0,rfl,⟨[],Nat.le_refl _,heap_alloc_last _ _,World.ownsRow_nil _ _ _ _,RM.nil n,h1,h2,fun x hx=>(List.not_mem_nil hx).elim⟩,chg_one _ _⟩
theorem wpos_q (B a:Nat)(v:Value)(n:Nat)(bs:List Nat)(w:World)(h:Win w B a v n bs):Calls Tryz.prog 74 #[.pointer (some ⟨a,0,none⟩)] w fun e w'=>e= .returned (.int .i64 (bs.length:Int))∧ ∃k,w'=w.drewN k:=by
 obtain⟨ring,h⟩:=h
 obtain⟨k0,k1,k2,_⟩:=cells3 h.blk
 clear h
 go_enter Tryz.func74,Tryz.ntmps74
 go_wp2
 go_ret
 exact⟨rfl,0,rfl⟩
theorem wholds_any {B a:Nat}{v:Value}{n:Nat}{bs ring:List Nat}(d:Int)(w:World)(h:WinR w B a v n bs ring):Calls Tryz.prog 118 #[.pointer (some ⟨a,0,none⟩),.int .i64 d] w fun e w'=>e= .returned (.bool (decide (Inw n bs d)))∧Chg (fun _=>False) w w':=by
 obtain⟨ad,c,hv⟩:=form1 h.own
 subst hv
 obtain⟨k0,k1,k2,_⟩:=cells3 h.blk
 have hin:Inw n bs d↔0<d∧d≤(ring.length:Int):=by unfold Inw;rw [h.small.1]
 clear h
 generalize ring.length=R at*
 by_cases h0:0<d
 ·have hd:decide (1≤d)=true:=by simp;omega
  obtain⟨t,ht⟩: ∃t,decide (d≤(R:Int))=t:=⟨_,rfl⟩
  have HR:Hid (decide (Inw n bs d)=t):=by show _=_;rw [←ht];exact decide_eq_decide.2 ⟨fun f=>(hin.1 f).2,fun f=>hin.2 ⟨h0,f⟩⟩
  clear hin
  go_enter Tryz.func118,Tryz.ntmps118
  go_wp2
  go_ret
  exact⟨by rw [HR.out];rfl,Chg.refl _ _⟩
 ·have hd:decide (1≤d)=false:=by simp;omega
  have HR:Hid (decide (Inw n bs d)=false):=decide_eq_false (fun f=>h0 (hin.1 f).1)
  clear hin
  go_enter Tryz.func118,Tryz.ntmps118
  go_wp2
  go_ret
  exact⟨by rw [HR.out];rfl,Chg.refl _ _⟩
theorem tmod_nat (x n:Nat):((x:Int)).tmod (n:Int)=((x% n:Nat):Int):=by
 rw [Int.tmod_eq_emod_of_nonneg (Int.natCast_nonneg _)]
 exact(Int.natCast_emod x n).symm
theorem wback_any {B a:Nat}{v:Value}{n:Nat}{bs ring:List Nat}(d:Nat)(w:World)(h:WinR w B a v n bs ring)(hl:bs.length≤1152921504606846976)(hd:d≤ring.length):Calls Tryz.prog 119 #[.pointer (some ⟨a,0,none⟩),.int .i64 (d:Int)] w fun e w'=>e= .returned (.int .i64 (((bs.length-d)% n:Nat):Int))∧ ∃k,w'=w.drewN k:=by
 obtain⟨k0,k1,k2,_⟩:=cells3 h.blk
 have hdl:d≤bs.length:=by have:=h.small;omega
 obtain⟨L,hL⟩: ∃L,bs.length=L:=⟨_,rfl⟩
 rw [hL]at k1 hl hdl⊢
 obtain⟨K,hK⟩: ∃K,L-d=K:=⟨_,rfl⟩
 have hki:(L:Int)-(d:Int)=(K:Int):=by omega
 have hkb:(K:Int)≤1152921504606846976:=by omega
 have htm:=tmod_nat K n
 rw [hK]
 obtain⟨M,hM⟩: ∃M,K% n=M:=⟨_,rfl⟩
 rw [hM]at htm⊢
 have hMl:(M:Int)≤4294967295:=by have:=Nat.mod_lt K (show 0<n from h.n1);have:=h.n2;omega
 have hn0:(n:Int)≠0:=by have:=h.n1;omega
 have hn1:(1:Int)≤(n:Int):=by have:=h.n1;omega
 have hn2:(n:Int)≤4294967295:=by have:=h.n2;omega
 clear h hK hM hd
 go_enter Tryz.func119,Tryz.ntmps119
 go_wp2_with fail
 go_quiet (fail)
 go_wp2
 go_ret
 exact⟨rfl,nq,rfl⟩
end Go.Proofs.YthideplpcnhncaaGreatDoor
