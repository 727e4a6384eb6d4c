/- Of no statement by itself: Xf, Xg, Xh, Xi, Jc (without blanks and remarks). -/
import Derived.Test.YthideplpcnhncaaGreatDoorB14Xb
import Derived.Test.YthideplpcnhncaaGreatDoorB8Ja
import Derived.Test.YthideplpcnhncaaGreatDoorB13Vj
import Derived.Laws.OwnMore
import Derived.Deep.MidRow
import Derived.Laws.ResultCell
namespace Go.Proofs.YthideplpcnhncaaGreatDoor
open Go.RowKit
set_option linter.unusedVariables false
set_option maxHeartbeats 2000000 in
set_option maxRecDepth 100000 in
theorem wput_any (B a:Nat)(v:Value)(n:Nat)(bs:List Nat)(ad:Option Addr)(m c:Nat)(xs:List Nat)(w:World)(h:Win w B a v n bs)(hB:B≤w.heap.size)(hr:Row8 w ad m c (nums xs))(hdig:Rc.Dig xs)(hap: ∀x,ad=some x→ ¬Foot a v x.block)(hmc:m≤c)(hm:m≤140737488355328)(hl:bs.length+m≤1152921504606846976):
  Calls Tryz.prog 47 #[.pointer (some ⟨a,0,none⟩),.slice ad m c] w fun e w'=>e= .returned (.tuple #[])∧ ∃v',Win w' B a v' n (bs++xs)∧Chg (Foot a v) w w'∧Moved w v v':=by
 obtain⟨ring,h⟩:=h
 obtain⟨k,hk⟩: ∃k,min m (n-ring.length)=k:=⟨_,rfl⟩
 have HG:Hid _:=wgrow_any ad m c xs w h hB hr hdig hap hmc hm hl k hk
 have hmx:xs.length=m:=by have:=hr.1;rw [nums_len]at this;exact this
 have hkm:k≤m:=by omega
 have HFL:Hid (∀v' w',WinR w' B a v' n (bs++xs.take k) (ring++xs.take k)→Chg (Foot a v) w w'→Moved w v v'→Calls Tryz.prog 91 #[.pointer (some ⟨a,0,none⟩),.slice (cutA ad c k) (m-k) (c-k)] w' fun e w2=>e= .returned (.tuple #[])∧Win w2 B a v' n (bs++xs)∧Chg (Foot a v') w' w2):=fun v' w' hw hc hmv=>by
  have hrow:=row8_drop (row8_keep hr hc hap) k hkm hmc
  rw [show(nums xs).drop k=nums (xs.drop k) by simp [nums,List.map_drop]]at hrow
  have hy:(xs.take k).length=k:=by rw [List.length_take];omega
  have:=wlay_any (cutA ad c k) (m-k) (c-k) (xs.drop k) w' hw hrow (fun x hx=>hdig x (List.mem_of_mem_drop hx)) (fun h0 x e f=> ?_) (by omega) (by omega) (by rw [List.length_append,hy];omega) (fun h0=>by
   have h1:=h.small
   rw [List.length_append,hy]
   omega)
  ·rw [List.append_assoc,List.take_append_drop]at this
   exact this
  ·obtain⟨y,e1,e2⟩:=cutA_block e
   rw [e2]at f
   rcases f with f|f
   ·exact hap y e1 (.inl f)
   ·rcases hmv y.block f with q|q
    ·exact hap y e1 (.inr q)
    ·rcases hr.2 with⟨e3,_⟩|⟨x3,e3,hx3⟩
     ·rw [e3]at e1;cases e1
     ·rw [e3]at e1
      cases e1
      have hlt:((nums xs).map (Value.int .u8))[0]?=some (((nums xs).map (Value.int .u8))[0]'(by rw [List.length_map,nums_len];omega)):=List.getElem?_eq_getElem _
      have:=World.block_lt_of_cell? w _ (hx3 0 _ hlt)
      rw [addr_add0]at this
      omega
 clear h hr hdig hap
 go_enter Tryz.func47,Tryz.ntmps47
 go_wp2_with fail
 refine Calls.mono HG.out ?_
 rintro z w1 ⟨rfl,v1,hw1,c1,m1⟩
 have HC1:Hid (Chg (Foot a v) w w1∧Moved w v v1):=⟨c1,m1⟩
 have HL1:Hid _:=HFL.out v1 w1 hw1 c1 m1
 clear hw1 c1 m1 HG HFL
 go_wp2_with fail
 refine Calls.mono HL1.out ?_
 rintro z w2 ⟨rfl,hw2,c2⟩
 have HW2:Hid (Win w2 B a v1 n (bs++xs)):=hw2
 have HC2:Hid (Chg (Foot a v) w w2):=HC1.out.1.trans c2 (fun z f=>HC1.out.2.foot a z f)
 clear hw2 c2 HL1
 go_wp2
 go_end0
 exact⟨rfl,v1,HW2.out,HC2.out,HC1.out.2⟩
end Go.Proofs.YthideplpcnhncaaGreatDoor
namespace Go.Proofs.YthideplpcnhncaaGreatDoor
open Go.RowKit
set_option linter.unusedVariables false
def ReadJ (w1:World)(B:Nat)(v:Value)(N:Nat)(xs:List Value):Nat→World→Prop
 |0,w=>Chg (fun _=>False) w1 w
 |1,w=>Chg (fun _=>False) w1 w
 |_+2,w=>w.ownsRow B 5 1 v N xs∧Chg (fun z=>v.ownBlock=some z) w1 w
theorem own_at0 {w:World}{B:Nat}{ad:Option Addr}{n c:Nat}{xs:List Value}(h:w.ownsRow B 5 1 (.slice ad n c) n xs): ∀g,(Value.slice ad n c).ownBlock=some g→ad=some ⟨g,0,none⟩:=fun g e=>by
 rcases h.2 with⟨e0,e1⟩|⟨g',cap,cur,e0,_⟩
 ·simp only [Value.slice.injEq]at e0
  rw [e0.1]at e
  cases e
 ·simp only [Value.slice.injEq,true_and]at e0
  obtain⟨rfl,rfl⟩:=e0
  simp only [Value.ownBlock,Option.some.injEq]at e
  rw [e]
theorem read_two {n:Nat}{bs ring:List Nat}(hn:1≤n)(h:RM n bs ring)(d j s k1 k2 R:Nat)(h1:1≤d)(hR:ring.length=R)(h2:d≤R)(hj:j≤d)(hs:(bs.length-d)% n=s)(hk1:Nat.min (R-s) j=k1)(hk2:j-k1=k2):(ring.drop s).take k1++ring.take k2=(bs.drop (bs.length-d)).take j:=by
 rw [h.read hn d j h1 (by omega) hj,hs,hR]
 have hk1':min (R-s) j=k1:=hk1
 congr 1
 ·rw [←hk1']
  by_cases c:j≤R-s
  ·rw [Nat.min_eq_right c]
  ·rw [Nat.min_eq_left (by omega),List.take_of_length_le (by rw [List.length_drop];omega),List.take_of_length_le (by rw [List.length_drop];omega)]
 ·congr 1
  omega
theorem splice_two (zs y1 y2:List Nat)(k1 j:Nat)(h1:y1.length=k1)(h2:k1+y2.length=j)(hz:j≤zs.length):(zs.take 0++(y1++zs.drop (0+y1.length))).take k1++(y2++(zs.take 0++(y1++zs.drop (0+y1.length))).drop (k1+y2.length))=(y1++y2)++zs.drop j:=by
 rw [List.take_zero,List.nil_append,Nat.zero_add,List.take_left' h1,List.drop_append,List.drop_eq_nil_of_le (by omega),List.nil_append,h1,List.drop_drop,List.append_assoc]
 congr 3
 omega
set_option maxHeartbeats 4000000 in
set_option maxRecDepth 100000 in
theorem wread_any {B a:Nat}{v:Value}{n:Nat}{bs ring:List Nat}(d j N cb B2:Nat)(bd:Option Addr)(zs:List Nat)(w:World)(h:WinR w B a v n bs ring)(hl:bs.length≤1152921504606846976)(h1:1≤d)(h2:d≤ring.length)(hj:j≤d)(hjN:j≤N)(hob:w.ownsRow B2 5 1 (.slice bd N cb) N (ins .u8 (nums zs)))(hap: ∀g,(Value.slice bd N cb).ownBlock=some g→ ¬Foot a v g):
  Calls Tryz.prog 156 #[.pointer (some ⟨a,0,none⟩),.int .i64 (d:Int),.slice bd j cb] w fun e w'=>e= .returned (.int .i64 (j:Int))∧w'.ownsRow B2 5 1 (.slice bd N cb) N (ins .u8 (nums ((bs.drop (bs.length-d)).take j++zs.drop j)))∧Chg (fun z=>(Value.slice bd N cb).ownBlock=some z) w w':=by
 have hzl:zs.length=N:=by have:=hob.1;simp [ins,nums]at this;omega
 obtain⟨ad0,c0,hv⟩:=form1 h.own
 obtain⟨R,hR⟩: ∃R,ring.length=R:=⟨_,rfl⟩
 obtain⟨L,hL⟩: ∃L,bs.length=L:=⟨_,rfl⟩
 obtain⟨s,hs⟩: ∃s,(L-d)% n=s:=⟨_,rfl⟩
 have HBACK:Hid (∀w1,Chg (fun _=>False) w w1→Calls Tryz.prog 119 #[.pointer (some ⟨a,0,none⟩),.int .i64 (d:Int)] w1 fun e w'=>e= .returned (.int .i64 (s:Int))∧ ∃k,w'=w1.drewN k):=fun w1 c1=>by
  have:=wback_any d w1 (h.new c1) hl h2
  rw [hL,hs]at this
  exact this
 have hsR0:s<R:=by
  have:=h.ok.at h.n1 d h1 h2
  rw [hL,hs]at this
  have:=(List.getElem?_eq_some_iff.1 this).1
  omega
 rw [hR]at hv h2
 have hsm:=h.small
 have hsR:s≤R:=by omega
 obtain⟨k1,hk1⟩: ∃k1,Nat.min (R-s) j=k1:=⟨_,rfl⟩
 have hk1j:k1≤j:=by rw [←hk1];exact Nat.min_le_right _ _
 have hk1r:k1≤R-s:=by rw [←hk1];exact Nat.min_le_left _ _
 obtain⟨k2,hk2⟩: ∃k2,j-k1=k2:=⟨_,rfl⟩
 have hrt:=read_two h.n1 h.ok d j s k1 k2 R h1 hR h2 hj (by rw [hL];exact hs) hk1 hk2
 obtain⟨ys1,hy1⟩: ∃ys1,(ring.drop s).take k1=ys1:=⟨_,rfl⟩
 obtain⟨ys2,hy2⟩: ∃ys2,ring.take k2=ys2:=⟨_,rfl⟩
 rw [hy1,hy2]at hrt
 have hl1:ys1.length=k1:=by rw [←hy1,List.length_take,List.length_drop];omega
 have hl2:ys2.length=k2:=by rw [←hy2,List.length_take];omega
 obtain⟨zs1,hz1⟩: ∃zs1,zs.take 0++(ys1++zs.drop (0+ys1.length))=zs1:=⟨_,rfl⟩
 have hfin:=splice_two zs ys1 ys2 k1 j hl1 (by omega) (by omega)
 rw [hz1,hrt]at hfin
 have hadd:(k1:Int)+(k2:Int)=(j:Int):=by omega
 have hjb:(j:Int)≤4294967295:=by omega
 have hwj:IntKind.i64.wrap (j:Int)=(j:Int):=wr64 (by omega) (by omega)
 have HH:Hid (WinR w B a (.slice ad0 R c0) n bs ring):=by rw [←hv];exact h
 have HOB:Hid (w.ownsRow B2 5 1 (.slice bd N cb) N (ins .u8 (nums zs))):=hob
 have HBK:Hid (w.heap[a]?=some (.cells #[.int .i64 (n:Int),.int .i64 (L:Int),.slice ad0 R c0] 137 (0,0))):=by have:=h.blk;rw [hL,hv]at this;exact this
 have HRR:Hid (Row8 w ad0 R c0 (nums ring)):=row8_own (by have:=h.own;rw [hR,hv]at this;exact this)
 have hRc:R≤c0:=own_cap (by have:=h.own;rw [hR,hv]at this;exact this)
 have HRS:Hid (Row8 w (cutA ad0 c0 s) (R-s) (c0-s) (nums (ring.drop s))):=by
  have:=row8_drop HRR.out s hsR hRc
  rw [show(nums ring).drop s=nums (ring.drop s) by simp [nums,List.map_drop]]at this
  exact this
 have HLN1:Hid (((nums ys1).map (Value.int .u8)).length=Nat.min (R-s) j):=by show _=_;rw [List.length_map,nums_len,hl1,hk1]
 have HFT1:Hid (0+((nums ys1).map (Value.int .u8)).length≤N):=by show _≤_;rw [List.length_map,nums_len,hl1];omega
 have HDS1:Hid (∀g,(Value.slice bd N cb).ownBlock=some g→bd=some ⟨g,0,none⟩):=own_at0 hob
 have HYS1:Hid (ring.drop s=ys1++(ring.drop s).drop k1):=by show _=_;rw [←hy1,List.take_append_drop]
 have HYL1:Hid (ys1.length=k1):=hl1
 have HLN2:Hid (((nums ys2).map (Value.int .u8)).length=Nat.min R (j-k1)):=by show _=_;rw [List.length_map,nums_len,hl2,hk2,show Nat.min R k2=k2 from Nat.min_eq_right (by omega)]
 have HFT2:Hid (k1+((nums ys2).map (Value.int .u8)).length≤N):=by show _≤_;rw [List.length_map,nums_len,hl2];omega
 have HDS2:Hid (0<((nums ys2).map (Value.int .u8)).length→ ∀g,(Value.slice bd N cb).ownBlock=some g→cutA bd cb k1=some ⟨g,k1,none⟩):=fun h0=>by
  rw [List.length_map,nums_len,hl2]at h0
  exact dst_at hob k1 (by omega)
 have HYS2:Hid (ring=ys2++ring.drop k2):=by show _=_;rw [←hy2,List.take_append_drop]
 have HYL2:Hid (ys2.length=k2):=hl2
 have HNA:Hid ((Value.slice bd N cb).ownBlock≠some a):=fun e=>hap a e (.inl rfl)
 have HNR:Hid (∀x,ad0=some x→ ¬(Value.slice bd N cb).ownBlock=some x.block):=fun x e f=>hap _ f (.inr (by rw [hv,e];rfl))
 have HZ1:Hid (splice (ins .u8 (nums zs)) 0 ((nums ys1).map (Value.int .u8))=ins .u8 (nums zs1)):=by show _=_;rw [splice_nums,hz1]
 have HZ2:Hid (splice (ins .u8 (nums zs1)) k1 ((nums ys2).map (Value.int .u8))=ins .u8 (nums ((bs.drop (L-d)).take j++zs.drop j))):=by show _=_;rw [splice_nums,hfin,hL]
 rw [hL]
 clear h hl h1 h2 hj hob hap hzl hs hsR0 hsm hk1 hk2 hrt hy1 hy2 hl1 hl2 hz1 hfin hv hR hL hk1r hRc
 go_enter Tryz.func156,Tryz.ntmps156
 go_wp2_with fail
 refine wp_region_phase (mk:=fun u=> #[_,_,_,_,_,_,_,_,u 8,u 9,u 10,u 11,u 12,u 13,u 14,u 15,u 16,u 17,_,_,_,_,_,_,_,_,_,_]) (G:=lookG [(8,.slice bd j cb),(9,.pointer (some ⟨a,0,none⟩)),(10,.pointer (some ⟨a,0,none⟩)),(11,.pointer (some ⟨a,2,none⟩)),(12,.slice ad0 R c0),(13,.pointer (some ⟨a,0,none⟩)),(14,.int .i64 (d:Int)),(15,.int .i64 (s:Int)),(16,.slice (cutA ad0 c0 s) (R-s) (c0-s)),(17,.int .i64 (k1:Int))]) (J:=fun q _ ww=>ww.heap[a]?=some (.cells #[.int .i64 (n:Int),.int .i64 (L:Int),.slice ad0 R c0] 137 (0,0))∧ReadJ w B2 (.slice bd N cb) N (splice (ins .u8 (nums zs)) 0 ((nums ys1).map (Value.int .u8))) q ww) [7,9] (fun _=>undef) rfl (by kernel_rfl) 10 _ rfl rfl (by kernel_rfl) (by kernel_rfl) (by kernel_rfl) (by decide) ?_ ?_ ?_ ?_ ?_
 ·repeat (refine⟨⟨_,rfl,fun _ _=>rfl⟩,?_⟩)
  exact trivial
 ·exact fun q u u2 ww _ h=>h
 ·exact⟨blk_keep HBK.out (Chg.refl (fun _=>False) w).drew (fun f=>f),(Chg.refl _ w).drew⟩
 ·refine⟨?_,?_,?_,?_,?_,?_,?_,?_,?_,?_,trivial⟩
  ·show StepR _ _ _ _ _ _ _
   unfold StepR
   intro q u w_ hj hd K hK
   clear hd
   go_simp
   exact hK.out (.slice bd j cb) rfl
  ·show StepR _ _ _ _ _ _ _
   unfold StepR
   intro q u w_ hj hd K hK
   clear hd
   go_simp
   exact hK.out (.pointer (some ⟨a,0,none⟩)) rfl
  ·show StepR _ _ _ _ _ _ _
   unfold StepR
   intro q u w_ hj hd K hK
   have h9:u 9= .pointer (some ⟨a,0,none⟩):=hd.get 1 (by kernel_rfl)
   clear hd
   simp only [h9]at hK
   go_simp
   exact hK.out (.pointer (some ⟨a,0,none⟩)) rfl
  ·show StepR _ _ _ _ _ _ _
   unfold StepR
   intro q u w_ hj hd K hK
   have h10:u 10= .pointer (some ⟨a,0,none⟩):=hd.get 2 (by kernel_rfl)
   clear hd
   simp only [h10]at hK
   go_simp
   exact hK.out (.pointer (some ⟨a,2,none⟩)) rfl
  ·show StepR _ _ _ _ _ _ _
   unfold StepR
   intro q u w_ hj hd K hK
   have h11:u 11= .pointer (some ⟨a,2,none⟩):=hd.get 3 (by kernel_rfl)
   clear hd
   simp only [h11]at hK
   obtain⟨x0,x1,x2,_⟩:=cells3 hj.1
   go_simp
   exact hK.out _ rfl
  ·show StepR _ _ _ _ _ _ _
   unfold StepR
   intro q u w_ hj hd K hK
   clear hd
   go_simp
   exact hK.out (.pointer (some ⟨a,0,none⟩)) rfl
  ·show StepR _ _ _ _ _ _ _
   unfold StepR
   intro q u w_ hj hd K hK
   clear hd
   go_simp
   exact hK.out (.int .i64 (d:Int)) rfl
  ·show StepW _ _ _ _ _ _ 0 _
   unfold StepW
   intro u w_ hj hd K hK
   have h13:u 13= .pointer (some ⟨a,0,none⟩):=hd.get 5 (by kernel_rfl)
   have h14:u 14= .int .i64 (d:Int):=hd.get 6 (by kernel_rfl)
   clear hd
   simp only [h13,h14]at hK
   obtain⟨hb,hc⟩:=hj
   have hc:Chg (fun _=>False) w w_:=hc
   go_simp
   go_at_call 119
   refine(HBACK.out w_ hc).mono ?_
   rintro z w2 ⟨rfl,q2,rfl⟩
   exact hK.out _ _ ⟨blk_keep hb (chg_drewN w_ q2) (fun f=>f),chg_then hc (chg_drewN w_ q2)⟩ rfl
  ·show StepR _ _ _ _ _ _ _
   unfold StepR
   intro q u w_ hj hd K hK
   have h12:u 12= .slice ad0 R c0:=hd.get 4 (by kernel_rfl)
   have h15:u 15= .int .i64 (s:Int):=hd.get 7 (by kernel_rfl)
   clear hd
   refine step_cut_lo (a:=⟨_,[]⟩) (by rfl) (.tmp 12) (.tmp 15) (by rfl) ad0 R c0 s (by exact h12) (by exact h15) hsR (hK.out _ rfl)
  ·show StepW _ _ _ _ _ _ 1 _
   unfold StepW
   intro u w_ hj hd K hK
   have h8:u 8= .slice bd j cb:=hd.get 0 (by kernel_rfl)
   have h16:u 16= .slice (cutA ad0 c0 s) (R-s) (c0-s):=hd.get 8 (by kernel_rfl)
   clear hd
   obtain⟨hb,hc⟩:=hj
   have hc:Chg (fun _=>False) w w_:=hc
   refine step_copy_own (a:=⟨_,[]⟩) (by rfl) (.tmp 8) (.tmp 16) 38 38 (by rfl) B2 5 Tryz.underlying38 sizeInfo8 (.slice bd N cb) N (ins .u8 (nums zs)) (ownsRow_keep HOB.out hc (fun _ _ f=>f)) 0 bd j cb (by exact h8) (cutA ad0 c0 s) (R-s) (c0-s) (by exact h16) ((nums ys1).map (Value.int .u8)) HLN1.out HFT1.out (fun _=>HDS1.out) (fun h0=>src_front (Bk.row8_chg HRS.out hc) HYS1.out h0) (one8 ys1) ?_
   intro w2 ho2 c2
   have e9:goInt ((nums ys1).map (Value.int .u8)).length= .int .i64 (k1:Int):=by rw [List.length_map,nums_len,HYL1.out];rfl
   rw [e9]
   exact hK.out _ w2 ⟨blk_keep hb c2 (fun f=>HNA.out f),ho2,(hc.mono (fun _ f=>f.elim)).trans c2 (fun z f=> .inl f)⟩ rfl
 ·intro u w1 hj hA K hK
  obtain⟨hb1,ho1,c1⟩:=hj
  have h17:u 17= .int .i64 (k1:Int):=hA.at 17 (by kernel_rfl)
  have HBK1:Hid (w1.heap[a]?=some (.cells #[.int .i64 (n:Int),.int .i64 (L:Int),.slice ad0 R c0] 137 (0,0))):=hb1
  have HOB1:Hid (w1.ownsRow B2 5 1 (.slice bd N cb) N (ins .u8 (nums zs1))):=by rw [←HZ1.out];exact ho1
  have HRR1:Hid (Row8 w1 ad0 R c0 (nums ring)):=row8_keep HRR.out c1 HNR.out
  have HC1:Hid (Chg (fun z=>(Value.slice bd N cb).ownBlock=some z) w w1):=c1
  clear hA hb1 ho1 c1 HH HOB HBK HRR HRS HLN1 HFT1 HDS1 HYS1 HYL1 HBACK
  go_simp
  refine hK.out _ _ ?_
  clear hK h17 K
  go_wp2_with fail
  refine wp_region_phase (mk:=fun u=> #[_,_,_,_,_,_,_,_,_,_,_,_,_,_,_,_,_,_,u 18,u 19,u 20,u 21,u 22,u 23,u 24,u 25,u 26,u 27]) (G:=lookG [(18,.int .i64 (k1:Int)),(19,.slice bd j cb),(20,.int .i64 (k1:Int)),(21,.slice (cutA bd cb k1) (j-k1) (cb-k1)),(22,.pointer (some ⟨a,0,none⟩)),(23,.pointer (some ⟨a,0,none⟩)),(24,.pointer (some ⟨a,2,none⟩)),(25,.slice ad0 R c0),(26,.int .i64 (k2:Int)),(27,.int .i64 (j:Int))]) (J:=fun q _ ww=>ww.heap[a]?=some (.cells #[.int .i64 (n:Int),.int .i64 (L:Int),.slice ad0 R c0] 137 (0,0))∧LayJ w1 B2 (.slice bd N cb) N (splice (ins .u8 (nums zs1)) k1 ((nums ys2).map (Value.int .u8))) q ww) [8] (fun _=>undef) rfl (by kernel_rfl) 10 _ rfl rfl (by kernel_rfl) (by kernel_rfl) (by kernel_rfl) (by decide) ?_ ?_ ?_ ?_ ?_
  ·repeat (refine⟨⟨_,rfl,fun _ _=>rfl⟩,?_⟩)
   exact trivial
  ·exact fun q u u2 ww _ h=>h
  ·exact⟨blk_keep HBK1.out (Chg.refl (fun _=>False) w1).drew (fun f=>f),(Chg.refl _ w1).drew⟩
  ·refine⟨?_,?_,?_,?_,?_,?_,?_,?_,?_,?_,trivial⟩
   ·show StepR _ _ _ _ _ _ _
    unfold StepR
    intro q u w_ hj hd K hK
    clear hd
    go_simp
    exact hK.out (.int .i64 (k1:Int)) rfl
   ·show StepR _ _ _ _ _ _ _
    unfold StepR
    intro q u w_ hj hd K hK
    clear hd
    go_simp
    exact hK.out (.slice bd j cb) rfl
   ·show StepR _ _ _ _ _ _ _
    unfold StepR
    intro q u w_ hj hd K hK
    clear hd
    go_simp
    exact hK.out (.int .i64 (k1:Int)) rfl
   ·show StepR _ _ _ _ _ _ _
    unfold StepR
    intro q u w_ hj hd K hK
    have h19:u 19= .slice bd j cb:=hd.get 1 (by kernel_rfl)
    have h20:u 20= .int .i64 (k1:Int):=hd.get 2 (by kernel_rfl)
    clear hd
    refine step_cut_lo (a:=⟨_,[]⟩) (by rfl) (.tmp 19) (.tmp 20) (by rfl) bd j cb k1 (by exact h19) (by exact h20) hk1j (hK.out _ rfl)
   ·show StepR _ _ _ _ _ _ _
    unfold StepR
    intro q u w_ hj hd K hK
    clear hd
    go_simp
    exact hK.out (.pointer (some ⟨a,0,none⟩)) rfl
   ·show StepR _ _ _ _ _ _ _
    unfold StepR
    intro q u w_ hj hd K hK
    have h22:u 22= .pointer (some ⟨a,0,none⟩):=hd.get 4 (by kernel_rfl)
    clear hd
    simp only [h22]at hK
    go_simp
    exact hK.out (.pointer (some ⟨a,0,none⟩)) rfl
   ·show StepR _ _ _ _ _ _ _
    unfold StepR
    intro q u w_ hj hd K hK
    have h23:u 23= .pointer (some ⟨a,0,none⟩):=hd.get 5 (by kernel_rfl)
    clear hd
    simp only [h23]at hK
    go_simp
    exact hK.out (.pointer (some ⟨a,2,none⟩)) rfl
   ·show StepR _ _ _ _ _ _ _
    unfold StepR
    intro q u w_ hj hd K hK
    have h24:u 24= .pointer (some ⟨a,2,none⟩):=hd.get 6 (by kernel_rfl)
    clear hd
    simp only [h24]at hK
    obtain⟨x0,x1,x2,_⟩:=cells3 hj.1
    go_simp
    exact hK.out _ rfl
   ·show StepW _ _ _ _ _ _ 0 _
    unfold StepW
    intro u w_ hj hd K hK
    have h21:u 21= .slice (cutA bd cb k1) (j-k1) (cb-k1):=hd.get 3 (by kernel_rfl)
    have h25:u 25= .slice ad0 R c0:=hd.get 7 (by kernel_rfl)
    clear hd
    obtain⟨hb,hc⟩:=hj
    have hc:Chg (fun _=>False) w1 w_:=hc
    refine step_copy_own (a:=⟨_,[]⟩) (by rfl) (.tmp 21) (.tmp 25) 38 38 (by rfl) B2 5 Tryz.underlying38 sizeInfo8 (.slice bd N cb) N (ins .u8 (nums zs1)) (ownsRow_keep HOB1.out hc (fun _ _ f=>f)) k1 (cutA bd cb k1) (j-k1) (cb-k1) (by exact h21) ad0 R c0 (by exact h25) ((nums ys2).map (Value.int .u8)) HLN2.out HFT2.out (fun h0=>HDS2.out h0) (fun h0=>src_front (Bk.row8_chg HRR1.out hc) HYS2.out h0) (one8 ys2) ?_
    intro w2 ho2 c2
    have e9:goInt ((nums ys2).map (Value.int .u8)).length= .int .i64 (k2:Int):=by rw [List.length_map,nums_len,HYL2.out];rfl
    rw [e9]
    exact hK.out _ w2 ⟨blk_keep hb c2 (fun f=>HNA.out f),ho2,(hc.mono (fun _ f=>f.elim)).trans c2 (fun z f=> .inl f)⟩ rfl
   ·show StepR _ _ _ _ _ _ _
    unfold StepR
    intro q u w_ hj hd K hK
    have h18:u 18= .int .i64 (k1:Int):=hd.get 0 (by kernel_rfl)
    have h26:u 26= .int .i64 (k2:Int):=hd.get 8 (by kernel_rfl)
    clear hd
    simp only [h18,h26]at hK
    go_simp
    exact hK.out (.int .i64 (j:Int)) rfl
  ·intro u w2 hj hA K hK
   obtain⟨hb2,ho2,c2⟩:=hj
   have h27:u 27= .int .i64 (j:Int):=hA.at 27 (by kernel_rfl)
   have HO2:Hid (w2.ownsRow B2 5 1 (.slice bd N cb) N (ins .u8 (nums ((bs.drop (L-d)).take j++zs.drop j)))):=by rw [←HZ2.out];exact ho2
   have HC2:Hid (Chg (fun z=>(Value.slice bd N cb).ownBlock=some z) w w2):=HC1.out.trans c2 (fun z f=> .inl f)
   clear hA hb2 ho2 c2
   go_simp
   refine hK.out _ _ ?_
   clear hK h27 K
   go_wp2
   go_ret
   exact⟨rfl,HO2.out,HC2.out⟩
end Go.Proofs.YthideplpcnhncaaGreatDoor
namespace Go.Proofs.YthideplpcnhncaaGreatDoor
open Go.RowKit
set_option linter.unusedVariables false
structure CpR (w0 wr:World) (B a n:Nat) (v:Value) (bs ring:List Nat) (bd:Option Addr) (M D k:Nat) (zs:List Nat):Prop where
 win:WinR wr B a v n bs ring
 own:wr.ownsRow w0.heap.size 5 1 (.slice bd M M) M (ins .u8 (nums (copyL D bs k++zs)))
 chg:Chg (fun _=>False) w0 wr
 len:k+zs.length=M
theorem copy_double_row (d k q:Nat)(bs zs:List Nat)(h1:1≤d)(h2:d≤bs.length)(hd:d∣k)(hq:q≤k)(hz:q≤zs.length):(copyL d bs k++zs).take k++((copyL d bs k).take q++(copyL d bs k++zs).drop (k+((copyL d bs k).take q).length))=copyL d bs (k+q)++zs.drop q:=by
 have hl:=copyL_len d k bs
 have hl2:((copyL d bs k).take q).length=q:=by rw [List.length_take,hl];omega
 rw [List.take_left' hl,hl2,List.drop_append,List.drop_eq_nil_of_le (by omega),List.nil_append,hl,copyL_double h1 h2 hd hq,List.append_assoc]
 congr 3
 omega
set_option maxHeartbeats 4000000 in
set_option maxRecDepth 100000 in
theorem wcopy_any (B a:Nat)(v:Value)(n:Nat)(bs:List Nat)(d m:Int)(w0:World)(h:Win w0 B a v n bs)(hB:B≤w0.heap.size)(hid:I64 d)(him:I64 m)(hl:bs.length+273≤1152921504606846976):Calls Tryz.prog 126 #[.pointer (some ⟨a,0,none⟩),.int .i64 d,.int .i64 m] w0 fun e w'=>
  (¬Cpy n bs d m∧e= .returned (.tuple #[.slice none 0 0,.int .i64 7])∧Chg (fun _=>False) w0 w')
  ∨(Cpy n bs d m∧ ∃ov v',e= .returned (.tuple #[ov,.int .i64 0])∧Win w' B a v' n (bs++copyL d.toNat bs m.toNat)∧w'.ownsRow w0.heap.size 5 1 ov m.toNat (ins .u8 (nums (copyL d.toNat bs m.toNat)))∧(∀g,ov.ownBlock=some g→ ¬Foot a v' g)∧Chg (Foot a v) w0 w'∧Moved w0 v v'):=by
 obtain⟨iu,hiu,hu0,hu1,hu2⟩:=info_parts infoU8
 obtain⟨ring,h⟩:=h
 have HH:Hid _:=wholds_any d w0 h
 have HW0:Hid (WinR w0 B a v n bs ring):=h
 by_cases hi:Inw n bs d
 rotate_left
 ·rw [decide_eq_false hi]at HH
  have HI:Hid (¬Cpy n bs d m):=fun f=>hi f.1
  clear h hl hi
  go_enter Tryz.func126,Tryz.ntmps126
  go_wp2_with fail
  refine Calls.mono HH.out ?_
  rintro z w1 ⟨rfl,c1⟩
  have HC:Hid (Chg (fun _=>False) w0 w1):=c1
  clear c1 HH
  go_wp2
  go_ret2
  exact .inl ⟨HI.out,rfl,HC.out⟩
 rw [decide_eq_true hi]at HH
 by_cases hm0:m<0
 ·have hd1:decide (m<0)=true:=by simp;omega
  have HI:Hid (¬Cpy n bs d m):=fun f=>by have:=f.2.1;omega
  clear h hl hi
  go_enter Tryz.func126,Tryz.ntmps126
  go_wp2_with fail
  refine Calls.mono HH.out ?_
  rintro z w1 ⟨rfl,c1⟩
  have HC:Hid (Chg (fun _=>False) w0 w1):=c1
  clear c1 HH
  go_wp2
  go_ret2
  exact .inl ⟨HI.out,rfl,HC.out⟩
 have hd1:decide (m<0)=false:=by simp;omega
 by_cases hm1:273<m
 ·have hd2:decide (273<m)=true:=by simp;omega
  have HI:Hid (¬Cpy n bs d m):=fun f=>by have:=f.2.2;omega
  clear h hl hi
  go_enter Tryz.func126,Tryz.ntmps126
  go_wp2_with fail
  refine Calls.mono HH.out ?_
  rintro z w1 ⟨rfl,c1⟩
  have HC:Hid (Chg (fun _=>False) w0 w1):=c1
  clear c1 HH
  go_wp2
  go_ret2
  exact .inl ⟨HI.out,rfl,HC.out⟩
 have hd2:decide (273<m)=false:=by simp;omega
 have HCPY:Hid (Cpy n bs d m):=⟨hi,by omega,by omega⟩
 obtain⟨i1,i2,i3,i4⟩:=hi.nat
 obtain⟨D,hD⟩: ∃D,d.toNat=D:=⟨_,rfl⟩
 rw [hD]at i1 i2 i3 i4
 subst i4
 obtain⟨M,rfl⟩: ∃M:Nat,(M:Int)=m:=⟨m.toNat,by omega⟩
 simp only [Int.toNat_natCast]
 have hM:M≤273:=by omega
 have hMb:(M:Int)≤273:=by omega
 have hDr:D≤ring.length:=by have:=h.ok.len;omega
 have HD1:Hid (1≤D∧D≤bs.length):=⟨i1,i2⟩
 have HBL:Hid (bs.length+273≤1152921504606846976):=hl
 have hDi:(D:Int)≤4294967295:=by have:=h.small;omega
 have HFZ:Hid (∀z,Foot a v z→z<w0.heap.size):=fun z f=>(h.lt f).2
 obtain⟨j,hj⟩: ∃j,min D M=j:=⟨_,rfl⟩
 have hjM:j≤M:=by omega
 have hjD:j≤D:=by omega
 have hmin:=min_int hj
 have HJS:Hid (j=M∨(D∣j∧1≤j)):=by
  by_cases c:M≤D
  ·exact .inl (by omega)
  ·exact .inr ⟨⟨1,by omega⟩,by omega⟩
 have HREAD:Hid (∀bd w1 zs,WinR w1 B a v n bs ring→w1.ownsRow w0.heap.size 5 1 (.slice bd M M) M (ins .u8 (nums zs))→Calls Tryz.prog 156 #[.pointer (some ⟨a,0,none⟩),.int .i64 (D:Int),.slice bd j M] w1 fun e w'=>e= .returned (.int .i64 (j:Int))∧w'.ownsRow w0.heap.size 5 1 (.slice bd M M) M (ins .u8 (nums (copyL D bs j++zs.drop j)))∧Chg (fun z=>(Value.slice bd M M).ownBlock=some z) w1 w'):=fun bd w1 zs hw ho=>by
  have:=wread_any D j M M w0.heap.size bd zs w1 hw (by omega) i1 hDr hjD hjM ho (fun g e f=>by have h1:=(ho.lt g e).1;have h2:=HFZ.out g f;omega)
  rw [copyL_front i1 i2 hjD]
  exact this
 clear h hl hi i1 i2 i3 hD hm0 hm1 hid him hj
 go_enter Tryz.func126,Tryz.ntmps126
 go_wp2_with fail
 refine Calls.mono HH.out ?_
 rintro z w1 ⟨rfl,c1⟩
 have HC1:Hid (Chg (fun _=>False) w0 w1):=c1
 have hs1:w0.heap.size≤w1.heap.size:=c1.size
 clear c1 HH
 go_wp2_with (first|(at_make;refine wpList_make_full _ rfl (.tmp 22) (.tmp 22) 38 rfl w0.heap.size 5 iu (.int .u8 0) 1 Tryz.underlying38 hiu hu0 hu1 .i64 .i64 _ _ M rfl rfl rfl rfl (by rw [hu2];omega) (by unfold maxLen;omega) hs1 ?_))
 intro w2 ho2 hg2
 have c2:Chg (fun _=>False) w1 w2:=(Chg.refl _ w1).grown hg2 (fun k e=>by cases e)
 have HC2:Hid (Chg (fun _=>False) w0 w2):=chg_then HC1.out c2
 have HO2:Hid (w2.ownsRow w0.heap.size 5 1 (.slice (some ⟨w1.heap.size,0,none⟩) M M) M (ins .u8 (nums (List.replicate M 0)))):=by
  rw [toList_madeCells_one]at ho2
  simpa [Hid,ins,nums]using ho2
 have HRD:Hid _:=HREAD.out _ w2 _ (HW0.out.new HC2.out) HO2.out
 have HCA:Hid (∀w3,Chg (fun z=>(Value.slice (some ⟨w1.heap.size,0,none⟩) M M).ownBlock=some z) w2 w3→Chg (fun _=>False) w0 w3):=fun w3 c=>HC2.out.trans c (fun z e=> .inr (HO2.out.lt z e).1)
 clear ho2 hg2 c2 HREAD HO2
 generalize (some (⟨w1.heap.size,0,none⟩:Addr))=bd at*
 go_wp2_with (first|(refine wpList_cut_hi rfl _ _ rfl bd M M j rfl rfl hjM ?_))
 refine Calls.mono HRD.out ?_
 rintro z w3 ⟨rfl,ho3,c3⟩
 have HS3:Hid (CpR w0 w3 B a n v bs ring bd M D j ((List.replicate M 0).drop j)):=⟨HW0.out.new (HCA.out w3 c3),ho3,HCA.out w3 c3,by rw [List.length_drop,List.length_replicate];omega⟩
 clear ho3 c3 HRD HCA HC2 HC1 hs1
 go_wp2_with fail
 go_loopw [9] (fun iv wr=> ∃(k:Nat) (zs:List Nat),k≤M∧iv= .int .i64 (k:Int)∧Hid (k=M∨(D∣k∧1≤k))∧Hid (CpR w0 wr B a n v bs ring bd M D k zs)) (fun iv _=>M-(intOf iv).toNat)
 case atStart=>exact⟨j,_,hjM,rfl,HJS.out,HS3.out⟩
 case round=>
  clear HS3 HJS hmin hjM hjD
  obtain⟨k,zs,hk,rfl,HDV,HS⟩:=hrel
  by_cases hlt:k<M
  ·have hdk:decide (k<M)=true:=decide_eq_true hlt
   have hdv:D∣k∧1≤k:=by rcases HDV.out with e|e;omega;exact e
   obtain⟨qq,hq⟩: ∃qq,Nat.min k (M-k)=qq:=⟨_,rfl⟩
   have hqk:qq≤k:=by rw [←hq];exact Nat.min_le_left _ _
   have hqM:qq≤M-k:=by rw [←hq];exact Nat.min_le_right _ _
   have hq1:1≤qq:=by rw [←hq];exact Nat.le_min.2 ⟨hdv.2,by omega⟩
   have HDN:Hid (k+qq=M∨(D∣(k+qq)∧1≤k+qq)):=by
    have hq':min k (M-k)=qq:=hq
    by_cases c:k≤M-k
    ·refine .inr ⟨?_,by omega⟩
     rw [show qq=k by omega]
     exact Nat.dvd_add hdv.1 hdv.1
    ·exact .inl (by omega)
   obtain⟨kq,hkq⟩: ∃kq,k+qq=kq:=⟨_,rfl⟩
   have hadd:(k:Int)+(qq:Int)=(kq:Int):=by omega
   have hwr:IntKind.i64.wrap (kq:Int)=(kq:Int):=wr64 (by omega) (by omega)
   obtain⟨ls,hls⟩: ∃ls,copyL D bs k++zs=ls:=⟨_,rfl⟩
   obtain⟨ys,hys⟩: ∃ys,(copyL D bs k).take qq=ys:=⟨_,rfl⟩
   have hyl:ys.length=qq:=by rw [←hys,List.length_take,copyL_len];omega
   have hrow:=copy_double_row D k qq bs zs HD1.out.1 HD1.out.2 hdv.1 hqk (by have:=HS.out.len;omega)
   rw [hys,hls,hkq]at hrow
   have HRW:Hid (splice (ins .u8 (nums ls)) k ((nums ys).map (Value.int .u8))=ins .u8 (nums (copyL D bs kq++zs.drop qq))):=by show _=_;rw [splice_nums,hrow]
   have HO:Hid (wr.ownsRow w0.heap.size 5 1 (.slice bd M M) M (ins .u8 (nums ls))):=by rw [←hls];exact HS.out.own
   have HLN:Hid (((nums ys).map (Value.int .u8)).length=Nat.min k (M-k)):=by show _=_;rw [List.length_map,nums_len,hyl,hq]
   have HFIT:Hid (k+((nums ys).map (Value.int .u8)).length≤M):=by show _≤_;rw [List.length_map,nums_len,hyl];omega
   have HDST:Hid (∀g,(Value.slice bd M M).ownBlock=some g→cutA bd M k=some ⟨g,k,none⟩):=dst_at HO.out k hlt
   have HYS:Hid (ls=ys++((copyL D bs k).drop qq++zs)):=by show _=_;rw [←hls,←hys,←List.append_assoc,List.take_append_drop]
   have HYL:Hid (ys.length=qq):=hyl
   have HKQ:Hid (k+qq=kq):=hkq
   clear hq hls hys hyl hrow hdv hkq
   go_wp2_with fail
   refine wp_region_phase (mk:=fun u=> #[_,_,_,_,_,_,_,_,_,_,_,_,_,_,_,_,_,_,_,_,_,_,_,_,_,_,_,_,_,_,_,_,_,_,_,u 35,u 36,u 37,u 38,u 39,u 40,u 41,u 42,u 43,_,_,_,_]) (G:=lookG [(35,.int .i64 (k:Int)),(36,.slice bd M M),(37,.int .i64 (k:Int)),(38,.slice (cutA bd M k) (M-k) (M-k)),(39,.slice bd M M),(40,.int .i64 (k:Int)),(41,.slice bd k M),(42,.int .i64 (qq:Int)),(43,.int .i64 (kq:Int))]) (J:=fun q _ ww=>LayJ wr w0.heap.size (.slice bd M M) M (splice (ins .u8 (nums ls)) k ((nums ys).map (Value.int .u8))) q ww) [7] (fun t=>match t with|35=>u35|36=>u36|37=>u37|38=>u38|39=>u39|40=>u40|41=>u41|42=>u42|43=>u43|_=>undef) rfl (by kernel_rfl) 9 _ rfl rfl (by kernel_rfl) (by kernel_rfl) (by kernel_rfl) (by decide) ?_ ?_ ?_ ?_ ?_
   ·repeat (refine⟨⟨_,rfl,fun _ _=>rfl⟩,?_⟩)
    exact trivial
   ·exact fun q u u2 ww _ h=>h
   ·exact(Chg.refl _ wr).drew
   ·refine⟨?_,?_,?_,?_,?_,?_,?_,?_,?_,trivial⟩
    ·show StepR _ _ _ _ _ _ _
     unfold StepR
     intro q u w_ hj hd K hK
     clear hd
     go_simp
     exact hK.out (.int .i64 (k:Int)) rfl
    ·show StepR _ _ _ _ _ _ _
     unfold StepR
     intro q u w_ hj hd K hK
     clear hd
     go_simp
     exact hK.out (.slice bd M M) rfl
    ·show StepR _ _ _ _ _ _ _
     unfold StepR
     intro q u w_ hj hd K hK
     clear hd
     go_simp
     exact hK.out (.int .i64 (k:Int)) rfl
    ·show StepR _ _ _ _ _ _ _
     unfold StepR
     intro q u w_ hj hd K hK
     have h36:u 36= .slice bd M M:=hd.get 1 (by kernel_rfl)
     have h37:u 37= .int .i64 (k:Int):=hd.get 2 (by kernel_rfl)
     clear hd
     refine step_cut_lo (a:=⟨_,[]⟩) (by rfl) (.tmp 36) (.tmp 37) (by rfl) bd M M k (by exact h36) (by exact h37) hk (hK.out _ rfl)
    ·show StepR _ _ _ _ _ _ _
     unfold StepR
     intro q u w_ hj hd K hK
     clear hd
     go_simp
     exact hK.out (.slice bd M M) rfl
    ·show StepR _ _ _ _ _ _ _
     unfold StepR
     intro q u w_ hj hd K hK
     clear hd
     go_simp
     exact hK.out (.int .i64 (k:Int)) rfl
    ·show StepR _ _ _ _ _ _ _
     unfold StepR
     intro q u w_ hj hd K hK
     have h39:u 39= .slice bd M M:=hd.get 4 (by kernel_rfl)
     have h40:u 40= .int .i64 (k:Int):=hd.get 5 (by kernel_rfl)
     clear hd
     refine step_cut_hi (a:=⟨_,[]⟩) (by rfl) (.tmp 39) (.tmp 40) (by rfl) bd M M k (by exact h39) (by exact h40) hk (hK.out _ rfl)
    ·show StepW _ _ _ _ _ _ 0 _
     unfold StepW
     intro u w_ hj hd K hK
     have h38:u 38= .slice (cutA bd M k) (M-k) (M-k):=hd.get 3 (by kernel_rfl)
     have h41:u 41= .slice bd k M:=hd.get 6 (by kernel_rfl)
     clear hd
     have hc:Chg (fun _=>False) wr w_:=hj
     refine step_copy_own (a:=⟨_,[]⟩) (by rfl) (.tmp 38) (.tmp 41) 38 38 (by rfl) w0.heap.size 5 Tryz.underlying38 sizeInfo8 (.slice bd M M) M (ins .u8 (nums ls)) (ownsRow_keep HO.out hc (fun _ _ f=>f)) k (cutA bd M k) (M-k) (M-k) (by exact h38) bd k M (by exact h41) ((nums ys).map (Value.int .u8)) HLN.out HFIT.out (fun _=>HDST.out) (fun h0=>src_front (row8_own (ownsRow_keep HO.out hc (fun _ _ f=>f))) HYS.out h0) (one8 ys) ?_
     intro w2 ho2 c2
     have e9:goInt ((nums ys).map (Value.int .u8)).length= .int .i64 (qq:Int):=by rw [List.length_map,nums_len,HYL.out];rfl
     rw [e9]
     exact hK.out _ w2 ⟨ho2,(hc.mono (fun _ f=>f.elim)).trans c2 (fun z f=> .inl f)⟩ rfl
    ·show StepR _ _ _ _ _ _ _
     unfold StepR
     intro q u w_ hj hd K hK
     have h35:u 35= .int .i64 (k:Int):=hd.get 0 (by kernel_rfl)
     have h42:u 42= .int .i64 (qq:Int):=hd.get 7 (by kernel_rfl)
     clear hd
     simp only [h35,h42]at hK
     go_simp
     exact hK.out (.int .i64 (kq:Int)) rfl
   ·intro u w2 hj hA K hK
    obtain⟨ho2,c2⟩:=hj
    have h43:u 43= .int .i64 (kq:Int):=hA.at 43 (by kernel_rfl)
    have cA:Chg (fun _=>False) w0 w2:=HS.out.chg.trans c2 (fun z e=> .inr (HO.out.lt z e).1)
    have HS2:Hid (CpR w0 w2 B a n v bs ring bd M D kq (zs.drop qq)):=⟨HW0.out.new cA,by rw [←HRW.out];exact ho2,cA,by have h1:=HS.out.len;have h2:=HKQ.out;rw [List.length_drop];omega⟩
    have HDM:Hid (kq=M∨(D∣kq∧1≤kq)):=by rw [←HKQ.out];exact HDN.out
    have hkM:kq≤M:=by have:=HKQ.out;omega
    have hkk:k<kq:=by have:=HKQ.out;omega
    clear hA ho2 c2 cA HS HRW HO HLN HFIT HDST HYS HYL HDN HKQ
    go_simp
    refine hK.out _ _ ?_
    clear hK h43 K
    go_wp2_with fail
    go_roundw
    case rel=>exact⟨kq,_,hkM,rfl,HDM.out,HS2.out⟩
    case measure=>simp [intOf];omega
  ·have hkM:M=k:=by omega
   subst hkM
   have hzs:zs=[]:=List.eq_nil_of_length_eq_zero (by have:=HS.out.len;omega)
   subst hzs
   have HO:Hid (wr.ownsRow w0.heap.size 5 1 (.slice bd M M) M (ins .u8 (nums (copyL D bs M)))):=by have:=HS.out.own;rw [List.append_nil]at this;exact this
   have HW:Hid (Win wr B a v n bs):=⟨ring,HS.out.win⟩
   have HC:Hid (Chg (fun _=>False) w0 wr):=HS.out.chg
   have HPUT:Hid _:=wput_any B a v n bs bd M M (copyL D bs M) wr HW.out (Nat.le_trans hB HC.out.size) (row8_own HO.out) (copyL_dig HD1.out.1 M HD1.out.2 HS.out.win.dig) (fun x e f=>by
    subst e
    have h1:=(HO.out.lt x.block rfl).1
    have h2:=HFZ.out _ f
    omega) (Nat.le_refl _) (by omega) (by have:=HBL.out;omega)
   clear HS hlt
   go_wp2_with fail
   refine Calls.mono HPUT.out ?_
   rintro z w4 ⟨rfl,v4,hw4,c4,m4⟩
   have HF:Hid (Win w4 B a v4 n (bs++copyL D bs M)∧w4.ownsRow w0.heap.size 5 1 (.slice bd M M) M (ins .u8 (nums (copyL D bs M)))∧(∀g,(Value.slice bd M M).ownBlock=some g→ ¬Foot a v4 g)∧Chg (Foot a v) w0 w4∧Moved w0 v v4):=by
    have hd0: ∀g,(Value.slice bd M M).ownBlock=some g→ ¬Foot a v g:=fun g e f=>by
     have h1:=(HO.out.lt g e).1
     have h2:=HFZ.out _ f
     omega
    refine⟨hw4,ownsRow_keep HO.out c4 hd0,fun g e f=> ?_,(HC.out.mono (fun _ f=>f.elim)).trans c4 (fun z f=> .inl f),moved_from HC.out.size m4⟩
    rcases f with f|f
    ·exact hd0 g e (.inl f)
    ·rcases m4 g f with y|y
     ·exact hd0 g e (.inr y)
     ·have:=(HO.out.lt g e).2
      omega
   clear hw4 c4 m4 HPUT HO HW HC
   go_wp2
   go_ret2
   exact .inr ⟨HCPY.out,_,v4,rfl,HF.out⟩
end Go.Proofs.YthideplpcnhncaaGreatDoor
namespace Go.Proofs.YthideplpcnhncaaGreatDoor
open Go.RowKit
set_option linter.unusedVariables false
theorem winSpec:WinSpec Win where
 lt:=fun⟨_,h⟩ z f=>h.lt f
 blk:=fun⟨_,h⟩=>⟨_,h.blk⟩
 ring:=fun⟨_,h⟩ g e=>owns_blk h.own e
 keep:=fun⟨ring,h⟩ hc hS=>⟨ring,h.keep hc hS⟩
 down:=fun⟨ring,h⟩ hB=>⟨ring,⟨Nat.le_trans hB h.hr,h.blk,owns_base h.own hB,h.ok,h.n1,h.n2,h.dig⟩⟩
 nn:=fun⟨_,h⟩=>⟨h.n1,h.n2,h.dig⟩
 newOut:=wnew_out
 newIn:=wnew_in
 pos:=wpos_q
 last:=wlast_any'
 put:=wput_any
 copy:=wcopy_any
 clear:=wclear_any
 fork:=wfork_any
end Go.Proofs.YthideplpcnhncaaGreatDoor
namespace Go.Proofs.YthideplpcnhncaaGreatDoor
open Go.RowKit
open St12 Sy13 Lz14
set_option linter.unusedVariables false
set_option linter.unusedSimpArgs false
def isL (t:Nat):Bool:=t==0||t==1||t==6||t==8||t==9||t==12||t==13||t==15||t==16
abbrev Dir:Type:=Nat→Nat→Nat×Value
abbrev Lst:Type:=Nat→Value
structure Part (w:World) (B:Nat) (p:Prp) (pr:Nm→Nat→Int) (m:Nat) (D:Dir) (V:Lst):Prop where
 fm: ∀t,t<m→Fam w B (cntS p t) (D t) (fun a=>rowS p pr t a)
 ap: ∀t,t<m→ ∀t',t'<m→t≠t'→ ∀a,a<cntS p t→ ∀a',a'<cntS p t'→(D t a).1≠(D t' a').1∧ ∀z,(D t a).2.ownBlock=some z→(D t' a').2.ownBlock≠some z
 ls: ∀t,t<m→isL t=true→w.ownsRow B 78 1 (V t) (cntS p t) (ptsL (D t) (cntS p t))
theorem Part.none (w:World)(B:Nat)(p:Prp)(pr:Nm→Nat→Int)(D:Dir)(V:Lst):Part w B p pr 0 D V:=⟨fun t h=>by omega,fun t h=>by omega,fun t h=>by omega⟩
def addD (D:Dir)(m:Nat)(f:Nat→Nat×Value):Dir:=fun t=>if t=m then f else D t
def addV (V:Lst)(m:Nat)(v:Value):Lst:=fun t=>if t=m then v else V t
theorem addD_at (D:Dir)(m:Nat)(f:Nat→Nat×Value):addD D m f m=f:=if_pos rfl
theorem addD_off (D:Dir){m t:Nat}(f:Nat→Nat×Value)(h:t≠m):addD D m f t=D t:=if_neg h
theorem addV_at (V:Lst)(m:Nat)(v:Value):addV V m v m=v:=if_pos rfl
theorem addV_off (V:Lst){m t:Nat}(v:Value)(h:t≠m):addV V m v t=V t:=if_neg h
def Alk (m:Nat)(D:Dir)(V:Lst)(D':Dir)(V':Lst):Prop:= ∀t,t<m→D' t=D t∧V' t=V t
theorem Alk.refl (m:Nat)(D:Dir)(V:Lst):Alk m D V D V:=fun _ _=>⟨rfl,rfl⟩
theorem Alk.add (m:Nat)(D:Dir)(V:Lst)(f:Nat→Nat×Value)(v:Value):Alk m D V (addD D m f) (addV V m v):=fun t h=>⟨addD_off D f (by omega),addV_off V v (by omega)⟩
theorem Alk.trans {m n:Nat}{D D' D'':Dir}{V V' V'':Lst}(h:Alk m D V D' V')(i:Alk n D' V' D'' V'')(hn:m≤n):Alk m D V D'' V'':=fun t ht=>⟨(i t (by omega)).1.trans (h t ht).1,(i t (by omega)).2.trans (h t ht).2⟩
theorem Part.lt {w:World}{B m:Nat}{p:Prp}{pr:Nm→Nat→Int}{D:Dir}{V:Lst}(h:Part w B p pr m D V){t a:Nat}(ht:t<m)(ha:a<cntS p t):(D t a).1<w.heap.size∧ ∀z,(D t a).2.ownBlock=some z→z<w.heap.size:=⟨((h.fm t ht).st a ha).lt2.1,fun z e=>(((h.fm t ht).st a ha).lt2.2 z e).2⟩
theorem Part.add {w w':World}{B m:Nat}{p:Prp}{pr:Nm→Nat→Int}{D:Dir}{V:Lst}{f:Nat→Nat×Value}{v:Value}(h:Part w B p pr m D V)(hc:Chg (fun _=>False) w w')(hf:Fam w' w.heap.size (cntS p m) f (fun a=>rowS p pr m a))(hl:isL m=true→w'.ownsRow w.heap.size 78 1 v (cntS p m) (ptsL f (cntS p m)))(hB:B≤w.heap.size):Part w' B p pr (m+1) (addD D m f) (addV V m v):=by
 refine⟨fun t ht=> ?_,fun t ht t' ht' hne a ha a' ha'=> ?_,fun t ht hi=> ?_⟩
 ·by_cases e:t=m
  ·subst e
   rw [addD_at]
   exact hf.down hB
  ·rw [addD_off D f e]
   exact(h.fm t (by omega)).new hc
 ·by_cases e:t=m
  ·subst e
   rw [addD_at,addD_off D f (Ne.symm hne)]
   have k:=h.lt (t:=t') (by omega) ha'
   have i:=hf.st a ha
   refine⟨?_,fun z e1 e2=> ?_⟩
   ·have:=i.ha;omega
   ·have:=(i.lt2.2 z e1).1;have:=k.2 z e2;omega
  ·rw [addD_off D f e]
   have k:=h.lt (t:=t) (by omega) ha
   by_cases e3:t'=m
   ·subst e3
    rw [addD_at]
    have i:=hf.st a' ha'
    refine⟨?_,fun z e1 e2=> ?_⟩
    ·have:=i.ha;omega
    ·have:=(i.lt2.2 z e2).1;have:=k.2 z e1;omega
   ·rw [addD_off D f e3]
    exact h.ap t (by omega) t' (by omega) hne a ha a' ha'
 ·by_cases e:t=m
  ·subst e
   rw [addD_at,addV_at]
   exact owns_base (hl hi) hB
  ·rw [addD_off D f e,addV_off V v e]
   exact ownsRow_keep (h.ls t (by omega) hi) hc (fun _ _ f=>f)
theorem Fam.one {w:World}{B a:Nat}{v:Value}{g:Nat→List Int}(h:St w B a v (g 0)):Fam w B 1 (fun _=>(a,v)) g:=⟨fun i hi=>by
 obtain rfl:i=0:=by omega
 exact h,fun i hi j hj hne=>by omega⟩
theorem Part.new {w w':World}{B m:Nat}{p:Prp}{pr:Nm→Nat→Int}{D:Dir}{V:Lst}(h:Part w B p pr m D V)(hc:Chg (fun _=>False) w w'):Part w' B p pr m D V:=⟨fun t ht=>(h.fm t ht).new hc,h.ap,fun t ht hi=>ownsRow_keep (h.ls t ht hi) hc (fun _ _ f=>f)⟩
theorem Part.off {w w':World}{B m g:Nat}{p:Prp}{pr:Nm→Nat→Int}{D:Dir}{V:Lst}{cs:Array Value}{ty:TypeId}{S:Nat→Prop}(h:Part w B p pr m D V)(hc:Chg S w w')(hS: ∀z,S z→z=g)(hg:w.heap[g]?=some (.cells cs ty (0,0)))(h1:ty≠222)(h2:ty≠226)(h3:ty≠78):Part w' B p pr m D V:=⟨fun t ht=>⟨fun i hi=>((h.fm t ht).st i hi).off hc hS hg h1 h2,(h.fm t ht).ap⟩,h.ap,fun t ht hi=>ownsRow_keep (h.ls t ht hi) hc (fun z e e2=>by
 have:=hS z e2
 subst this
 obtain⟨cur,hcur⟩:=owns_blk (h.ls t ht hi) e
 exact ty_ne hg hcur h3)⟩
theorem Part.down {w:World}{B B' m:Nat}{p:Prp}{pr:Nm→Nat→Int}{D:Dir}{V:Lst}(h:Part w B p pr m D V)(hB:B'≤B):Part w B' p pr m D V:=⟨fun t ht=>(h.fm t ht).down hB,h.ap,fun t ht hi=>owns_base (h.ls t ht hi) hB⟩
theorem pow_pb {p:Prp}(h:allow p):2^p.pb.toNat≤16∧2^(p.lc+p.lp).toNat≤16∧0≤p.lc∧0≤p.lp∧0≤p.pb∧p.lc+p.lp≤4∧p.pb≤4:=by
 have h0:0≤p.lc∧0≤p.lp∧0≤p.pb∧p.lc+p.lp≤4∧p.pb≤4:=by
  unfold allow at h
  omega
 exact⟨Nat.pow_le_pow_right (n:=2) (by omega) (show p.pb.toNat≤4 by omega),Nat.pow_le_pow_right (n:=2) (by omega) (show(p.lc+p.lp).toNat≤4 by omega),h0⟩
theorem ln_le {p:Prp}(h:allow p)(t:Nat):lnS p t≤768:=by
 have:=(pow_pb h).1
 unfold lnS
 split<;>omega
theorem cnt_le {p:Prp}(h:allow p)(t:Nat):cntS p t≤16:=by
 have:=(pow_pb h).1
 have:=(pow_pb h).2.1
 unfold cntS
 split<;>omega
theorem prow {w:World}{B:Nat}{p:Prp}{m:Nat}{D:Dir}{V:Lst}(hp:allow p)(h:Part w B p fresh m D V)(hB:B≤w.heap.size)(h1:cntS p m=1)(h2:isL m=false)(n:Nat)(hn:lnS p m=n):Calls Tryz.prog 67 #[.int .i64 (n:Int)] w fun e w'=> ∃D' V',e= .returned (ptV (D' m 0))∧Part w' B p fresh (m+1) D' V'∧Alk m D V D' V'∧Chg (fun _=>False) w w':=by
 have:=ln_le hp m
 refine(row_any n (by omega) w).mono ?_
 rintro z w' ⟨a,v,rfl,hs,hc⟩
 refine⟨addD D m (fun _=>(a,v)),addV V m v,by rw [addD_at];rfl,h.add hc ?_ (fun e=>by rw [h2]at e;cases e) hB,Alk.add _ _ _ _ _,hc⟩
 rw [h1]
 exact Fam.one (by rw [row_half,hn];exact hs)
theorem prows {w:World}{B:Nat}{p:Prp}{m:Nat}{D:Dir}{V:Lst}(hp:allow p)(h:Part w B p fresh m D V)(hB:B≤w.heap.size)(c:Nat)(h1:cntS p m=c)(n:Nat)(hn:lnS p m=n):Calls Tryz.prog 66 #[.int .i64 (c:Int),.int .i64 (n:Int)] w fun e w'=> ∃D' V',e= .returned (V' m)∧Part w' B p fresh (m+1) D' V'∧Alk m D V D' V'∧Chg (fun _=>False) w w':=by
 have:=ln_le hp m
 have:=cnt_le hp m
 refine(rows_any c n (by omega) (by omega) w).mono ?_
 rintro z w' ⟨v,f,rfl,ho,hf,hc⟩
 refine⟨addD D m f,addV V m v,by rw [addV_at],h.add hc ?_ (fun e=>by rw [h1];exact ho) hB,Alk.add _ _ _ _ _,hc⟩
 rw [h1]
 exact⟨fun i hi=>by show St _ _ _ _ (rowS p fresh m i);rw [row_half,hn];exact hf.st i hi,hf.ap⟩
theorem pfork {w:World}{B B0:Nat}{p:Prp}{pr:Nm→Nat→Int}{m:Nat}{D D0:Dir}{V V0:Lst}(hp:allow p)(h0:Part w B0 p pr 18 D0 V0)(h:Part w B p pr m D V)(hm:m<18)(hB:B≤w.heap.size)(h1:cntS p m=1)(h2:isL m=false):Calls Tryz.prog 129 #[ptV (D0 m 0)] w fun e w'=> ∃D' V',e= .returned (ptV (D' m 0))∧Part w' B p pr (m+1) D' V'∧Alk m D V D' V'∧Chg (fun _=>False) w w':=by
 have:=ln_le hp m
 refine(fork_any B0 (D0 m 0).1 (D0 m 0).2 (rowS p pr m 0) w ((h0.fm m hm).st 0 (by omega)) (by rw [row_len];omega)).mono ?_
 rintro z w' ⟨a,v,rfl,_,hs,hc⟩
 refine⟨addD D m (fun _=>(a,v)),addV V m v,by rw [addD_at];rfl,h.add hc ?_ (fun e=>by rw [h2]at e;cases e) hB,Alk.add _ _ _ _ _,hc⟩
 rw [h1]
 exact Fam.one hs
theorem pforks {w:World}{B B0:Nat}{p:Prp}{pr:Nm→Nat→Int}{m:Nat}{D D0:Dir}{V V0:Lst}(hp:allow p)(h0:Part w B0 p pr 18 D0 V0)(h:Part w B p pr m D V)(hm:m<18)(hB:B≤w.heap.size)(hl:isL m=true):Calls Tryz.prog 128 #[V0 m] w fun e w'=> ∃D' V',e= .returned (V' m)∧Part w' B p pr (m+1) D' V'∧Alk m D V D' V'∧Chg (fun _=>False) w w':=by
 have:=ln_le hp m
 have:=cnt_le hp m
 refine(mforks_any B0 (cntS p m) (by omega) (V0 m) (D0 m) (fun a=>rowS p pr m a) (fun i=>by rw [row_len];omega) w (h0.ls m hm hl) (h0.fm m hm)).mono ?_
 rintro z w' ⟨v,f,rfl,ho,hf,hc⟩
 exact⟨addD D m f,addV V m v,by rw [addV_at],h.add hc hf (fun _=>ho) hB,Alk.add _ _ _ _ _,hc⟩
theorem infoML:(Tryz.prog.info? 80).map (·.size)=some 4:=by kernel_rfl
theorem infoMT:(Tryz.prog.info? 82).map (·.size)=some 21:=by kernel_rfl
theorem infoLC:(Tryz.prog.info? 91).map (·.size)=some 27:=by kernel_rfl
def lenC (D:Dir)(V:Lst)(m:Nat):Array Value:= #[ptV (D m 0),V (m+1),V (m+2),ptV (D (m+3) 0)]
def tabC (p:Prp)(D:Dir)(V:Lst):Array Value:= #[.int .i64 p.lc,.int .i64 p.lp,.int .i64 p.pb,V 0,V 1,ptV (D 2 0),ptV (D 3 0),ptV (D 4 0),ptV (D 5 0),V 6,ptV (D 7 0),V 8,V 9,ptV (D 10 0),ptV (D 11 0),V 12,V 13,ptV (D 14 0),V 15,V 16,ptV (D 17 0)]
theorem pt_one (x:Nat×Value):(ptV x).oneCell'=true:=rfl
theorem int_one (k:IntKind)(x:Int):(Value.int k x).oneCell'=true:=rfl
theorem ls_one {w:World}{B n:Nat}{v:Value}{xs:List Value}(h:w.ownsRow B 78 1 v n xs):v.oneCell'=true:=by
 obtain⟨a,c,rfl⟩:=form1 h
 rfl
theorem len_one {w:World}{B m k:Nat}{p:Prp}{pr:Nm→Nat→Int}{D:Dir}{V:Lst}(h:Part w B p pr k D V)(hm:m=7∨m=11)(hk:m+4≤k):(lenC D V m).all (·.oneCell')=true:=by
 rcases hm with rfl|rfl
 ·have h1:=ls_one (h.ls 8 (by omega) rfl)
  have h2:=ls_one (h.ls 9 (by omega) rfl)
  simp [lenC,pt_one,h1,h2]
 ·have h1:=ls_one (h.ls 12 (by omega) rfl)
  have h2:=ls_one (h.ls 13 (by omega) rfl)
  simp [lenC,pt_one,h1,h2]
theorem tab_one {w:World}{B:Nat}{p:Prp}{pr:Nm→Nat→Int}{D:Dir}{V:Lst}(h:Part w B p pr 18 D V):(tabC p D V).all (·.oneCell')=true:=by
 have h0:=ls_one (h.ls 0 (by omega) rfl)
 have h1:=ls_one (h.ls 1 (by omega) rfl)
 have h6:=ls_one (h.ls 6 (by omega) rfl)
 have h8:=ls_one (h.ls 8 (by omega) rfl)
 have h9:=ls_one (h.ls 9 (by omega) rfl)
 have h12:=ls_one (h.ls 12 (by omega) rfl)
 have h13:=ls_one (h.ls 13 (by omega) rfl)
 have h15:=ls_one (h.ls 15 (by omega) rfl)
 have h16:=ls_one (h.ls 16 (by omega) rfl)
 simp [tabC,pt_one,h0,h1,h6,h8,h9,h12,h13,h15,h16,int_one]
theorem there_blk {w:World}{g:Nat}{cs:Array Value}{t:TypeId}(h:w.heap[g]?=some (.cells cs t (0,0))){o n:Nat}(hn:o+n≤cs.size):w.there g o n:=fun j hj=>⟨by simp [World.cell?,h];omega,by simp [World.frozen?,h]⟩
theorem chg_cells (b:Nat): ∀(vs:List Value) (o:Nat) (w:World),Chg (fun z=>z=b) w (w.setCells b o vs)
 | [],o,w=>Chg.refl _ w
 |v::vs,o,w=>by
  have h1:Chg (fun z=>z=b) w (w.setCell ⟨b,o,none⟩ v):=(Chg.refl (fun z=>z=b) w).setCell (p:=⟨b,o,none⟩) (.inl rfl) _
  exact h1.trans (chg_cells b vs (o+1) _) (fun _ e=> .inl e)
def wrt:List Value→Nat→List Value→List Value
 |cs,_,[]=>cs
 |cs,o,v::vs=>wrt (cs.set o v) (o+1) vs
theorem blk_cells (b:Nat)(t:TypeId): ∀(vs:List Value) (o:Nat) (cs:List Value) (w:World),w.heap[b]?=some (.cells cs.toArray t (0,0))→(w.setCells b o vs).heap[b]?=some (.cells (wrt cs o vs).toArray t (0,0))
 | [],o,cs,w,h=>h
 |v::vs,o,cs,w,h=>blk_cells b t vs (o+1) (cs.set o v) _ (blk_setk h o v)
theorem wrt_at: ∀(vs cs:List Value) (o i:Nat),o+vs.length≤cs.length→(wrt cs o vs)[i]?=if o≤i∧i<o+vs.length then vs[i-o]? else cs[i]?
 | [],cs,o,i,h=>by rw [wrt,if_neg (by simp)]
 |v::vs,cs,o,i,h=>by
  simp only [List.length_cons]at h
  rw [wrt,wrt_at vs _ _ _ (by simp;omega)]
  by_cases h1:o+1≤i∧i<o+1+vs.length
  ·rw [if_pos h1,if_pos ⟨by omega,by simp;omega⟩,show i-o=i-(o+1)+1 by omega,List.getElem?_cons_succ]
  ·rw [if_neg h1]
   by_cases h2:i=o
   ·subst h2
    rw [if_pos ⟨Nat.le_refl _,by simp⟩,List.getElem?_set_self (by omega),Nat.sub_self]
    rfl
   ·rw [List.getElem?_set_ne (Ne.symm h2),if_neg (by simp;omega)]
theorem wrt_all (vs cs:List Value)(h:cs.length=vs.length):wrt cs 0 vs=vs:=by
 apply List.ext_getElem?
 intro i
 rw [wrt_at vs cs 0 i (by omega)]
 split
 ·simp
 ·rw [List.getElem?_eq_none (by omega),List.getElem?_eq_none (by omega)]
theorem blk_over {w:World}{g:Nat}{Z C:Array Value}{t:TypeId}(h:w.heap[g]?=some (.cells Z t (0,0)))(hs:Z.size=C.size):(w.setCells g 0 C.toList).heap[g]?=some (.cells C t (0,0)):=by
 have h9:=blk_cells g t C.toList 0 Z.toList w (by rw [Array.toArray_toList];exact h)
 rw [wrt_all _ _ (by simpa using hs),Array.toArray_toList]at h9
 exact h9
theorem results_cell_tmp_row {P:Program}{fn:Func}{p u:Tmp}{ty:TypeId}(h:fn.results= #[.cell p ty,.tmp u])(tmps:Array Value)(w:World)(g:Nat)(t:TypeId)(cs:Array Value)(fr:Nat×Nat)(d:TypeDesc)
  (hp:tmps.getD p undef= .pointer (some ⟨g,0,none⟩)) (hg:w.heap[g]?=some (.cells cs t fr))
  (hu:P.underlying ty=some d) (hd:(match d with| .struct _| .array _ _=>true|_=>false)=true) (hi:(P.info? ty).map (·.size)=some cs.size):
  (results fn tmps).run P w= .ok (.tuple #[.agg cs,tmps.getD u undef]) w:=by
 rw [results_cell_tmp h,hp]
 simp only [asAddr,Sem.run_pure,Result.andThen_ok]
 rw [run_loadVar_row w g t ty cs fr d hg hu hd hi]
 rfl
end Go.Proofs.YthideplpcnhncaaGreatDoor
