/- Of no statement by itself: Jm (without blanks and remarks). -/
import Derived.Test.YthideplpcnhncaaGreatDoorJi
import Derived.Test.YthideplpcnhncaaGreatDoorJi0
import Derived.Test.YthideplpcnhncaaGreatDoorJi1
import Derived.Test.YthideplpcnhncaaGreatDoorB24Jj
namespace Go.Proofs.YthideplpcnhncaaGreatDoor
open Go.RowKit
open St12 Sy13 Lz14
set_option linter.unusedVariables false
set_option linter.unusedSimpArgs false
variable {T:TypeId} {rv:Value} {fb ft fk fd B a:Nat} {D:Dir} {V:Lst} {wa:Nat} {vw:Value} {ea:Nat} {X:Lz} {I:List Bt→World→Prop}
theorem lenB_len (c ps l:Nat):(lenB c ps l).length≤10:=by
 unfold lenB
 split
 ·simp [treeB_len']
 ·split
  ·simp [treeB_len']
  ·simp [treeB_len']
def Ib (I:List Bt→World→Prop)(g:Nat)(cs:Array Value)(l:List Bt)(w:World):Prop:=I l w∧w.heap[g]?=some (.cells cs 34 (0,0))
theorem Ib.box {g:Nat}{cs:Array Value}{l:List Bt}{w:World}(h:Ib I g cs l w):w.heap[g]?=some (.cells cs 34 (0,0)):=h.2
theorem Ib.pen {g:Nat}{cs:Array Value}{l:List Bt}{w:World}(h:Ib I g cs l w):I l w:=h.1
theorem len0_any (P:PenS T rv fb ft fk fd B a D V wa vw ea X I)(l:List Bt)(w:World)(h:I l w)(ps:Nat)(hps:ps<2^X.p.pb.toNat)(hl:l.length+10≤87)(x:Nat)(hx:x≤271):Calls Tryz.prog 76 #[.iface T rv,.pointer (some ⟨a,10,none⟩),.int .i64 (ps:Int),.int .i64 ((x:Int)+2)] w fun e w'=>e= .returned (.tuple #[])∧I (l++lenB 0 ps (x+2)) w':=by
 by_cases h8:x<8
 ·have e:lenB 0 ps (x+2)=⟨some (nChoice 0),0,0⟩::treeB (nLow 0 ps) 3 x:=by unfold lenB;rw [Nat.add_sub_cancel,if_pos h8]
  rw [e]
  exact len0low P l w h ps hps hl x h8
 ·by_cases h16:x<16
  ·have e:lenB 0 ps (x+2)=⟨some (nChoice 0),0,1⟩::⟨some (nChoice2 0),0,0⟩::treeB (nMid 0 ps) 3 (x-8):=by unfold lenB;rw [Nat.add_sub_cancel,if_neg h8,if_pos h16]
   rw [e]
   exact len0mid P l w h ps hps hl (x-8) x (by omega) (by omega)
  ·have e:lenB 0 ps (x+2)=⟨some (nChoice 0),0,1⟩::⟨some (nChoice2 0),0,1⟩::treeB (nHigh 0) 8 (x-16):=by unfold lenB;rw [Nat.add_sub_cancel,if_neg h8,if_neg h16]
   rw [e]
   exact len0high P l w h ps hps hl (x-16) x (by omega) (by omega)
theorem len1_any (P:PenS T rv fb ft fk fd B a D V wa vw ea X I)(l:List Bt)(w:World)(h:I l w)(ps:Nat)(hps:ps<2^X.p.pb.toNat)(hl:l.length+10≤87)(x:Nat)(hx:x≤271):Calls Tryz.prog 76 #[.iface T rv,.pointer (some ⟨a,14,none⟩),.int .i64 (ps:Int),.int .i64 ((x:Int)+2)] w fun e w'=>e= .returned (.tuple #[])∧I (l++lenB 1 ps (x+2)) w':=by
 by_cases h8:x<8
 ·have e:lenB 1 ps (x+2)=⟨some (nChoice 1),0,0⟩::treeB (nLow 1 ps) 3 x:=by unfold lenB;rw [Nat.add_sub_cancel,if_pos h8]
  rw [e]
  exact len1low P l w h ps hps hl x h8
 ·by_cases h16:x<16
  ·have e:lenB 1 ps (x+2)=⟨some (nChoice 1),0,1⟩::⟨some (nChoice2 1),0,0⟩::treeB (nMid 1 ps) 3 (x-8):=by unfold lenB;rw [Nat.add_sub_cancel,if_neg h8,if_pos h16]
   rw [e]
   exact len1mid P l w h ps hps hl (x-8) x (by omega) (by omega)
  ·have e:lenB 1 ps (x+2)=⟨some (nChoice 1),0,1⟩::⟨some (nChoice2 1),0,1⟩::treeB (nHigh 1) 8 (x-16):=by unfold lenB;rw [Nat.add_sub_cancel,if_neg h8,if_neg h16]
   rw [e]
   exact len1high P l w h ps hps hl (x-16) x (by omega) (by omega)
set_option maxHeartbeats 4000000 in
set_option maxRecDepth 100000 in
theorem spell_lit (PB: ∀g cs,PenS T rv fb ft fk fd B a D V wa vw ea X (Ib I g cs))(hnew: ∀l w w',I l w→Chg (fun _=>False) w w'→I l w')(S:StSpec Tab)(hI:Lz14.I X)(hbl:X.bs.length≤1152921504606846976)(w:World)(h:I [] w)(b:Nat)(hb:b<256)(yl yd:Int):Calls Tryz.prog 37 #[.pointer (some ⟨a,0,none⟩),.iface T rv,.agg #[.int .i64 1,.int .u8 (b:Int),.int .i64 yl,.int .i64 yd]] w fun e w'=>e= .returned (.tuple #[])∧I (symB X ⟨1,(b:Int),yl,yd⟩) w':=by
 have P:=PB w.heap.size #[.int .i64 1,.int .u8 (b:Int),.int .i64 yl,.int .i64 yd]
 have nb:=P.nb
 have nt:=P.nt
 have nk:=P.nk
 have mb:=P.mb
 have mt:=P.mt
 have mkk:=P.mkk
 have md:=P.md
 have eb:=P.eb
 have et:=P.et
 have ek:=P.ek
 have ed:=P.ed
 obtain⟨n,hn⟩: ∃n:Nat,X.s.n=(n:Int):=⟨X.s.n.toNat,by have:=hI.rt.1.1;omega⟩
 have hn12:n<12:=by have:=hI.rt.1.2;omega
 have hn12i:(n:Int)<12:=by omega
 obtain⟨ps,hps⟩: ∃ps,psA X=ps:=⟨_,rfl⟩
 have HPS:Hid (ps<2^X.p.pb.toNat):=by rw [←hps];exact Nat.mod_lt _ (Nat.two_pow_pos _)
 have hpp:=pow_pb hI.al
 have hps16:(ps:Int)<16:=by have:=HPS.out;omega
 have HNN:Hid (X.s.n.toNat=n):=by show _=_;omega
 have HPA:Hid (psA X=ps):=hps
 have HIX:Hid (Lz14.I X):=hI
 have HBL:Hid (X.bs.length≤1152921504606846976):=hbl
 have cA:=chg_one w (.cells #[.int .i64 1,.int .u8 (b:Int),.int .i64 yl,.int .i64 yd] 34)
 have hbx:(w.alloc (.cells #[.int .i64 1,.int .u8 (b:Int),.int .i64 yl,.int .i64 yd] 34)).heap[w.heap.size]?=some (.cells #[.int .i64 1,.int .u8 (b:Int),.int .i64 yl,.int .i64 yd] 34 (0,0)):=heap_alloc_last _ _
 obtain⟨z0,z1,z2,z3⟩:=cells4y hbx
 have h0:Ib I w.heap.size #[.int .i64 1,.int .u8 (b:Int),.int .i64 yl,.int .i64 yd] [] (w.alloc (.cells #[.int .i64 1,.int .u8 (b:Int),.int .i64 yl,.int .i64 yd] 34)):=⟨hnew _ _ _ h cA,hbx⟩
 obtain⟨ve9,c9,hle⟩:=P.le h0
 have y21:(w.alloc (.cells #[.int .i64 1,.int .u8 (b:Int),.int .i64 yl,.int .i64 yd] 34)).cell? ⟨a,21,none⟩=some (.pointer (some ⟨wa,0,none⟩)):=hle.cell 21 _ rfl
 have y22:(w.alloc (.cells #[.int .i64 1,.int .u8 (b:Int),.int .i64 yl,.int .i64 yd] 34)).cell? ⟨a,22,none⟩=some (.int .i64 (n:Int)):=by rw [←hn];exact hle.cell 22 _ rfl
 have y2:(w.alloc (.cells #[.int .i64 1,.int .u8 (b:Int),.int .i64 yl,.int .i64 yd] 34)).cell? ⟨a,2,none⟩=some (.int .i64 X.p.pb):=hle.cell 2 _ rfl
 have HW:Hid (Win (w.alloc (.cells #[.int .i64 1,.int .u8 (b:Int),.int .i64 yl,.int .i64 yd] 34)) B wa vw X.n X.bs):=hle.win
 have HPP:Hid (∀u:World,u.cell? ⟨a,2,none⟩=some (.int .i64 X.p.pb)→Calls Tryz.prog 73 #[.pointer (some ⟨a,0,none⟩),.int .i64 (X.bs.length:Int)] u fun e w'=>e= .returned (.int .i64 (ps:Int))∧u=w'):=fun u hu=>by
  have h9:=place_any a X.p.pb X.bs.length u (by omega) (by omega) hbl hu
  rw [show X.bs.length% 2^X.p.pb.toNat=ps from hps]at h9
  exact h9
 have HQP:Hid (∀k,Calls Tryz.prog 74 #[.pointer (some ⟨wa,0,none⟩)] ((w.alloc (.cells #[.int .i64 1,.int .u8 (b:Int),.int .i64 yl,.int .i64 yd] 34)).drewN k) fun e w''=>e= .returned (.int .i64 (X.bs.length:Int))∧ ∃m,w''=(w.alloc (.cells #[.int .i64 1,.int .u8 (b:Int),.int .i64 yl,.int .i64 yd] 34)).drewN m):=fun k=>Calls.quiet_of (winSpec.pos B wa vw X.n X.bs _ (winSpec.new HW.out (chg_drewN _ _)))
 have HQS:Hid (∀k,Calls Tryz.prog 73 #[.pointer (some ⟨a,0,none⟩),.int .i64 (X.bs.length:Int)] ((w.alloc (.cells #[.int .i64 1,.int .u8 (b:Int),.int .i64 yl,.int .i64 yd] 34)).drewN k) fun e w''=>e= .returned (.int .i64 (ps:Int))∧ ∃m,w''=(w.alloc (.cells #[.int .i64 1,.int .u8 (b:Int),.int .i64 yl,.int .i64 yd] 34)).drewN m):=fun k=>quiet_of (HPP.out _ (cell_chg y2 (chg_drewN _ k)))
 clear hle hps hpp h cA hn hI hbl hbx PB hnew
 go_enter Tryz.func37,Tryz.ntmps37
 go_wp2_with fail
 generalize w.heap.size=bx at*
 generalize w.alloc (.cells #[.int .i64 1,.int .u8 (b:Int),.int .i64 yl,.int .i64 yd] 34)=W at*
 go_quiet (first|(go_at_call 74;exact HQP.out _)|(go_at_call 73;exact HQS.out _))
 generalize hWd:W.drewN _=W2
 have cD:Chg (fun _=>False) W W2:=by rw [←hWd];exact chg_drewN _ _
 have h1:=P.new h0 cD
 clear z0 z1 z2 z3
 have hbx:=h1.box
 obtain⟨z0,z1,z2,z3⟩:=cells4y hbx
 clear hbx
 clear hWd cD HQP HQS HPP HW y21 y22 y2 h0
 go_upto_region 3 with fail
 obtain⟨ve9,c9,hle⟩:=P.le h1
 obtain⟨gl,kl,el,cl⟩:=hle.ptr 0 (by omega) rfl n hn12
 have xl:W2.cell? ⟨a,3,none⟩=some (.slice (some ⟨gl,0,none⟩) 12 kl):=(hle.cell 3 _ rfl).trans (congrArg some el)
 clear el
 clear hle
 refine wp_region_last (mk:=fun u=> #[_,_,_,_,_,_,_,_,_,_,_,_,_,_,_,_,_,_,_,_,_,_,_,_,_,u 25,u 26,u 27,u 28,u 29,u 30,u 31,u 32,u 33,u 34,u 35,u 36,u 37,_,_,_,_,_,_,_,_,_,_,_,_,_,_,_,_,_,_,_,_,_,_,_,_,_,_,_,_,_,_,_,_,_,_,_,_,_,_,_,_,_,_,_,_,_,_,_,_,_,_,_,_,_,_,_,_,_,_,_,_,_,_,_,_,_,_,_,_,_,_,_,_,_,_,_,_,_,_,_,_,_,_,_,_,_,_,_,_,_,_,_,_,_,_,_,_,_,_]) (F:=fun slot vv ww=>(look [(25,.val (.iface T rv)),(26,.val (.pointer (some ⟨a,0,none⟩))),(27,.val (.pointer (some ⟨a,0,none⟩))),(28,.val (.pointer (some ⟨a,0,none⟩))),(29,.val (.pointer (some ⟨a,3,none⟩))),(30,.val (.slice (some ⟨gl,0,none⟩) 12 kl)),(31,.val (.int .i64 (n:Int))),(32,.val (.pointer (some ⟨gl,n,none⟩))),(33,.val (.pointer (some ⟨(D 0 n).1,0,none⟩))),(34,.val (.int .i64 (ps:Int))),(35,.val (.func (.method "pith/lzenc.bit") #[.iface T rv] #[])),(36,.val (.func (.method "pith/lzenc.bit") #[.iface T rv] #[])),(37,.val (.iface T rv))] slot).holds vv ww) (fun _=>undef) rfl (by kernel_rfl) 13 _ rfl rfl (by kernel_rfl) ?_ (fun _ v w w' hc h=>Fact.stays _ v w w' hc h) ?_ ?_
 ·repeat (refine⟨⟨_,rfl,fun _ _=>rfl⟩,?_⟩)
  exact trivial
 ·refine⟨?_,?_,?_,?_,?_,?_,?_,?_,?_,?_,?_,?_,?_,trivial⟩
  ·intro u w_ hc hd K hK
   clear hd
   go_simp
   exact hK.out _ _ (Chg.refl _ _) rfl
  ·intro u w_ hc hd K hK
   clear hd
   go_simp
   exact hK.out _ _ (Chg.refl _ _) rfl
  ·intro u w_ hc hd K hK
   have h26:(Fact.val (.pointer (some ⟨a,0,none⟩))).holds (u 26) w_:=hd.get 1 (by kernel_rfl)
   simp only [Fact.holds]at h26
   clear hd
   simp only [h26]at hK
   go_simp
   exact hK.out _ _ (Chg.refl _ _) rfl
  ·intro u w_ hc hd K hK
   have h27:(Fact.val (.pointer (some ⟨a,0,none⟩))).holds (u 27) w_:=hd.get 2 (by kernel_rfl)
   simp only [Fact.holds]at h27
   clear hd
   simp only [h27]at hK
   go_simp
   exact hK.out _ _ (Chg.refl _ _) rfl
  ·intro u w_ hc hd K hK
   have h28:(Fact.val (.pointer (some ⟨a,0,none⟩))).holds (u 28) w_:=hd.get 3 (by kernel_rfl)
   simp only [Fact.holds]at h28
   clear hd
   simp only [h28]at hK
   go_simp
   exact hK.out _ _ (Chg.refl _ _) rfl
  ·intro u w_ hc hd K hK
   have h29:(Fact.val (.pointer (some ⟨a,3,none⟩))).holds (u 29) w_:=hd.get 4 (by kernel_rfl)
   simp only [Fact.holds]at h29
   clear hd
   simp only [h29]at hK
   have hcell:=cell_chg xl hc
   go_simp
   exact hK.out _ _ (Chg.refl _ _) rfl
  ·intro u w_ hc hd K hK
   clear hd
   go_simp
   exact hK.out _ _ (Chg.refl _ _) rfl
  ·intro u w_ hc hd K hK
   have h30:(Fact.val (.slice (some ⟨gl,0,none⟩) 12 kl)).holds (u 30) w_:=hd.get 5 (by kernel_rfl)
   simp only [Fact.holds]at h30
   have h31:(Fact.val (.int .i64 (n:Int))).holds (u 31) w_:=hd.get 6 (by kernel_rfl)
   simp only [Fact.holds]at h31
   clear hd
   simp only [h30,h31]at hK
   go_simp
   exact hK.out _ _ (Chg.refl _ _) rfl
  ·intro u w_ hc hd K hK
   have h32:(Fact.val (.pointer (some ⟨gl,n,none⟩))).holds (u 32) w_:=hd.get 7 (by kernel_rfl)
   simp only [Fact.holds]at h32
   clear hd
   simp only [h32]at hK
   have hcell:=cell_chg cl hc
   go_simp
   exact hK.out _ _ (Chg.refl _ _) rfl
  ·intro u w_ hc hd K hK
   clear hd
   go_simp
   exact hK.out _ _ (Chg.refl _ _) rfl
  ·intro u w_ hc hd K hK
   have h25:(Fact.val (.iface T rv)).holds (u 25) w_:=hd.get 0 (by kernel_rfl)
   simp only [Fact.holds]at h25
   clear hd
   simp only [h25]at hK
   go_simp
   exact hK.out _ _ (Chg.refl _ _) rfl
  ·intro u w_ hc hd K hK
   have h35:(Fact.val (.func (.method "pith/lzenc.bit") #[.iface T rv] #[])).holds (u 35) w_:=hd.get 10 (by kernel_rfl)
   simp only [Fact.holds]at h35
   clear hd
   simp only [h35]at hK
   go_simp
   exact hK.out _ _ (Chg.refl _ _) rfl
  ·intro u w_ hc hd K hK
   have h25:(Fact.val (.iface T rv)).holds (u 25) w_:=hd.get 0 (by kernel_rfl)
   simp only [Fact.holds]at h25
   clear hd
   simp only [h25]at hK
   go_simp
   exact hK.out _ _ (Chg.refl _ _) rfl
 ·intro u w_ hc hA K hK
  have e37:u 37=(.iface T rv):=hA.at 37 (by kernel_rfl)
  have e33:u 33=(.pointer (some ⟨(D 0 n).1,0,none⟩)):=hA.at 33 (by kernel_rfl)
  have e34:u 34=(.int .i64 (ps:Int)):=hA.at 34 (by kernel_rfl)
  clear hA
  simp only [e37,e33,e34]at hK⊢
  go_simp
  refine Calls.mono (P.bit [] w_ 0 n ps 0 (P.new h1 hc) (by omega) hn12 HPS.out (by omega) (by simp)) ?_
  rintro z w3 ⟨rfl,h3⟩
  clear hc
  refine hK.out _ _ ?_
  clear hK z0 z1 z2 z3
  have hbx:=h3.box
  obtain⟨z0,z1,z2,z3⟩:=cells4y hbx
  clear hbx
  go_wp2_with fail
  refine Calls.mono (litpen_any P S HIX.out HBL.out _ w3 h3 b hb (by simp)) ?_
  rintro z w4 ⟨rfl,h4⟩
  clear z0 z1 z2 z3
  go_wp2
  first|go_end0|(refine bodyPost_ret (results_none rfl _ _ _) rfl ?_)
  refine⟨rfl,?_⟩
  have e:symB X ⟨1,(b:Int),yl,yd⟩=⟨some (nIsMatch n ps),0,0⟩::litB X b:=by unfold symB;rw [if_pos rfl,HNN.out,HPA.out,Int.toNat_natCast]
  rw [e]
  exact h4.pen
set_option maxHeartbeats 4000000 in
set_option maxRecDepth 100000 in
theorem spell_match (PB: ∀g cs,PenS T rv fb ft fk fd B a D V wa vw ea X (Ib I g cs))(hnew: ∀l w w',I l w→Chg (fun _=>False) w w'→I l w')(S:StSpec Tab)(hI:Lz14.I X)(hbl:X.bs.length≤1152921504606846976)(w:World)(h:I [] w)(yb:Int)(x d:Nat)(hx:x≤271)(hd1:1≤d)(hd2:d≤4294967295):Calls Tryz.prog 37 #[.pointer (some ⟨a,0,none⟩),.iface T rv,.agg #[.int .i64 2,.int .u8 yb,.int .i64 ((x:Int)+2),.int .i64 (d:Int)]] w fun e w'=>e= .returned (.tuple #[])∧I (symB X ⟨2,yb,(x:Int)+2,(d:Int)⟩) w':=by
 have P:=PB w.heap.size #[.int .i64 2,.int .u8 yb,.int .i64 ((x:Int)+2),.int .i64 (d:Int)]
 have nb:=P.nb
 have nt:=P.nt
 have nk:=P.nk
 have mb:=P.mb
 have mt:=P.mt
 have mkk:=P.mkk
 have md:=P.md
 have eb:=P.eb
 have et:=P.et
 have ek:=P.ek
 have ed:=P.ed
 obtain⟨n,hn⟩: ∃n:Nat,X.s.n=(n:Int):=⟨X.s.n.toNat,by have:=hI.rt.1.1;omega⟩
 have hn12:n<12:=by have:=hI.rt.1.2;omega
 have hn12i:(n:Int)<12:=by omega
 obtain⟨ps,hps⟩: ∃ps,psA X=ps:=⟨_,rfl⟩
 have HPS:Hid (ps<2^X.p.pb.toNat):=by rw [←hps];exact Nat.mod_lt _ (Nat.two_pow_pos _)
 have hpp:=pow_pb hI.al
 have hps16:(ps:Int)<16:=by have:=HPS.out;omega
 have HNN:Hid (X.s.n.toNat=n):=by show _=_;omega
 have HPA:Hid (psA X=ps):=hps
 have HIX:Hid (Lz14.I X):=hI
 have HBL:Hid (X.bs.length≤1152921504606846976):=hbl
 have cA:=chg_one w (.cells #[.int .i64 2,.int .u8 yb,.int .i64 ((x:Int)+2),.int .i64 (d:Int)] 34)
 have hbx:(w.alloc (.cells #[.int .i64 2,.int .u8 yb,.int .i64 ((x:Int)+2),.int .i64 (d:Int)] 34)).heap[w.heap.size]?=some (.cells #[.int .i64 2,.int .u8 yb,.int .i64 ((x:Int)+2),.int .i64 (d:Int)] 34 (0,0)):=heap_alloc_last _ _
 obtain⟨z0,z1,z2,z3⟩:=cells4y hbx
 have h0:Ib I w.heap.size #[.int .i64 2,.int .u8 yb,.int .i64 ((x:Int)+2),.int .i64 (d:Int)] [] (w.alloc (.cells #[.int .i64 2,.int .u8 yb,.int .i64 ((x:Int)+2),.int .i64 (d:Int)] 34)):=⟨hnew _ _ _ h cA,hbx⟩
 obtain⟨ve9,c9,hle⟩:=P.le h0
 have y21:(w.alloc (.cells #[.int .i64 2,.int .u8 yb,.int .i64 ((x:Int)+2),.int .i64 (d:Int)] 34)).cell? ⟨a,21,none⟩=some (.pointer (some ⟨wa,0,none⟩)):=hle.cell 21 _ rfl
 have y22:(w.alloc (.cells #[.int .i64 2,.int .u8 yb,.int .i64 ((x:Int)+2),.int .i64 (d:Int)] 34)).cell? ⟨a,22,none⟩=some (.int .i64 (n:Int)):=by rw [←hn];exact hle.cell 22 _ rfl
 have y2:(w.alloc (.cells #[.int .i64 2,.int .u8 yb,.int .i64 ((x:Int)+2),.int .i64 (d:Int)] 34)).cell? ⟨a,2,none⟩=some (.int .i64 X.p.pb):=hle.cell 2 _ rfl
 have HW:Hid (Win (w.alloc (.cells #[.int .i64 2,.int .u8 yb,.int .i64 ((x:Int)+2),.int .i64 (d:Int)] 34)) B wa vw X.n X.bs):=hle.win
 have HPP:Hid (∀u:World,u.cell? ⟨a,2,none⟩=some (.int .i64 X.p.pb)→Calls Tryz.prog 73 #[.pointer (some ⟨a,0,none⟩),.int .i64 (X.bs.length:Int)] u fun e w'=>e= .returned (.int .i64 (ps:Int))∧u=w'):=fun u hu=>by
  have h9:=place_any a X.p.pb X.bs.length u (by omega) (by omega) hbl hu
  rw [show X.bs.length% 2^X.p.pb.toNat=ps from hps]at h9
  exact h9
 have HQP:Hid (∀k,Calls Tryz.prog 74 #[.pointer (some ⟨wa,0,none⟩)] ((w.alloc (.cells #[.int .i64 2,.int .u8 yb,.int .i64 ((x:Int)+2),.int .i64 (d:Int)] 34)).drewN k) fun e w''=>e= .returned (.int .i64 (X.bs.length:Int))∧ ∃m,w''=(w.alloc (.cells #[.int .i64 2,.int .u8 yb,.int .i64 ((x:Int)+2),.int .i64 (d:Int)] 34)).drewN m):=fun k=>Calls.quiet_of (winSpec.pos B wa vw X.n X.bs _ (winSpec.new HW.out (chg_drewN _ _)))
 have HQS:Hid (∀k,Calls Tryz.prog 73 #[.pointer (some ⟨a,0,none⟩),.int .i64 (X.bs.length:Int)] ((w.alloc (.cells #[.int .i64 2,.int .u8 yb,.int .i64 ((x:Int)+2),.int .i64 (d:Int)] 34)).drewN k) fun e w''=>e= .returned (.int .i64 (ps:Int))∧ ∃m,w''=(w.alloc (.cells #[.int .i64 2,.int .u8 yb,.int .i64 ((x:Int)+2),.int .i64 (d:Int)] 34)).drewN m):=fun k=>quiet_of (HPP.out _ (cell_chg y2 (chg_drewN _ k)))
 clear hle hps hpp h cA hn hI hbl hbx PB hnew
 go_enter Tryz.func37,Tryz.ntmps37
 go_wp2_with fail
 generalize w.heap.size=bx at*
 generalize w.alloc (.cells #[.int .i64 2,.int .u8 yb,.int .i64 ((x:Int)+2),.int .i64 (d:Int)] 34)=W at*
 go_quiet (first|(go_at_call 74;exact HQP.out _)|(go_at_call 73;exact HQS.out _))
 generalize hWd:W.drewN _=W2
 have cD:Chg (fun _=>False) W W2:=by rw [←hWd];exact chg_drewN _ _
 have h1:=P.new h0 cD
 clear z0 z1 z2 z3
 have hbx:=h1.box
 obtain⟨z0,z1,z2,z3⟩:=cells4y hbx
 clear hbx
 clear hWd cD HQP HQS HPP HW y21 y22 y2 h0
 go_upto_region 5 with fail
 obtain⟨ve9,c9,hle⟩:=P.le h1
 obtain⟨gl,kl,el,cl⟩:=hle.ptr 0 (by omega) rfl n hn12
 have xl:W2.cell? ⟨a,3,none⟩=some (.slice (some ⟨gl,0,none⟩) 12 kl):=(hle.cell 3 _ rfl).trans (congrArg some el)
 clear el
 clear hle
 refine wp_region_last (mk:=fun u=> #[_,_,_,_,_,_,_,_,_,_,_,_,_,_,_,_,_,_,_,_,_,_,_,_,_,_,_,_,_,_,_,_,_,_,_,_,_,_,_,_,_,_,_,_,u 44,u 45,u 46,u 47,u 48,u 49,u 50,u 51,u 52,u 53,u 54,u 55,u 56,_,_,_,_,_,_,_,_,_,_,_,_,_,_,_,_,_,_,_,_,_,_,_,_,_,_,_,_,_,_,_,_,_,_,_,_,_,_,_,_,_,_,_,_,_,_,_,_,_,_,_,_,_,_,_,_,_,_,_,_,_,_,_,_,_,_,_,_,_,_,_,_,_,_,_,_,_,_,_]) (F:=fun slot vv ww=>(look [(44,.val (.iface T rv)),(45,.val (.pointer (some ⟨a,0,none⟩))),(46,.val (.pointer (some ⟨a,0,none⟩))),(47,.val (.pointer (some ⟨a,0,none⟩))),(48,.val (.pointer (some ⟨a,3,none⟩))),(49,.val (.slice (some ⟨gl,0,none⟩) 12 kl)),(50,.val (.int .i64 (n:Int))),(51,.val (.pointer (some ⟨gl,n,none⟩))),(52,.val (.pointer (some ⟨(D 0 n).1,0,none⟩))),(53,.val (.int .i64 (ps:Int))),(54,.val (.func (.method "pith/lzenc.bit") #[.iface T rv] #[])),(55,.val (.func (.method "pith/lzenc.bit") #[.iface T rv] #[])),(56,.val (.iface T rv))] slot).holds vv ww) (fun _=>undef) rfl (by kernel_rfl) 13 _ rfl rfl (by kernel_rfl) ?_ (fun _ v w w' hc h=>Fact.stays _ v w w' hc h) ?_ ?_
 ·repeat (refine⟨⟨_,rfl,fun _ _=>rfl⟩,?_⟩)
  exact trivial
 ·refine⟨?_,?_,?_,?_,?_,?_,?_,?_,?_,?_,?_,?_,?_,trivial⟩
  ·intro u w_ hc hd K hK
   clear hd
   go_simp
   exact hK.out _ _ (Chg.refl _ _) rfl
  ·intro u w_ hc hd K hK
   clear hd
   go_simp
   exact hK.out _ _ (Chg.refl _ _) rfl
  ·intro u w_ hc hd K hK
   have h45:(Fact.val (.pointer (some ⟨a,0,none⟩))).holds (u 45) w_:=hd.get 1 (by kernel_rfl)
   simp only [Fact.holds]at h45
   clear hd
   simp only [h45]at hK
   go_simp
   exact hK.out _ _ (Chg.refl _ _) rfl
  ·intro u w_ hc hd K hK
   have h46:(Fact.val (.pointer (some ⟨a,0,none⟩))).holds (u 46) w_:=hd.get 2 (by kernel_rfl)
   simp only [Fact.holds]at h46
   clear hd
   simp only [h46]at hK
   go_simp
   exact hK.out _ _ (Chg.refl _ _) rfl
  ·intro u w_ hc hd K hK
   have h47:(Fact.val (.pointer (some ⟨a,0,none⟩))).holds (u 47) w_:=hd.get 3 (by kernel_rfl)
   simp only [Fact.holds]at h47
   clear hd
   simp only [h47]at hK
   go_simp
   exact hK.out _ _ (Chg.refl _ _) rfl
  ·intro u w_ hc hd K hK
   have h48:(Fact.val (.pointer (some ⟨a,3,none⟩))).holds (u 48) w_:=hd.get 4 (by kernel_rfl)
   simp only [Fact.holds]at h48
   clear hd
   simp only [h48]at hK
   have hcell:=cell_chg xl hc
   go_simp
   exact hK.out _ _ (Chg.refl _ _) rfl
  ·intro u w_ hc hd K hK
   clear hd
   go_simp
   exact hK.out _ _ (Chg.refl _ _) rfl
  ·intro u w_ hc hd K hK
   have h49:(Fact.val (.slice (some ⟨gl,0,none⟩) 12 kl)).holds (u 49) w_:=hd.get 5 (by kernel_rfl)
   simp only [Fact.holds]at h49
   have h50:(Fact.val (.int .i64 (n:Int))).holds (u 50) w_:=hd.get 6 (by kernel_rfl)
   simp only [Fact.holds]at h50
   clear hd
   simp only [h49,h50]at hK
   go_simp
   exact hK.out _ _ (Chg.refl _ _) rfl
  ·intro u w_ hc hd K hK
   have h51:(Fact.val (.pointer (some ⟨gl,n,none⟩))).holds (u 51) w_:=hd.get 7 (by kernel_rfl)
   simp only [Fact.holds]at h51
   clear hd
   simp only [h51]at hK
   have hcell:=cell_chg cl hc
   go_simp
   exact hK.out _ _ (Chg.refl _ _) rfl
  ·intro u w_ hc hd K hK
   clear hd
   go_simp
   exact hK.out _ _ (Chg.refl _ _) rfl
  ·intro u w_ hc hd K hK
   have h44:(Fact.val (.iface T rv)).holds (u 44) w_:=hd.get 0 (by kernel_rfl)
   simp only [Fact.holds]at h44
   clear hd
   simp only [h44]at hK
   go_simp
   exact hK.out _ _ (Chg.refl _ _) rfl
  ·intro u w_ hc hd K hK
   have h54:(Fact.val (.func (.method "pith/lzenc.bit") #[.iface T rv] #[])).holds (u 54) w_:=hd.get 10 (by kernel_rfl)
   simp only [Fact.holds]at h54
   clear hd
   simp only [h54]at hK
   go_simp
   exact hK.out _ _ (Chg.refl _ _) rfl
  ·intro u w_ hc hd K hK
   have h44:(Fact.val (.iface T rv)).holds (u 44) w_:=hd.get 0 (by kernel_rfl)
   simp only [Fact.holds]at h44
   clear hd
   simp only [h44]at hK
   go_simp
   exact hK.out _ _ (Chg.refl _ _) rfl
 ·intro u w_ hc hA K hK
  have e56:u 56=(.iface T rv):=hA.at 56 (by kernel_rfl)
  have e52:u 52=(.pointer (some ⟨(D 0 n).1,0,none⟩)):=hA.at 52 (by kernel_rfl)
  have e53:u 53=(.int .i64 (ps:Int)):=hA.at 53 (by kernel_rfl)
  clear hA
  simp only [e56,e52,e53]at hK⊢
  go_simp
  refine Calls.mono (P.bit [] w_ 0 n ps 1 (P.new h1 hc) (by omega) hn12 HPS.out (by omega) (by simp)) ?_
  rintro z w3 ⟨rfl,h3⟩
  clear hc
  refine hK.out _ _ ?_
  clear hK z0 z1 z2 z3
  have hbx:=h3.box
  obtain⟨z0,z1,z2,z3⟩:=cells4y hbx
  clear hbx
  clear xl cl
  go_upto_region 8 with fail
  obtain⟨ve9,c9,hle⟩:=P.le h3
  have xr:w3.cell? ⟨a,5,none⟩=some (.pointer (some ⟨(D 2 0).1,0,none⟩)):=hle.cell 5 _ rfl
  clear hle
  refine wp_region_last (mk:=fun u=> #[_,_,_,_,_,_,_,_,_,_,_,_,_,_,_,_,_,_,_,_,_,_,_,_,_,_,_,_,_,_,_,_,_,_,_,_,_,_,_,_,_,_,_,_,_,_,_,_,_,_,_,_,_,_,_,_,_,_,_,_,_,_,u 62,u 63,u 64,u 65,u 66,u 67,u 68,u 69,u 70,u 71,_,_,_,_,_,_,_,_,_,_,_,_,_,_,_,_,_,_,_,_,_,_,_,_,_,_,_,_,_,_,_,_,_,_,_,_,_,_,_,_,_,_,_,_,_,_,_,_,_,_,_,_,_,_,_,_,_,_,_,_,_,_,_,_]) (F:=fun slot vv ww=>(look [(62,.val (.iface T rv)),(63,.val (.pointer (some ⟨a,0,none⟩))),(64,.val (.pointer (some ⟨a,0,none⟩))),(65,.val (.pointer (some ⟨a,0,none⟩))),(66,.val (.pointer (some ⟨a,5,none⟩))),(67,.val (.pointer (some ⟨(D 2 0).1,0,none⟩))),(68,.val (.int .i64 (n:Int))),(69,.val (.func (.method "pith/lzenc.bit") #[.iface T rv] #[])),(70,.val (.func (.method "pith/lzenc.bit") #[.iface T rv] #[])),(71,.val (.iface T rv))] slot).holds vv ww) (fun _=>undef) rfl (by kernel_rfl) 10 _ rfl rfl (by kernel_rfl) ?_ (fun _ v w w' hc h=>Fact.stays _ v w w' hc h) ?_ ?_
  ·repeat (refine⟨⟨_,rfl,fun _ _=>rfl⟩,?_⟩)
   exact trivial
  ·refine⟨?_,?_,?_,?_,?_,?_,?_,?_,?_,?_,trivial⟩
   ·intro u w_ hc hd K hK
    clear hd
    go_simp
    exact hK.out _ _ (Chg.refl _ _) rfl
   ·intro u w_ hc hd K hK
    clear hd
    go_simp
    exact hK.out _ _ (Chg.refl _ _) rfl
   ·intro u w_ hc hd K hK
    have h63:(Fact.val (.pointer (some ⟨a,0,none⟩))).holds (u 63) w_:=hd.get 1 (by kernel_rfl)
    simp only [Fact.holds]at h63
    clear hd
    simp only [h63]at hK
    go_simp
    exact hK.out _ _ (Chg.refl _ _) rfl
   ·intro u w_ hc hd K hK
    have h64:(Fact.val (.pointer (some ⟨a,0,none⟩))).holds (u 64) w_:=hd.get 2 (by kernel_rfl)
    simp only [Fact.holds]at h64
    clear hd
    simp only [h64]at hK
    go_simp
    exact hK.out _ _ (Chg.refl _ _) rfl
   ·intro u w_ hc hd K hK
    have h65:(Fact.val (.pointer (some ⟨a,0,none⟩))).holds (u 65) w_:=hd.get 3 (by kernel_rfl)
    simp only [Fact.holds]at h65
    clear hd
    simp only [h65]at hK
    go_simp
    exact hK.out _ _ (Chg.refl _ _) rfl
   ·intro u w_ hc hd K hK
    have h66:(Fact.val (.pointer (some ⟨a,5,none⟩))).holds (u 66) w_:=hd.get 4 (by kernel_rfl)
    simp only [Fact.holds]at h66
    clear hd
    simp only [h66]at hK
    have hcell:=cell_chg xr hc
    go_simp
    exact hK.out _ _ (Chg.refl _ _) rfl
   ·intro u w_ hc hd K hK
    clear hd
    go_simp
    exact hK.out _ _ (Chg.refl _ _) rfl
   ·intro u w_ hc hd K hK
    have h62:(Fact.val (.iface T rv)).holds (u 62) w_:=hd.get 0 (by kernel_rfl)
    simp only [Fact.holds]at h62
    clear hd
    simp only [h62]at hK
    go_simp
    exact hK.out _ _ (Chg.refl _ _) rfl
   ·intro u w_ hc hd K hK
    have h69:(Fact.val (.func (.method "pith/lzenc.bit") #[.iface T rv] #[])).holds (u 69) w_:=hd.get 7 (by kernel_rfl)
    simp only [Fact.holds]at h69
    clear hd
    simp only [h69]at hK
    go_simp
    exact hK.out _ _ (Chg.refl _ _) rfl
   ·intro u w_ hc hd K hK
    have h62:(Fact.val (.iface T rv)).holds (u 62) w_:=hd.get 0 (by kernel_rfl)
    simp only [Fact.holds]at h62
    clear hd
    simp only [h62]at hK
    go_simp
    exact hK.out _ _ (Chg.refl _ _) rfl
  ·intro u w_ hc hA K hK
   have e71:u 71=(.iface T rv):=hA.at 71 (by kernel_rfl)
   have e67:u 67=(.pointer (some ⟨(D 2 0).1,0,none⟩)):=hA.at 67 (by kernel_rfl)
   have e68:u 68=(.int .i64 (n:Int)):=hA.at 68 (by kernel_rfl)
   clear hA
   simp only [e71,e67,e68]at hK⊢
   go_simp
   refine Calls.mono (P.bit _ w_ 2 0 n 0 (P.new h3 hc) (by omega) (by show 0<1;omega) hn12 (by omega) (by simp)) ?_
   rintro z w4 ⟨rfl,h4⟩
   clear hc
   refine hK.out _ _ ?_
   clear hK z0 z1 z2 z3
   have hbx:=h4.box
   obtain⟨z0,z1,z2,z3⟩:=cells4y hbx
   clear hbx
   clear xr
   go_upto_region 9 with fail
   refine wp_region_last (mk:=fun u=> #[_,_,_,_,_,_,_,_,_,_,_,_,_,_,_,_,_,_,_,_,_,_,_,_,_,_,_,_,_,_,_,_,_,_,_,_,_,_,_,_,_,_,_,_,_,_,_,_,_,_,_,_,_,_,_,_,_,_,_,_,_,_,_,_,_,_,_,_,_,_,_,_,_,u 73,u 74,u 75,u 76,u 77,u 78,u 79,u 80,_,_,_,_,_,_,_,_,_,_,_,_,_,_,_,_,_,_,_,_,_,_,_,_,_,_,_,_,_,_,_,_,_,_,_,_,_,_,_,_,_,_,_,_,_,_,_,_,_,_,_,_,_,_,_]) (F:=fun slot vv ww=>(look [(73,.val (.iface T rv)),(74,.val (.pointer (some ⟨a,0,none⟩))),(75,.val (.pointer (some ⟨a,0,none⟩))),(76,.val (.pointer (some ⟨a,0,none⟩))),(77,.val (.pointer (some ⟨a,10,none⟩))),(78,.val (.int .i64 (ps:Int))),(79,.val (.pointer (some ⟨bx,2,none⟩))),(80,.val (.int .i64 ((x:Int)+2)))] slot).holds vv ww) (fun _=>undef) rfl (by kernel_rfl) 8 _ rfl rfl (by kernel_rfl) ?_ (fun _ v w w' hc h=>Fact.stays _ v w w' hc h) ?_ ?_
   ·repeat (refine⟨⟨_,rfl,fun _ _=>rfl⟩,?_⟩)
    exact trivial
   ·refine⟨?_,?_,?_,?_,?_,?_,?_,?_,trivial⟩
    ·intro u w_ hc hd K hK
     clear hd
     go_simp
     exact hK.out _ _ (Chg.refl _ _) rfl
    ·intro u w_ hc hd K hK
     clear hd
     go_simp
     exact hK.out _ _ (Chg.refl _ _) rfl
    ·intro u w_ hc hd K hK
     have h74:(Fact.val (.pointer (some ⟨a,0,none⟩))).holds (u 74) w_:=hd.get 1 (by kernel_rfl)
     simp only [Fact.holds]at h74
     clear hd
     simp only [h74]at hK
     go_simp
     exact hK.out _ _ (Chg.refl _ _) rfl
    ·intro u w_ hc hd K hK
     have h75:(Fact.val (.pointer (some ⟨a,0,none⟩))).holds (u 75) w_:=hd.get 2 (by kernel_rfl)
     simp only [Fact.holds]at h75
     clear hd
     simp only [h75]at hK
     go_simp
     exact hK.out _ _ (Chg.refl _ _) rfl
    ·intro u w_ hc hd K hK
     have h76:(Fact.val (.pointer (some ⟨a,0,none⟩))).holds (u 76) w_:=hd.get 3 (by kernel_rfl)
     simp only [Fact.holds]at h76
     clear hd
     simp only [h76]at hK
     go_simp
     exact hK.out _ _ (Chg.refl _ _) rfl
    ·intro u w_ hc hd K hK
     clear hd
     go_simp
     exact hK.out _ _ (Chg.refl _ _) rfl
    ·intro u w_ hc hd K hK
     clear hd
     go_simp
     exact hK.out _ _ (Chg.refl _ _) rfl
    ·intro u w_ hc hd K hK
     have h79:(Fact.val (.pointer (some ⟨bx,2,none⟩))).holds (u 79) w_:=hd.get 6 (by kernel_rfl)
     simp only [Fact.holds]at h79
     clear hd
     simp only [h79]at hK
     have hcell:=cell_chg z2 hc
     go_simp
     exact hK.out _ _ (Chg.refl _ _) rfl
   ·intro u w_ hc hA K hK
    have e73:u 73=(.iface T rv):=hA.at 73 (by kernel_rfl)
    have e77:u 77=(.pointer (some ⟨a,10,none⟩)):=hA.at 77 (by kernel_rfl)
    have e78:u 78=(.int .i64 (ps:Int)):=hA.at 78 (by kernel_rfl)
    have e80:u 80=(.int .i64 ((x:Int)+2)):=hA.at 80 (by kernel_rfl)
    clear hA
    simp only [e73,e77,e78,e80]at hK⊢
    go_simp
    refine Calls.mono (len0_any P _ w_ (P.new h4 hc) ps HPS.out (by simp) x hx) ?_
    rintro z w5 ⟨rfl,h5⟩
    clear hc
    refine hK.out _ _ ?_
    clear hK z0 z1 z2 z3
    have hbx:=h5.box
    obtain⟨z0,z1,z2,z3⟩:=cells4y hbx
    clear hbx
    obtain⟨ls,hls⟩: ∃ls,(([]++[⟨some (unS 0 n ps).1,(unS 0 n ps).2,1⟩])++[⟨some (unS 2 0 n).1,(unS 2 0 n).2,0⟩]++lenB 0 ps (x+2):List Bt)=ls:=⟨_,rfl⟩
    rw [hls]at h5
    have HFA:Hid (Calls Tryz.prog 77 #[.pointer (some ⟨a,0,none⟩),.iface T rv,.int .i64 ((x:Int)+2),.int .i64 (d:Int)] w5 fun e w'=>e= .returned (.tuple #[])∧Ib I bx #[.int .i64 2,.int .u8 yb,.int .i64 ((x:Int)+2),.int .i64 (d:Int)] (ls++distB (x+2) d) w'):=by
     have h9:=far_any P S ls w5 h5 (x+2) d (by omega) (by omega) hd1 hd2 (by
      have:=lenB_len 0 ps (x+2)
      rw [←hls]
      simp
      omega)
     rw [Int.natCast_add]at h9
     exact h9
    have HLS:Hid _:=hls
    clear hls h5
    go_wp2_with fail
    refine Calls.mono HFA.out ?_
    rintro z w6 ⟨rfl,h6⟩
    clear z0 z1 z2 z3
    go_wp2
    first|go_end0|(refine bodyPost_ret (results_none rfl _ _ _) rfl ?_)
    refine⟨rfl,?_⟩
    have e:symB X ⟨2,yb,(x:Int)+2,(d:Int)⟩=⟨some (nIsMatch n ps),0,1⟩::⟨some (nIsRep n),0,0⟩::(lenB 0 ps (x+2)++distB (x+2) d):=by
     unfold symB
     rw [if_neg (by simp),if_pos rfl,HNN.out,HPA.out]
     simp only [Int.toNat_natCast]
     rw [show((x:Int)+2).toNat=x+2 by omega]
    rw [e]
    have h7:=h6.pen
    rw [←HLS.out]at h7
    simp only [List.nil_append,List.append_assoc,List.cons_append]at h7
    exact h7
set_option maxHeartbeats 4000000 in
set_option maxRecDepth 100000 in
theorem spell_short (PB: ∀g cs,PenS T rv fb ft fk fd B a D V wa vw ea X (Ib I g cs))(hnew: ∀l w w',I l w→Chg (fun _=>False) w w'→I l w')(S:StSpec Tab)(hI:Lz14.I X)(hbl:X.bs.length≤1152921504606846976)(w:World)(h:I [] w)(yb yl yd:Int):Calls Tryz.prog 37 #[.pointer (some ⟨a,0,none⟩),.iface T rv,.agg #[.int .i64 4,.int .u8 yb,.int .i64 yl,.int .i64 yd]] w fun e w'=>e= .returned (.tuple #[])∧I (symB X ⟨4,yb,yl,yd⟩) w':=by
 have P:=PB w.heap.size #[.int .i64 4,.int .u8 yb,.int .i64 yl,.int .i64 yd]
 have nb:=P.nb
 have nt:=P.nt
 have nk:=P.nk
 have mb:=P.mb
 have mt:=P.mt
 have mkk:=P.mkk
 have md:=P.md
 have eb:=P.eb
 have et:=P.et
 have ek:=P.ek
 have ed:=P.ed
 obtain⟨n,hn⟩: ∃n:Nat,X.s.n=(n:Int):=⟨X.s.n.toNat,by have:=hI.rt.1.1;omega⟩
 have hn12:n<12:=by have:=hI.rt.1.2;omega
 have hn12i:(n:Int)<12:=by omega
 obtain⟨ps,hps⟩: ∃ps,psA X=ps:=⟨_,rfl⟩
 have HPS:Hid (ps<2^X.p.pb.toNat):=by rw [←hps];exact Nat.mod_lt _ (Nat.two_pow_pos _)
 have hpp:=pow_pb hI.al
 have hps16:(ps:Int)<16:=by have:=HPS.out;omega
 have HNN:Hid (X.s.n.toNat=n):=by show _=_;omega
 have HPA:Hid (psA X=ps):=hps
 have HIX:Hid (Lz14.I X):=hI
 have HBL:Hid (X.bs.length≤1152921504606846976):=hbl
 have cA:=chg_one w (.cells #[.int .i64 4,.int .u8 yb,.int .i64 yl,.int .i64 yd] 34)
 have hbx:(w.alloc (.cells #[.int .i64 4,.int .u8 yb,.int .i64 yl,.int .i64 yd] 34)).heap[w.heap.size]?=some (.cells #[.int .i64 4,.int .u8 yb,.int .i64 yl,.int .i64 yd] 34 (0,0)):=heap_alloc_last _ _
 obtain⟨z0,z1,z2,z3⟩:=cells4y hbx
 have h0:Ib I w.heap.size #[.int .i64 4,.int .u8 yb,.int .i64 yl,.int .i64 yd] [] (w.alloc (.cells #[.int .i64 4,.int .u8 yb,.int .i64 yl,.int .i64 yd] 34)):=⟨hnew _ _ _ h cA,hbx⟩
 obtain⟨ve9,c9,hle⟩:=P.le h0
 have y21:(w.alloc (.cells #[.int .i64 4,.int .u8 yb,.int .i64 yl,.int .i64 yd] 34)).cell? ⟨a,21,none⟩=some (.pointer (some ⟨wa,0,none⟩)):=hle.cell 21 _ rfl
 have y22:(w.alloc (.cells #[.int .i64 4,.int .u8 yb,.int .i64 yl,.int .i64 yd] 34)).cell? ⟨a,22,none⟩=some (.int .i64 (n:Int)):=by rw [←hn];exact hle.cell 22 _ rfl
 have y2:(w.alloc (.cells #[.int .i64 4,.int .u8 yb,.int .i64 yl,.int .i64 yd] 34)).cell? ⟨a,2,none⟩=some (.int .i64 X.p.pb):=hle.cell 2 _ rfl
 have HW:Hid (Win (w.alloc (.cells #[.int .i64 4,.int .u8 yb,.int .i64 yl,.int .i64 yd] 34)) B wa vw X.n X.bs):=hle.win
 have HPP:Hid (∀u:World,u.cell? ⟨a,2,none⟩=some (.int .i64 X.p.pb)→Calls Tryz.prog 73 #[.pointer (some ⟨a,0,none⟩),.int .i64 (X.bs.length:Int)] u fun e w'=>e= .returned (.int .i64 (ps:Int))∧u=w'):=fun u hu=>by
  have h9:=place_any a X.p.pb X.bs.length u (by omega) (by omega) hbl hu
  rw [show X.bs.length% 2^X.p.pb.toNat=ps from hps]at h9
  exact h9
 have HQP:Hid (∀k,Calls Tryz.prog 74 #[.pointer (some ⟨wa,0,none⟩)] ((w.alloc (.cells #[.int .i64 4,.int .u8 yb,.int .i64 yl,.int .i64 yd] 34)).drewN k) fun e w''=>e= .returned (.int .i64 (X.bs.length:Int))∧ ∃m,w''=(w.alloc (.cells #[.int .i64 4,.int .u8 yb,.int .i64 yl,.int .i64 yd] 34)).drewN m):=fun k=>Calls.quiet_of (winSpec.pos B wa vw X.n X.bs _ (winSpec.new HW.out (chg_drewN _ _)))
 have HQS:Hid (∀k,Calls Tryz.prog 73 #[.pointer (some ⟨a,0,none⟩),.int .i64 (X.bs.length:Int)] ((w.alloc (.cells #[.int .i64 4,.int .u8 yb,.int .i64 yl,.int .i64 yd] 34)).drewN k) fun e w''=>e= .returned (.int .i64 (ps:Int))∧ ∃m,w''=(w.alloc (.cells #[.int .i64 4,.int .u8 yb,.int .i64 yl,.int .i64 yd] 34)).drewN m):=fun k=>quiet_of (HPP.out _ (cell_chg y2 (chg_drewN _ k)))
 clear hle hps hpp h cA hn hI hbl hbx PB hnew
 go_enter Tryz.func37,Tryz.ntmps37
 go_wp2_with fail
 generalize w.heap.size=bx at*
 generalize w.alloc (.cells #[.int .i64 4,.int .u8 yb,.int .i64 yl,.int .i64 yd] 34)=W at*
 go_quiet (first|(go_at_call 74;exact HQP.out _)|(go_at_call 73;exact HQS.out _))
 generalize hWd:W.drewN _=W2
 have cD:Chg (fun _=>False) W W2:=by rw [←hWd];exact chg_drewN _ _
 have h1:=P.new h0 cD
 clear z0 z1 z2 z3
 have hbx:=h1.box
 obtain⟨z0,z1,z2,z3⟩:=cells4y hbx
 clear hbx
 clear hWd cD HQP HQS HPP HW y21 y22 y2 h0
 go_upto_region 5 with fail
 obtain⟨ve9,c9,hle⟩:=P.le h1
 obtain⟨gl,kl,el,cl⟩:=hle.ptr 0 (by omega) rfl n hn12
 have xl:W2.cell? ⟨a,3,none⟩=some (.slice (some ⟨gl,0,none⟩) 12 kl):=(hle.cell 3 _ rfl).trans (congrArg some el)
 clear el
 clear hle
 refine wp_region_last (mk:=fun u=> #[_,_,_,_,_,_,_,_,_,_,_,_,_,_,_,_,_,_,_,_,_,_,_,_,_,_,_,_,_,_,_,_,_,_,_,_,_,_,_,_,_,_,_,_,u 44,u 45,u 46,u 47,u 48,u 49,u 50,u 51,u 52,u 53,u 54,u 55,u 56,_,_,_,_,_,_,_,_,_,_,_,_,_,_,_,_,_,_,_,_,_,_,_,_,_,_,_,_,_,_,_,_,_,_,_,_,_,_,_,_,_,_,_,_,_,_,_,_,_,_,_,_,_,_,_,_,_,_,_,_,_,_,_,_,_,_,_,_,_,_,_,_,_,_,_,_,_,_,_]) (F:=fun slot vv ww=>(look [(44,.val (.iface T rv)),(45,.val (.pointer (some ⟨a,0,none⟩))),(46,.val (.pointer (some ⟨a,0,none⟩))),(47,.val (.pointer (some ⟨a,0,none⟩))),(48,.val (.pointer (some ⟨a,3,none⟩))),(49,.val (.slice (some ⟨gl,0,none⟩) 12 kl)),(50,.val (.int .i64 (n:Int))),(51,.val (.pointer (some ⟨gl,n,none⟩))),(52,.val (.pointer (some ⟨(D 0 n).1,0,none⟩))),(53,.val (.int .i64 (ps:Int))),(54,.val (.func (.method "pith/lzenc.bit") #[.iface T rv] #[])),(55,.val (.func (.method "pith/lzenc.bit") #[.iface T rv] #[])),(56,.val (.iface T rv))] slot).holds vv ww) (fun _=>undef) rfl (by kernel_rfl) 13 _ rfl rfl (by kernel_rfl) ?_ (fun _ v w w' hc h=>Fact.stays _ v w w' hc h) ?_ ?_
 ·repeat (refine⟨⟨_,rfl,fun _ _=>rfl⟩,?_⟩)
  exact trivial
 ·refine⟨?_,?_,?_,?_,?_,?_,?_,?_,?_,?_,?_,?_,?_,trivial⟩
  ·intro u w_ hc hd K hK
   clear hd
   go_simp
   exact hK.out _ _ (Chg.refl _ _) rfl
  ·intro u w_ hc hd K hK
   clear hd
   go_simp
   exact hK.out _ _ (Chg.refl _ _) rfl
  ·intro u w_ hc hd K hK
   have h45:(Fact.val (.pointer (some ⟨a,0,none⟩))).holds (u 45) w_:=hd.get 1 (by kernel_rfl)
   simp only [Fact.holds]at h45
   clear hd
   simp only [h45]at hK
   go_simp
   exact hK.out _ _ (Chg.refl _ _) rfl
  ·intro u w_ hc hd K hK
   have h46:(Fact.val (.pointer (some ⟨a,0,none⟩))).holds (u 46) w_:=hd.get 2 (by kernel_rfl)
   simp only [Fact.holds]at h46
   clear hd
   simp only [h46]at hK
   go_simp
   exact hK.out _ _ (Chg.refl _ _) rfl
  ·intro u w_ hc hd K hK
   have h47:(Fact.val (.pointer (some ⟨a,0,none⟩))).holds (u 47) w_:=hd.get 3 (by kernel_rfl)
   simp only [Fact.holds]at h47
   clear hd
   simp only [h47]at hK
   go_simp
   exact hK.out _ _ (Chg.refl _ _) rfl
  ·intro u w_ hc hd K hK
   have h48:(Fact.val (.pointer (some ⟨a,3,none⟩))).holds (u 48) w_:=hd.get 4 (by kernel_rfl)
   simp only [Fact.holds]at h48
   clear hd
   simp only [h48]at hK
   have hcell:=cell_chg xl hc
   go_simp
   exact hK.out _ _ (Chg.refl _ _) rfl
  ·intro u w_ hc hd K hK
   clear hd
   go_simp
   exact hK.out _ _ (Chg.refl _ _) rfl
  ·intro u w_ hc hd K hK
   have h49:(Fact.val (.slice (some ⟨gl,0,none⟩) 12 kl)).holds (u 49) w_:=hd.get 5 (by kernel_rfl)
   simp only [Fact.holds]at h49
   have h50:(Fact.val (.int .i64 (n:Int))).holds (u 50) w_:=hd.get 6 (by kernel_rfl)
   simp only [Fact.holds]at h50
   clear hd
   simp only [h49,h50]at hK
   go_simp
   exact hK.out _ _ (Chg.refl _ _) rfl
  ·intro u w_ hc hd K hK
   have h51:(Fact.val (.pointer (some ⟨gl,n,none⟩))).holds (u 51) w_:=hd.get 7 (by kernel_rfl)
   simp only [Fact.holds]at h51
   clear hd
   simp only [h51]at hK
   have hcell:=cell_chg cl hc
   go_simp
   exact hK.out _ _ (Chg.refl _ _) rfl
  ·intro u w_ hc hd K hK
   clear hd
   go_simp
   exact hK.out _ _ (Chg.refl _ _) rfl
  ·intro u w_ hc hd K hK
   have h44:(Fact.val (.iface T rv)).holds (u 44) w_:=hd.get 0 (by kernel_rfl)
   simp only [Fact.holds]at h44
   clear hd
   simp only [h44]at hK
   go_simp
   exact hK.out _ _ (Chg.refl _ _) rfl
  ·intro u w_ hc hd K hK
   have h54:(Fact.val (.func (.method "pith/lzenc.bit") #[.iface T rv] #[])).holds (u 54) w_:=hd.get 10 (by kernel_rfl)
   simp only [Fact.holds]at h54
   clear hd
   simp only [h54]at hK
   go_simp
   exact hK.out _ _ (Chg.refl _ _) rfl
  ·intro u w_ hc hd K hK
   have h44:(Fact.val (.iface T rv)).holds (u 44) w_:=hd.get 0 (by kernel_rfl)
   simp only [Fact.holds]at h44
   clear hd
   simp only [h44]at hK
   go_simp
   exact hK.out _ _ (Chg.refl _ _) rfl
 ·intro u w_ hc hA K hK
  have e56:u 56=(.iface T rv):=hA.at 56 (by kernel_rfl)
  have e52:u 52=(.pointer (some ⟨(D 0 n).1,0,none⟩)):=hA.at 52 (by kernel_rfl)
  have e53:u 53=(.int .i64 (ps:Int)):=hA.at 53 (by kernel_rfl)
  clear hA
  simp only [e56,e52,e53]at hK⊢
  go_simp
  refine Calls.mono (P.bit [] w_ 0 n ps 1 (P.new h1 hc) (by omega) hn12 HPS.out (by omega) (by simp)) ?_
  rintro z w3 ⟨rfl,h3⟩
  clear hc
  refine hK.out _ _ ?_
  clear hK z0 z1 z2 z3
  have hbx:=h3.box
  obtain⟨z0,z1,z2,z3⟩:=cells4y hbx
  clear hbx
  clear xl cl
  go_upto_region 12 with fail
  obtain⟨ve9,c9,hle⟩:=P.le h3
  have xr:w3.cell? ⟨a,5,none⟩=some (.pointer (some ⟨(D 2 0).1,0,none⟩)):=hle.cell 5 _ rfl
  clear hle
  refine wp_region_last (mk:=fun u=> #[_,_,_,_,_,_,_,_,_,_,_,_,_,_,_,_,_,_,_,_,_,_,_,_,_,_,_,_,_,_,_,_,_,_,_,_,_,_,_,_,_,_,_,_,_,_,_,_,_,_,_,_,_,_,_,_,_,_,_,_,_,_,_,_,_,_,_,_,_,_,_,_,_,_,_,_,_,_,_,_,_,_,_,_,_,_,_,_,_,_,_,u 91,u 92,u 93,u 94,u 95,u 96,u 97,u 98,u 99,u 100,_,_,_,_,_,_,_,_,_,_,_,_,_,_,_,_,_,_,_,_,_,_,_,_,_,_,_,_,_,_,_,_,_,_,_]) (F:=fun slot vv ww=>(look [(91,.val (.iface T rv)),(92,.val (.pointer (some ⟨a,0,none⟩))),(93,.val (.pointer (some ⟨a,0,none⟩))),(94,.val (.pointer (some ⟨a,0,none⟩))),(95,.val (.pointer (some ⟨a,5,none⟩))),(96,.val (.pointer (some ⟨(D 2 0).1,0,none⟩))),(97,.val (.int .i64 (n:Int))),(98,.val (.func (.method "pith/lzenc.bit") #[.iface T rv] #[])),(99,.val (.func (.method "pith/lzenc.bit") #[.iface T rv] #[])),(100,.val (.iface T rv))] slot).holds vv ww) (fun _=>undef) rfl (by kernel_rfl) 10 _ rfl rfl (by kernel_rfl) ?_ (fun _ v w w' hc h=>Fact.stays _ v w w' hc h) ?_ ?_
  ·repeat (refine⟨⟨_,rfl,fun _ _=>rfl⟩,?_⟩)
   exact trivial
  ·refine⟨?_,?_,?_,?_,?_,?_,?_,?_,?_,?_,trivial⟩
   ·intro u w_ hc hd K hK
    clear hd
    go_simp
    exact hK.out _ _ (Chg.refl _ _) rfl
   ·intro u w_ hc hd K hK
    clear hd
    go_simp
    exact hK.out _ _ (Chg.refl _ _) rfl
   ·intro u w_ hc hd K hK
    have h92:(Fact.val (.pointer (some ⟨a,0,none⟩))).holds (u 92) w_:=hd.get 1 (by kernel_rfl)
    simp only [Fact.holds]at h92
    clear hd
    simp only [h92]at hK
    go_simp
    exact hK.out _ _ (Chg.refl _ _) rfl
   ·intro u w_ hc hd K hK
    have h93:(Fact.val (.pointer (some ⟨a,0,none⟩))).holds (u 93) w_:=hd.get 2 (by kernel_rfl)
    simp only [Fact.holds]at h93
    clear hd
    simp only [h93]at hK
    go_simp
    exact hK.out _ _ (Chg.refl _ _) rfl
   ·intro u w_ hc hd K hK
    have h94:(Fact.val (.pointer (some ⟨a,0,none⟩))).holds (u 94) w_:=hd.get 3 (by kernel_rfl)
    simp only [Fact.holds]at h94
    clear hd
    simp only [h94]at hK
    go_simp
    exact hK.out _ _ (Chg.refl _ _) rfl
   ·intro u w_ hc hd K hK
    have h95:(Fact.val (.pointer (some ⟨a,5,none⟩))).holds (u 95) w_:=hd.get 4 (by kernel_rfl)
    simp only [Fact.holds]at h95
    clear hd
    simp only [h95]at hK
    have hcell:=cell_chg xr hc
    go_simp
    exact hK.out _ _ (Chg.refl _ _) rfl
   ·intro u w_ hc hd K hK
    clear hd
    go_simp
    exact hK.out _ _ (Chg.refl _ _) rfl
   ·intro u w_ hc hd K hK
    have h91:(Fact.val (.iface T rv)).holds (u 91) w_:=hd.get 0 (by kernel_rfl)
    simp only [Fact.holds]at h91
    clear hd
    simp only [h91]at hK
    go_simp
    exact hK.out _ _ (Chg.refl _ _) rfl
   ·intro u w_ hc hd K hK
    have h98:(Fact.val (.func (.method "pith/lzenc.bit") #[.iface T rv] #[])).holds (u 98) w_:=hd.get 7 (by kernel_rfl)
    simp only [Fact.holds]at h98
    clear hd
    simp only [h98]at hK
    go_simp
    exact hK.out _ _ (Chg.refl _ _) rfl
   ·intro u w_ hc hd K hK
    have h91:(Fact.val (.iface T rv)).holds (u 91) w_:=hd.get 0 (by kernel_rfl)
    simp only [Fact.holds]at h91
    clear hd
    simp only [h91]at hK
    go_simp
    exact hK.out _ _ (Chg.refl _ _) rfl
  ·intro u w_ hc hA K hK
   have e100:u 100=(.iface T rv):=hA.at 100 (by kernel_rfl)
   have e96:u 96=(.pointer (some ⟨(D 2 0).1,0,none⟩)):=hA.at 96 (by kernel_rfl)
   have e97:u 97=(.int .i64 (n:Int)):=hA.at 97 (by kernel_rfl)
   clear hA
   simp only [e100,e96,e97]at hK⊢
   go_simp
   refine Calls.mono (P.bit _ w_ 2 0 n 1 (P.new h3 hc) (by omega) (by show 0<1;omega) hn12 (by omega) (by simp)) ?_
   rintro z w4 ⟨rfl,h4⟩
   clear hc
   refine hK.out _ _ ?_
   clear hK z0 z1 z2 z3
   have hbx:=h4.box
   obtain⟨z0,z1,z2,z3⟩:=cells4y hbx
   clear hbx
   clear xr
   go_wp2_with fail
   refine Calls.mono (first_any P _ w4 h4 n ps 0 hn12 HPS.out (by omega) (by simp)) ?_
   rintro z w5 ⟨rfl,h5⟩
   clear z0 z1 z2 z3
   go_wp2
   first|go_end0|(refine bodyPost_ret (results_none rfl _ _ _) rfl ?_)
   refine⟨rfl,?_⟩
   have e:symB X ⟨4,yb,yl,yd⟩=[⟨some (nIsMatch n ps),0,1⟩,⟨some (nIsRep n),0,1⟩,⟨some (nIsRep0 n),0,0⟩,⟨some (nIsLong n ps),0,0⟩]:=by
    unfold symB
    rw [if_neg (by simp),if_neg (by simp),if_pos rfl,HNN.out,HPA.out]
    rfl
   rw [e]
   have h7:=h5.pen
   simp only [List.nil_append,List.append_assoc,List.cons_append]at h7
   exact h7
set_option maxHeartbeats 4000000 in
set_option maxRecDepth 100000 in
theorem spell_rep0 (PB: ∀g cs,PenS T rv fb ft fk fd B a D V wa vw ea X (Ib I g cs))(hnew: ∀l w w',I l w→Chg (fun _=>False) w w'→I l w')(S:StSpec Tab)(hI:Lz14.I X)(hbl:X.bs.length≤1152921504606846976)(w:World)(h:I [] w)(yb:Int)(x:Nat)(hx:x≤271):Calls Tryz.prog 37 #[.pointer (some ⟨a,0,none⟩),.iface T rv,.agg #[.int .i64 3,.int .u8 yb,.int .i64 ((x:Int)+2),.int .i64 0]] w fun e w'=>e= .returned (.tuple #[])∧I (symB X ⟨3,yb,(x:Int)+2,0⟩) w':=by
 have P:=PB w.heap.size #[.int .i64 3,.int .u8 yb,.int .i64 ((x:Int)+2),.int .i64 0]
 have nb:=P.nb
 have nt:=P.nt
 have nk:=P.nk
 have mb:=P.mb
 have mt:=P.mt
 have mkk:=P.mkk
 have md:=P.md
 have eb:=P.eb
 have et:=P.et
 have ek:=P.ek
 have ed:=P.ed
 obtain⟨n,hn⟩: ∃n:Nat,X.s.n=(n:Int):=⟨X.s.n.toNat,by have:=hI.rt.1.1;omega⟩
 have hn12:n<12:=by have:=hI.rt.1.2;omega
 have hn12i:(n:Int)<12:=by omega
 obtain⟨ps,hps⟩: ∃ps,psA X=ps:=⟨_,rfl⟩
 have HPS:Hid (ps<2^X.p.pb.toNat):=by rw [←hps];exact Nat.mod_lt _ (Nat.two_pow_pos _)
 have hpp:=pow_pb hI.al
 have hps16:(ps:Int)<16:=by have:=HPS.out;omega
 have HNN:Hid (X.s.n.toNat=n):=by show _=_;omega
 have HPA:Hid (psA X=ps):=hps
 have HIX:Hid (Lz14.I X):=hI
 have HBL:Hid (X.bs.length≤1152921504606846976):=hbl
 have cA:=chg_one w (.cells #[.int .i64 3,.int .u8 yb,.int .i64 ((x:Int)+2),.int .i64 0] 34)
 have hbx:(w.alloc (.cells #[.int .i64 3,.int .u8 yb,.int .i64 ((x:Int)+2),.int .i64 0] 34)).heap[w.heap.size]?=some (.cells #[.int .i64 3,.int .u8 yb,.int .i64 ((x:Int)+2),.int .i64 0] 34 (0,0)):=heap_alloc_last _ _
 obtain⟨z0,z1,z2,z3⟩:=cells4y hbx
 have h0:Ib I w.heap.size #[.int .i64 3,.int .u8 yb,.int .i64 ((x:Int)+2),.int .i64 0] [] (w.alloc (.cells #[.int .i64 3,.int .u8 yb,.int .i64 ((x:Int)+2),.int .i64 0] 34)):=⟨hnew _ _ _ h cA,hbx⟩
 obtain⟨ve9,c9,hle⟩:=P.le h0
 have y21:(w.alloc (.cells #[.int .i64 3,.int .u8 yb,.int .i64 ((x:Int)+2),.int .i64 0] 34)).cell? ⟨a,21,none⟩=some (.pointer (some ⟨wa,0,none⟩)):=hle.cell 21 _ rfl
 have y22:(w.alloc (.cells #[.int .i64 3,.int .u8 yb,.int .i64 ((x:Int)+2),.int .i64 0] 34)).cell? ⟨a,22,none⟩=some (.int .i64 (n:Int)):=by rw [←hn];exact hle.cell 22 _ rfl
 have y2:(w.alloc (.cells #[.int .i64 3,.int .u8 yb,.int .i64 ((x:Int)+2),.int .i64 0] 34)).cell? ⟨a,2,none⟩=some (.int .i64 X.p.pb):=hle.cell 2 _ rfl
 have HW:Hid (Win (w.alloc (.cells #[.int .i64 3,.int .u8 yb,.int .i64 ((x:Int)+2),.int .i64 0] 34)) B wa vw X.n X.bs):=hle.win
 have HPP:Hid (∀u:World,u.cell? ⟨a,2,none⟩=some (.int .i64 X.p.pb)→Calls Tryz.prog 73 #[.pointer (some ⟨a,0,none⟩),.int .i64 (X.bs.length:Int)] u fun e w'=>e= .returned (.int .i64 (ps:Int))∧u=w'):=fun u hu=>by
  have h9:=place_any a X.p.pb X.bs.length u (by omega) (by omega) hbl hu
  rw [show X.bs.length% 2^X.p.pb.toNat=ps from hps]at h9
  exact h9
 have HQP:Hid (∀k,Calls Tryz.prog 74 #[.pointer (some ⟨wa,0,none⟩)] ((w.alloc (.cells #[.int .i64 3,.int .u8 yb,.int .i64 ((x:Int)+2),.int .i64 0] 34)).drewN k) fun e w''=>e= .returned (.int .i64 (X.bs.length:Int))∧ ∃m,w''=(w.alloc (.cells #[.int .i64 3,.int .u8 yb,.int .i64 ((x:Int)+2),.int .i64 0] 34)).drewN m):=fun k=>Calls.quiet_of (winSpec.pos B wa vw X.n X.bs _ (winSpec.new HW.out (chg_drewN _ _)))
 have HQS:Hid (∀k,Calls Tryz.prog 73 #[.pointer (some ⟨a,0,none⟩),.int .i64 (X.bs.length:Int)] ((w.alloc (.cells #[.int .i64 3,.int .u8 yb,.int .i64 ((x:Int)+2),.int .i64 0] 34)).drewN k) fun e w''=>e= .returned (.int .i64 (ps:Int))∧ ∃m,w''=(w.alloc (.cells #[.int .i64 3,.int .u8 yb,.int .i64 ((x:Int)+2),.int .i64 0] 34)).drewN m):=fun k=>quiet_of (HPP.out _ (cell_chg y2 (chg_drewN _ k)))
 clear hle hps hpp h cA hn hI hbl hbx PB hnew
 go_enter Tryz.func37,Tryz.ntmps37
 go_wp2_with fail
 generalize w.heap.size=bx at*
 generalize w.alloc (.cells #[.int .i64 3,.int .u8 yb,.int .i64 ((x:Int)+2),.int .i64 0] 34)=W at*
 go_quiet (first|(go_at_call 74;exact HQP.out _)|(go_at_call 73;exact HQS.out _))
 generalize hWd:W.drewN _=W2
 have cD:Chg (fun _=>False) W W2:=by rw [←hWd];exact chg_drewN _ _
 have h1:=P.new h0 cD
 clear z0 z1 z2 z3
 have hbx:=h1.box
 obtain⟨z0,z1,z2,z3⟩:=cells4y hbx
 clear hbx
 clear hWd cD HQP HQS HPP HW y21 y22 y2 h0
 go_upto_region 5 with fail
 obtain⟨ve9,c9,hle⟩:=P.le h1
 obtain⟨gl,kl,el,cl⟩:=hle.ptr 0 (by omega) rfl n hn12
 have xl:W2.cell? ⟨a,3,none⟩=some (.slice (some ⟨gl,0,none⟩) 12 kl):=(hle.cell 3 _ rfl).trans (congrArg some el)
 clear el
 clear hle
 refine wp_region_last (mk:=fun u=> #[_,_,_,_,_,_,_,_,_,_,_,_,_,_,_,_,_,_,_,_,_,_,_,_,_,_,_,_,_,_,_,_,_,_,_,_,_,_,_,_,_,_,_,_,u 44,u 45,u 46,u 47,u 48,u 49,u 50,u 51,u 52,u 53,u 54,u 55,u 56,_,_,_,_,_,_,_,_,_,_,_,_,_,_,_,_,_,_,_,_,_,_,_,_,_,_,_,_,_,_,_,_,_,_,_,_,_,_,_,_,_,_,_,_,_,_,_,_,_,_,_,_,_,_,_,_,_,_,_,_,_,_,_,_,_,_,_,_,_,_,_,_,_,_,_,_,_,_,_]) (F:=fun slot vv ww=>(look [(44,.val (.iface T rv)),(45,.val (.pointer (some ⟨a,0,none⟩))),(46,.val (.pointer (some ⟨a,0,none⟩))),(47,.val (.pointer (some ⟨a,0,none⟩))),(48,.val (.pointer (some ⟨a,3,none⟩))),(49,.val (.slice (some ⟨gl,0,none⟩) 12 kl)),(50,.val (.int .i64 (n:Int))),(51,.val (.pointer (some ⟨gl,n,none⟩))),(52,.val (.pointer (some ⟨(D 0 n).1,0,none⟩))),(53,.val (.int .i64 (ps:Int))),(54,.val (.func (.method "pith/lzenc.bit") #[.iface T rv] #[])),(55,.val (.func (.method "pith/lzenc.bit") #[.iface T rv] #[])),(56,.val (.iface T rv))] slot).holds vv ww) (fun _=>undef) rfl (by kernel_rfl) 13 _ rfl rfl (by kernel_rfl) ?_ (fun _ v w w' hc h=>Fact.stays _ v w w' hc h) ?_ ?_
 ·repeat (refine⟨⟨_,rfl,fun _ _=>rfl⟩,?_⟩)
  exact trivial
 ·refine⟨?_,?_,?_,?_,?_,?_,?_,?_,?_,?_,?_,?_,?_,trivial⟩
  ·intro u w_ hc hd K hK
   clear hd
   go_simp
   exact hK.out _ _ (Chg.refl _ _) rfl
  ·intro u w_ hc hd K hK
   clear hd
   go_simp
   exact hK.out _ _ (Chg.refl _ _) rfl
  ·intro u w_ hc hd K hK
   have h45:(Fact.val (.pointer (some ⟨a,0,none⟩))).holds (u 45) w_:=hd.get 1 (by kernel_rfl)
   simp only [Fact.holds]at h45
   clear hd
   simp only [h45]at hK
   go_simp
   exact hK.out _ _ (Chg.refl _ _) rfl
  ·intro u w_ hc hd K hK
   have h46:(Fact.val (.pointer (some ⟨a,0,none⟩))).holds (u 46) w_:=hd.get 2 (by kernel_rfl)
   simp only [Fact.holds]at h46
   clear hd
   simp only [h46]at hK
   go_simp
   exact hK.out _ _ (Chg.refl _ _) rfl
  ·intro u w_ hc hd K hK
   have h47:(Fact.val (.pointer (some ⟨a,0,none⟩))).holds (u 47) w_:=hd.get 3 (by kernel_rfl)
   simp only [Fact.holds]at h47
   clear hd
   simp only [h47]at hK
   go_simp
   exact hK.out _ _ (Chg.refl _ _) rfl
  ·intro u w_ hc hd K hK
   have h48:(Fact.val (.pointer (some ⟨a,3,none⟩))).holds (u 48) w_:=hd.get 4 (by kernel_rfl)
   simp only [Fact.holds]at h48
   clear hd
   simp only [h48]at hK
   have hcell:=cell_chg xl hc
   go_simp
   exact hK.out _ _ (Chg.refl _ _) rfl
  ·intro u w_ hc hd K hK
   clear hd
   go_simp
   exact hK.out _ _ (Chg.refl _ _) rfl
  ·intro u w_ hc hd K hK
   have h49:(Fact.val (.slice (some ⟨gl,0,none⟩) 12 kl)).holds (u 49) w_:=hd.get 5 (by kernel_rfl)
   simp only [Fact.holds]at h49
   have h50:(Fact.val (.int .i64 (n:Int))).holds (u 50) w_:=hd.get 6 (by kernel_rfl)
   simp only [Fact.holds]at h50
   clear hd
   simp only [h49,h50]at hK
   go_simp
   exact hK.out _ _ (Chg.refl _ _) rfl
  ·intro u w_ hc hd K hK
   have h51:(Fact.val (.pointer (some ⟨gl,n,none⟩))).holds (u 51) w_:=hd.get 7 (by kernel_rfl)
   simp only [Fact.holds]at h51
   clear hd
   simp only [h51]at hK
   have hcell:=cell_chg cl hc
   go_simp
   exact hK.out _ _ (Chg.refl _ _) rfl
  ·intro u w_ hc hd K hK
   clear hd
   go_simp
   exact hK.out _ _ (Chg.refl _ _) rfl
  ·intro u w_ hc hd K hK
   have h44:(Fact.val (.iface T rv)).holds (u 44) w_:=hd.get 0 (by kernel_rfl)
   simp only [Fact.holds]at h44
   clear hd
   simp only [h44]at hK
   go_simp
   exact hK.out _ _ (Chg.refl _ _) rfl
  ·intro u w_ hc hd K hK
   have h54:(Fact.val (.func (.method "pith/lzenc.bit") #[.iface T rv] #[])).holds (u 54) w_:=hd.get 10 (by kernel_rfl)
   simp only [Fact.holds]at h54
   clear hd
   simp only [h54]at hK
   go_simp
   exact hK.out _ _ (Chg.refl _ _) rfl
  ·intro u w_ hc hd K hK
   have h44:(Fact.val (.iface T rv)).holds (u 44) w_:=hd.get 0 (by kernel_rfl)
   simp only [Fact.holds]at h44
   clear hd
   simp only [h44]at hK
   go_simp
   exact hK.out _ _ (Chg.refl _ _) rfl
 ·intro u w_ hc hA K hK
  have e56:u 56=(.iface T rv):=hA.at 56 (by kernel_rfl)
  have e52:u 52=(.pointer (some ⟨(D 0 n).1,0,none⟩)):=hA.at 52 (by kernel_rfl)
  have e53:u 53=(.int .i64 (ps:Int)):=hA.at 53 (by kernel_rfl)
  clear hA
  simp only [e56,e52,e53]at hK⊢
  go_simp
  refine Calls.mono (P.bit [] w_ 0 n ps 1 (P.new h1 hc) (by omega) hn12 HPS.out (by omega) (by simp)) ?_
  rintro z w3 ⟨rfl,h3⟩
  clear hc
  refine hK.out _ _ ?_
  clear hK z0 z1 z2 z3
  have hbx:=h3.box
  obtain⟨z0,z1,z2,z3⟩:=cells4y hbx
  clear hbx
  clear xl cl
  go_upto_region 15 with fail
  obtain⟨ve9,c9,hle⟩:=P.le h3
  have xr:w3.cell? ⟨a,5,none⟩=some (.pointer (some ⟨(D 2 0).1,0,none⟩)):=hle.cell 5 _ rfl
  clear hle
  refine wp_region_last (mk:=fun u=> #[_,_,_,_,_,_,_,_,_,_,_,_,_,_,_,_,_,_,_,_,_,_,_,_,_,_,_,_,_,_,_,_,_,_,_,_,_,_,_,_,_,_,_,_,_,_,_,_,_,_,_,_,_,_,_,_,_,_,_,_,_,_,_,_,_,_,_,_,_,_,_,_,_,_,_,_,_,_,_,_,_,_,_,_,_,_,_,_,_,_,_,_,_,_,_,_,_,_,_,_,_,_,_,_,_,_,_,_,_,u 109,u 110,u 111,u 112,u 113,u 114,u 115,u 116,u 117,u 118,_,_,_,_,_,_,_,_,_,_,_,_,_,_,_,_,_]) (F:=fun slot vv ww=>(look [(109,.val (.iface T rv)),(110,.val (.pointer (some ⟨a,0,none⟩))),(111,.val (.pointer (some ⟨a,0,none⟩))),(112,.val (.pointer (some ⟨a,0,none⟩))),(113,.val (.pointer (some ⟨a,5,none⟩))),(114,.val (.pointer (some ⟨(D 2 0).1,0,none⟩))),(115,.val (.int .i64 (n:Int))),(116,.val (.func (.method "pith/lzenc.bit") #[.iface T rv] #[])),(117,.val (.func (.method "pith/lzenc.bit") #[.iface T rv] #[])),(118,.val (.iface T rv))] slot).holds vv ww) (fun _=>undef) rfl (by kernel_rfl) 10 _ rfl rfl (by kernel_rfl) ?_ (fun _ v w w' hc h=>Fact.stays _ v w w' hc h) ?_ ?_
  ·repeat (refine⟨⟨_,rfl,fun _ _=>rfl⟩,?_⟩)
   exact trivial
  ·refine⟨?_,?_,?_,?_,?_,?_,?_,?_,?_,?_,trivial⟩
   ·intro u w_ hc hd K hK
    clear hd
    go_simp
    exact hK.out _ _ (Chg.refl _ _) rfl
   ·intro u w_ hc hd K hK
    clear hd
    go_simp
    exact hK.out _ _ (Chg.refl _ _) rfl
   ·intro u w_ hc hd K hK
    have h110:(Fact.val (.pointer (some ⟨a,0,none⟩))).holds (u 110) w_:=hd.get 1 (by kernel_rfl)
    simp only [Fact.holds]at h110
    clear hd
    simp only [h110]at hK
    go_simp
    exact hK.out _ _ (Chg.refl _ _) rfl
   ·intro u w_ hc hd K hK
    have h111:(Fact.val (.pointer (some ⟨a,0,none⟩))).holds (u 111) w_:=hd.get 2 (by kernel_rfl)
    simp only [Fact.holds]at h111
    clear hd
    simp only [h111]at hK
    go_simp
    exact hK.out _ _ (Chg.refl _ _) rfl
   ·intro u w_ hc hd K hK
    have h112:(Fact.val (.pointer (some ⟨a,0,none⟩))).holds (u 112) w_:=hd.get 3 (by kernel_rfl)
    simp only [Fact.holds]at h112
    clear hd
    simp only [h112]at hK
    go_simp
    exact hK.out _ _ (Chg.refl _ _) rfl
   ·intro u w_ hc hd K hK
    have h113:(Fact.val (.pointer (some ⟨a,5,none⟩))).holds (u 113) w_:=hd.get 4 (by kernel_rfl)
    simp only [Fact.holds]at h113
    clear hd
    simp only [h113]at hK
    have hcell:=cell_chg xr hc
    go_simp
    exact hK.out _ _ (Chg.refl _ _) rfl
   ·intro u w_ hc hd K hK
    clear hd
    go_simp
    exact hK.out _ _ (Chg.refl _ _) rfl
   ·intro u w_ hc hd K hK
    have h109:(Fact.val (.iface T rv)).holds (u 109) w_:=hd.get 0 (by kernel_rfl)
    simp only [Fact.holds]at h109
    clear hd
    simp only [h109]at hK
    go_simp
    exact hK.out _ _ (Chg.refl _ _) rfl
   ·intro u w_ hc hd K hK
    have h116:(Fact.val (.func (.method "pith/lzenc.bit") #[.iface T rv] #[])).holds (u 116) w_:=hd.get 7 (by kernel_rfl)
    simp only [Fact.holds]at h116
    clear hd
    simp only [h116]at hK
    go_simp
    exact hK.out _ _ (Chg.refl _ _) rfl
   ·intro u w_ hc hd K hK
    have h109:(Fact.val (.iface T rv)).holds (u 109) w_:=hd.get 0 (by kernel_rfl)
    simp only [Fact.holds]at h109
    clear hd
    simp only [h109]at hK
    go_simp
    exact hK.out _ _ (Chg.refl _ _) rfl
  ·intro u w_ hc hA K hK
   have e118:u 118=(.iface T rv):=hA.at 118 (by kernel_rfl)
   have e114:u 114=(.pointer (some ⟨(D 2 0).1,0,none⟩)):=hA.at 114 (by kernel_rfl)
   have e115:u 115=(.int .i64 (n:Int)):=hA.at 115 (by kernel_rfl)
   clear hA
   simp only [e118,e114,e115]at hK⊢
   go_simp
   refine Calls.mono (P.bit _ w_ 2 0 n 1 (P.new h3 hc) (by omega) (by show 0<1;omega) hn12 (by omega) (by simp)) ?_
   rintro z w4 ⟨rfl,h4⟩
   clear hc
   refine hK.out _ _ ?_
   clear hK z0 z1 z2 z3
   have hbx:=h4.box
   obtain⟨z0,z1,z2,z3⟩:=cells4y hbx
   clear hbx
   clear xr
   go_wp2_with fail
   refine Calls.mono (which0 P _ w4 h4 n ps hn12 HPS.out (by simp)) ?_
   rintro z w5 ⟨rfl,h5⟩
   clear z0 z1 z2 z3
   have hbx:=h5.box
   obtain⟨z0,z1,z2,z3⟩:=cells4y hbx
   clear hbx
   go_upto_region 17 with fail
   refine wp_region_last (mk:=fun u=> #[_,_,_,_,_,_,_,_,_,_,_,_,_,_,_,_,_,_,_,_,_,_,_,_,_,_,_,_,_,_,_,_,_,_,_,_,_,_,_,_,_,_,_,_,_,_,_,_,_,_,_,_,_,_,_,_,_,_,_,_,_,_,_,_,_,_,_,_,_,_,_,_,_,_,_,_,_,_,_,_,_,_,_,_,_,_,_,_,_,_,_,_,_,_,_,_,_,_,_,_,_,_,_,_,_,_,_,_,_,_,_,_,_,_,_,_,_,_,_,_,_,_,_,_,_,_,_,u 127,u 128,u 129,u 130,u 131,u 132,u 133,u 134,_]) (F:=fun slot vv ww=>(look [(127,.val (.iface T rv)),(128,.val (.pointer (some ⟨a,0,none⟩))),(129,.val (.pointer (some ⟨a,0,none⟩))),(130,.val (.pointer (some ⟨a,0,none⟩))),(131,.val (.pointer (some ⟨a,14,none⟩))),(132,.val (.int .i64 (ps:Int))),(133,.val (.pointer (some ⟨bx,2,none⟩))),(134,.val (.int .i64 ((x:Int)+2)))] slot).holds vv ww) (fun _=>undef) rfl (by kernel_rfl) 8 _ rfl rfl (by kernel_rfl) ?_ (fun _ v w w' hc h=>Fact.stays _ v w w' hc h) ?_ ?_
   ·repeat (refine⟨⟨_,rfl,fun _ _=>rfl⟩,?_⟩)
    exact trivial
   ·refine⟨?_,?_,?_,?_,?_,?_,?_,?_,trivial⟩
    ·intro u w_ hc hd K hK
     clear hd
     go_simp
     exact hK.out _ _ (Chg.refl _ _) rfl
    ·intro u w_ hc hd K hK
     clear hd
     go_simp
     exact hK.out _ _ (Chg.refl _ _) rfl
    ·intro u w_ hc hd K hK
     have h128:(Fact.val (.pointer (some ⟨a,0,none⟩))).holds (u 128) w_:=hd.get 1 (by kernel_rfl)
     simp only [Fact.holds]at h128
     clear hd
     simp only [h128]at hK
     go_simp
     exact hK.out _ _ (Chg.refl _ _) rfl
    ·intro u w_ hc hd K hK
     have h129:(Fact.val (.pointer (some ⟨a,0,none⟩))).holds (u 129) w_:=hd.get 2 (by kernel_rfl)
     simp only [Fact.holds]at h129
     clear hd
     simp only [h129]at hK
     go_simp
     exact hK.out _ _ (Chg.refl _ _) rfl
    ·intro u w_ hc hd K hK
     have h130:(Fact.val (.pointer (some ⟨a,0,none⟩))).holds (u 130) w_:=hd.get 3 (by kernel_rfl)
     simp only [Fact.holds]at h130
     clear hd
     simp only [h130]at hK
     go_simp
     exact hK.out _ _ (Chg.refl _ _) rfl
    ·intro u w_ hc hd K hK
     clear hd
     go_simp
     exact hK.out _ _ (Chg.refl _ _) rfl
    ·intro u w_ hc hd K hK
     clear hd
     go_simp
     exact hK.out _ _ (Chg.refl _ _) rfl
    ·intro u w_ hc hd K hK
     have h133:(Fact.val (.pointer (some ⟨bx,2,none⟩))).holds (u 133) w_:=hd.get 6 (by kernel_rfl)
     simp only [Fact.holds]at h133
     clear hd
     simp only [h133]at hK
     have hcell:=cell_chg z2 hc
     go_simp
     exact hK.out _ _ (Chg.refl _ _) rfl
   ·intro u w_ hc hA K hK
    have e127:u 127=(.iface T rv):=hA.at 127 (by kernel_rfl)
    have e131:u 131=(.pointer (some ⟨a,14,none⟩)):=hA.at 131 (by kernel_rfl)
    have e132:u 132=(.int .i64 (ps:Int)):=hA.at 132 (by kernel_rfl)
    have e134:u 134=(.int .i64 ((x:Int)+2)):=hA.at 134 (by kernel_rfl)
    clear hA
    simp only [e127,e131,e132,e134]at hK⊢
    go_simp
    refine Calls.mono (len1_any P _ w_ (P.new h5 hc) ps HPS.out (by simp) x hx) ?_
    rintro z w6 ⟨rfl,h6⟩
    clear hc
    refine hK.out _ _ ?_
    clear hK z0 z1 z2 z3
    go_wp2
    first|go_end0|(refine bodyPost_ret (results_none rfl _ _ _) rfl ?_)
    refine⟨rfl,?_⟩
    have e:symB X ⟨3,yb,(x:Int)+2,0⟩=⟨some (nIsMatch n ps),0,1⟩::⟨some (nIsRep n),0,1⟩::([⟨some (nIsRep0 n),0,0⟩,⟨some (nIsLong n ps),0,1⟩]++lenB 1 ps (x+2)):=by
     unfold symB
     rw [if_neg (by simp),if_neg (by simp),if_neg (by simp),HNN.out,HPA.out]
     simp only [show((x:Int)+2).toNat=x+2 by omega]
     simp [repB]
    rw [e]
    have h7:=h6.pen
    simp only [List.nil_append,List.append_assoc,List.cons_append]at h7
    exact h7
set_option maxHeartbeats 4000000 in
set_option maxRecDepth 100000 in
theorem spell_rep1 (PB: ∀g cs,PenS T rv fb ft fk fd B a D V wa vw ea X (Ib I g cs))(hnew: ∀l w w',I l w→Chg (fun _=>False) w w'→I l w')(S:StSpec Tab)(hI:Lz14.I X)(hbl:X.bs.length≤1152921504606846976)(w:World)(h:I [] w)(yb:Int)(x:Nat)(hx:x≤271):Calls Tryz.prog 37 #[.pointer (some ⟨a,0,none⟩),.iface T rv,.agg #[.int .i64 3,.int .u8 yb,.int .i64 ((x:Int)+2),.int .i64 1]] w fun e w'=>e= .returned (.tuple #[])∧I (symB X ⟨3,yb,(x:Int)+2,1⟩) w':=by
 have P:=PB w.heap.size #[.int .i64 3,.int .u8 yb,.int .i64 ((x:Int)+2),.int .i64 1]
 have nb:=P.nb
 have nt:=P.nt
 have nk:=P.nk
 have mb:=P.mb
 have mt:=P.mt
 have mkk:=P.mkk
 have md:=P.md
 have eb:=P.eb
 have et:=P.et
 have ek:=P.ek
 have ed:=P.ed
 obtain⟨n,hn⟩: ∃n:Nat,X.s.n=(n:Int):=⟨X.s.n.toNat,by have:=hI.rt.1.1;omega⟩
 have hn12:n<12:=by have:=hI.rt.1.2;omega
 have hn12i:(n:Int)<12:=by omega
 obtain⟨ps,hps⟩: ∃ps,psA X=ps:=⟨_,rfl⟩
 have HPS:Hid (ps<2^X.p.pb.toNat):=by rw [←hps];exact Nat.mod_lt _ (Nat.two_pow_pos _)
 have hpp:=pow_pb hI.al
 have hps16:(ps:Int)<16:=by have:=HPS.out;omega
 have HNN:Hid (X.s.n.toNat=n):=by show _=_;omega
 have HPA:Hid (psA X=ps):=hps
 have HIX:Hid (Lz14.I X):=hI
 have HBL:Hid (X.bs.length≤1152921504606846976):=hbl
 have cA:=chg_one w (.cells #[.int .i64 3,.int .u8 yb,.int .i64 ((x:Int)+2),.int .i64 1] 34)
 have hbx:(w.alloc (.cells #[.int .i64 3,.int .u8 yb,.int .i64 ((x:Int)+2),.int .i64 1] 34)).heap[w.heap.size]?=some (.cells #[.int .i64 3,.int .u8 yb,.int .i64 ((x:Int)+2),.int .i64 1] 34 (0,0)):=heap_alloc_last _ _
 obtain⟨z0,z1,z2,z3⟩:=cells4y hbx
 have h0:Ib I w.heap.size #[.int .i64 3,.int .u8 yb,.int .i64 ((x:Int)+2),.int .i64 1] [] (w.alloc (.cells #[.int .i64 3,.int .u8 yb,.int .i64 ((x:Int)+2),.int .i64 1] 34)):=⟨hnew _ _ _ h cA,hbx⟩
 obtain⟨ve9,c9,hle⟩:=P.le h0
 have y21:(w.alloc (.cells #[.int .i64 3,.int .u8 yb,.int .i64 ((x:Int)+2),.int .i64 1] 34)).cell? ⟨a,21,none⟩=some (.pointer (some ⟨wa,0,none⟩)):=hle.cell 21 _ rfl
 have y22:(w.alloc (.cells #[.int .i64 3,.int .u8 yb,.int .i64 ((x:Int)+2),.int .i64 1] 34)).cell? ⟨a,22,none⟩=some (.int .i64 (n:Int)):=by rw [←hn];exact hle.cell 22 _ rfl
 have y2:(w.alloc (.cells #[.int .i64 3,.int .u8 yb,.int .i64 ((x:Int)+2),.int .i64 1] 34)).cell? ⟨a,2,none⟩=some (.int .i64 X.p.pb):=hle.cell 2 _ rfl
 have HW:Hid (Win (w.alloc (.cells #[.int .i64 3,.int .u8 yb,.int .i64 ((x:Int)+2),.int .i64 1] 34)) B wa vw X.n X.bs):=hle.win
 have HPP:Hid (∀u:World,u.cell? ⟨a,2,none⟩=some (.int .i64 X.p.pb)→Calls Tryz.prog 73 #[.pointer (some ⟨a,0,none⟩),.int .i64 (X.bs.length:Int)] u fun e w'=>e= .returned (.int .i64 (ps:Int))∧u=w'):=fun u hu=>by
  have h9:=place_any a X.p.pb X.bs.length u (by omega) (by omega) hbl hu
  rw [show X.bs.length% 2^X.p.pb.toNat=ps from hps]at h9
  exact h9
 have HQP:Hid (∀k,Calls Tryz.prog 74 #[.pointer (some ⟨wa,0,none⟩)] ((w.alloc (.cells #[.int .i64 3,.int .u8 yb,.int .i64 ((x:Int)+2),.int .i64 1] 34)).drewN k) fun e w''=>e= .returned (.int .i64 (X.bs.length:Int))∧ ∃m,w''=(w.alloc (.cells #[.int .i64 3,.int .u8 yb,.int .i64 ((x:Int)+2),.int .i64 1] 34)).drewN m):=fun k=>Calls.quiet_of (winSpec.pos B wa vw X.n X.bs _ (winSpec.new HW.out (chg_drewN _ _)))
 have HQS:Hid (∀k,Calls Tryz.prog 73 #[.pointer (some ⟨a,0,none⟩),.int .i64 (X.bs.length:Int)] ((w.alloc (.cells #[.int .i64 3,.int .u8 yb,.int .i64 ((x:Int)+2),.int .i64 1] 34)).drewN k) fun e w''=>e= .returned (.int .i64 (ps:Int))∧ ∃m,w''=(w.alloc (.cells #[.int .i64 3,.int .u8 yb,.int .i64 ((x:Int)+2),.int .i64 1] 34)).drewN m):=fun k=>quiet_of (HPP.out _ (cell_chg y2 (chg_drewN _ k)))
 clear hle hps hpp h cA hn hI hbl hbx PB hnew
 go_enter Tryz.func37,Tryz.ntmps37
 go_wp2_with fail
 generalize w.heap.size=bx at*
 generalize w.alloc (.cells #[.int .i64 3,.int .u8 yb,.int .i64 ((x:Int)+2),.int .i64 1] 34)=W at*
 go_quiet (first|(go_at_call 74;exact HQP.out _)|(go_at_call 73;exact HQS.out _))
 generalize hWd:W.drewN _=W2
 have cD:Chg (fun _=>False) W W2:=by rw [←hWd];exact chg_drewN _ _
 have h1:=P.new h0 cD
 clear z0 z1 z2 z3
 have hbx:=h1.box
 obtain⟨z0,z1,z2,z3⟩:=cells4y hbx
 clear hbx
 clear hWd cD HQP HQS HPP HW y21 y22 y2 h0
 go_upto_region 5 with fail
 obtain⟨ve9,c9,hle⟩:=P.le h1
 obtain⟨gl,kl,el,cl⟩:=hle.ptr 0 (by omega) rfl n hn12
 have xl:W2.cell? ⟨a,3,none⟩=some (.slice (some ⟨gl,0,none⟩) 12 kl):=(hle.cell 3 _ rfl).trans (congrArg some el)
 clear el
 clear hle
 refine wp_region_last (mk:=fun u=> #[_,_,_,_,_,_,_,_,_,_,_,_,_,_,_,_,_,_,_,_,_,_,_,_,_,_,_,_,_,_,_,_,_,_,_,_,_,_,_,_,_,_,_,_,u 44,u 45,u 46,u 47,u 48,u 49,u 50,u 51,u 52,u 53,u 54,u 55,u 56,_,_,_,_,_,_,_,_,_,_,_,_,_,_,_,_,_,_,_,_,_,_,_,_,_,_,_,_,_,_,_,_,_,_,_,_,_,_,_,_,_,_,_,_,_,_,_,_,_,_,_,_,_,_,_,_,_,_,_,_,_,_,_,_,_,_,_,_,_,_,_,_,_,_,_,_,_,_,_]) (F:=fun slot vv ww=>(look [(44,.val (.iface T rv)),(45,.val (.pointer (some ⟨a,0,none⟩))),(46,.val (.pointer (some ⟨a,0,none⟩))),(47,.val (.pointer (some ⟨a,0,none⟩))),(48,.val (.pointer (some ⟨a,3,none⟩))),(49,.val (.slice (some ⟨gl,0,none⟩) 12 kl)),(50,.val (.int .i64 (n:Int))),(51,.val (.pointer (some ⟨gl,n,none⟩))),(52,.val (.pointer (some ⟨(D 0 n).1,0,none⟩))),(53,.val (.int .i64 (ps:Int))),(54,.val (.func (.method "pith/lzenc.bit") #[.iface T rv] #[])),(55,.val (.func (.method "pith/lzenc.bit") #[.iface T rv] #[])),(56,.val (.iface T rv))] slot).holds vv ww) (fun _=>undef) rfl (by kernel_rfl) 13 _ rfl rfl (by kernel_rfl) ?_ (fun _ v w w' hc h=>Fact.stays _ v w w' hc h) ?_ ?_
 ·repeat (refine⟨⟨_,rfl,fun _ _=>rfl⟩,?_⟩)
  exact trivial
 ·refine⟨?_,?_,?_,?_,?_,?_,?_,?_,?_,?_,?_,?_,?_,trivial⟩
  ·intro u w_ hc hd K hK
   clear hd
   go_simp
   exact hK.out _ _ (Chg.refl _ _) rfl
  ·intro u w_ hc hd K hK
   clear hd
   go_simp
   exact hK.out _ _ (Chg.refl _ _) rfl
  ·intro u w_ hc hd K hK
   have h45:(Fact.val (.pointer (some ⟨a,0,none⟩))).holds (u 45) w_:=hd.get 1 (by kernel_rfl)
   simp only [Fact.holds]at h45
   clear hd
   simp only [h45]at hK
   go_simp
   exact hK.out _ _ (Chg.refl _ _) rfl
  ·intro u w_ hc hd K hK
   have h46:(Fact.val (.pointer (some ⟨a,0,none⟩))).holds (u 46) w_:=hd.get 2 (by kernel_rfl)
   simp only [Fact.holds]at h46
   clear hd
   simp only [h46]at hK
   go_simp
   exact hK.out _ _ (Chg.refl _ _) rfl
  ·intro u w_ hc hd K hK
   have h47:(Fact.val (.pointer (some ⟨a,0,none⟩))).holds (u 47) w_:=hd.get 3 (by kernel_rfl)
   simp only [Fact.holds]at h47
   clear hd
   simp only [h47]at hK
   go_simp
   exact hK.out _ _ (Chg.refl _ _) rfl
  ·intro u w_ hc hd K hK
   have h48:(Fact.val (.pointer (some ⟨a,3,none⟩))).holds (u 48) w_:=hd.get 4 (by kernel_rfl)
   simp only [Fact.holds]at h48
   clear hd
   simp only [h48]at hK
   have hcell:=cell_chg xl hc
   go_simp
   exact hK.out _ _ (Chg.refl _ _) rfl
  ·intro u w_ hc hd K hK
   clear hd
   go_simp
   exact hK.out _ _ (Chg.refl _ _) rfl
  ·intro u w_ hc hd K hK
   have h49:(Fact.val (.slice (some ⟨gl,0,none⟩) 12 kl)).holds (u 49) w_:=hd.get 5 (by kernel_rfl)
   simp only [Fact.holds]at h49
   have h50:(Fact.val (.int .i64 (n:Int))).holds (u 50) w_:=hd.get 6 (by kernel_rfl)
   simp only [Fact.holds]at h50
   clear hd
   simp only [h49,h50]at hK
   go_simp
   exact hK.out _ _ (Chg.refl _ _) rfl
  ·intro u w_ hc hd K hK
   have h51:(Fact.val (.pointer (some ⟨gl,n,none⟩))).holds (u 51) w_:=hd.get 7 (by kernel_rfl)
   simp only [Fact.holds]at h51
   clear hd
   simp only [h51]at hK
   have hcell:=cell_chg cl hc
   go_simp
   exact hK.out _ _ (Chg.refl _ _) rfl
  ·intro u w_ hc hd K hK
   clear hd
   go_simp
   exact hK.out _ _ (Chg.refl _ _) rfl
  ·intro u w_ hc hd K hK
   have h44:(Fact.val (.iface T rv)).holds (u 44) w_:=hd.get 0 (by kernel_rfl)
   simp only [Fact.holds]at h44
   clear hd
   simp only [h44]at hK
   go_simp
   exact hK.out _ _ (Chg.refl _ _) rfl
  ·intro u w_ hc hd K hK
   have h54:(Fact.val (.func (.method "pith/lzenc.bit") #[.iface T rv] #[])).holds (u 54) w_:=hd.get 10 (by kernel_rfl)
   simp only [Fact.holds]at h54
   clear hd
   simp only [h54]at hK
   go_simp
   exact hK.out _ _ (Chg.refl _ _) rfl
  ·intro u w_ hc hd K hK
   have h44:(Fact.val (.iface T rv)).holds (u 44) w_:=hd.get 0 (by kernel_rfl)
   simp only [Fact.holds]at h44
   clear hd
   simp only [h44]at hK
   go_simp
   exact hK.out _ _ (Chg.refl _ _) rfl
 ·intro u w_ hc hA K hK
  have e56:u 56=(.iface T rv):=hA.at 56 (by kernel_rfl)
  have e52:u 52=(.pointer (some ⟨(D 0 n).1,0,none⟩)):=hA.at 52 (by kernel_rfl)
  have e53:u 53=(.int .i64 (ps:Int)):=hA.at 53 (by kernel_rfl)
  clear hA
  simp only [e56,e52,e53]at hK⊢
  go_simp
  refine Calls.mono (P.bit [] w_ 0 n ps 1 (P.new h1 hc) (by omega) hn12 HPS.out (by omega) (by simp)) ?_
  rintro z w3 ⟨rfl,h3⟩
  clear hc
  refine hK.out _ _ ?_
  clear hK z0 z1 z2 z3
  have hbx:=h3.box
  obtain⟨z0,z1,z2,z3⟩:=cells4y hbx
  clear hbx
  clear xl cl
  go_upto_region 15 with fail
  obtain⟨ve9,c9,hle⟩:=P.le h3
  have xr:w3.cell? ⟨a,5,none⟩=some (.pointer (some ⟨(D 2 0).1,0,none⟩)):=hle.cell 5 _ rfl
  clear hle
  refine wp_region_last (mk:=fun u=> #[_,_,_,_,_,_,_,_,_,_,_,_,_,_,_,_,_,_,_,_,_,_,_,_,_,_,_,_,_,_,_,_,_,_,_,_,_,_,_,_,_,_,_,_,_,_,_,_,_,_,_,_,_,_,_,_,_,_,_,_,_,_,_,_,_,_,_,_,_,_,_,_,_,_,_,_,_,_,_,_,_,_,_,_,_,_,_,_,_,_,_,_,_,_,_,_,_,_,_,_,_,_,_,_,_,_,_,_,_,u 109,u 110,u 111,u 112,u 113,u 114,u 115,u 116,u 117,u 118,_,_,_,_,_,_,_,_,_,_,_,_,_,_,_,_,_]) (F:=fun slot vv ww=>(look [(109,.val (.iface T rv)),(110,.val (.pointer (some ⟨a,0,none⟩))),(111,.val (.pointer (some ⟨a,0,none⟩))),(112,.val (.pointer (some ⟨a,0,none⟩))),(113,.val (.pointer (some ⟨a,5,none⟩))),(114,.val (.pointer (some ⟨(D 2 0).1,0,none⟩))),(115,.val (.int .i64 (n:Int))),(116,.val (.func (.method "pith/lzenc.bit") #[.iface T rv] #[])),(117,.val (.func (.method "pith/lzenc.bit") #[.iface T rv] #[])),(118,.val (.iface T rv))] slot).holds vv ww) (fun _=>undef) rfl (by kernel_rfl) 10 _ rfl rfl (by kernel_rfl) ?_ (fun _ v w w' hc h=>Fact.stays _ v w w' hc h) ?_ ?_
  ·repeat (refine⟨⟨_,rfl,fun _ _=>rfl⟩,?_⟩)
   exact trivial
  ·refine⟨?_,?_,?_,?_,?_,?_,?_,?_,?_,?_,trivial⟩
   ·intro u w_ hc hd K hK
    clear hd
    go_simp
    exact hK.out _ _ (Chg.refl _ _) rfl
   ·intro u w_ hc hd K hK
    clear hd
    go_simp
    exact hK.out _ _ (Chg.refl _ _) rfl
   ·intro u w_ hc hd K hK
    have h110:(Fact.val (.pointer (some ⟨a,0,none⟩))).holds (u 110) w_:=hd.get 1 (by kernel_rfl)
    simp only [Fact.holds]at h110
    clear hd
    simp only [h110]at hK
    go_simp
    exact hK.out _ _ (Chg.refl _ _) rfl
   ·intro u w_ hc hd K hK
    have h111:(Fact.val (.pointer (some ⟨a,0,none⟩))).holds (u 111) w_:=hd.get 2 (by kernel_rfl)
    simp only [Fact.holds]at h111
    clear hd
    simp only [h111]at hK
    go_simp
    exact hK.out _ _ (Chg.refl _ _) rfl
   ·intro u w_ hc hd K hK
    have h112:(Fact.val (.pointer (some ⟨a,0,none⟩))).holds (u 112) w_:=hd.get 3 (by kernel_rfl)
    simp only [Fact.holds]at h112
    clear hd
    simp only [h112]at hK
    go_simp
    exact hK.out _ _ (Chg.refl _ _) rfl
   ·intro u w_ hc hd K hK
    have h113:(Fact.val (.pointer (some ⟨a,5,none⟩))).holds (u 113) w_:=hd.get 4 (by kernel_rfl)
    simp only [Fact.holds]at h113
    clear hd
    simp only [h113]at hK
    have hcell:=cell_chg xr hc
    go_simp
    exact hK.out _ _ (Chg.refl _ _) rfl
   ·intro u w_ hc hd K hK
    clear hd
    go_simp
    exact hK.out _ _ (Chg.refl _ _) rfl
   ·intro u w_ hc hd K hK
    have h109:(Fact.val (.iface T rv)).holds (u 109) w_:=hd.get 0 (by kernel_rfl)
    simp only [Fact.holds]at h109
    clear hd
    simp only [h109]at hK
    go_simp
    exact hK.out _ _ (Chg.refl _ _) rfl
   ·intro u w_ hc hd K hK
    have h116:(Fact.val (.func (.method "pith/lzenc.bit") #[.iface T rv] #[])).holds (u 116) w_:=hd.get 7 (by kernel_rfl)
    simp only [Fact.holds]at h116
    clear hd
    simp only [h116]at hK
    go_simp
    exact hK.out _ _ (Chg.refl _ _) rfl
   ·intro u w_ hc hd K hK
    have h109:(Fact.val (.iface T rv)).holds (u 109) w_:=hd.get 0 (by kernel_rfl)
    simp only [Fact.holds]at h109
    clear hd
    simp only [h109]at hK
    go_simp
    exact hK.out _ _ (Chg.refl _ _) rfl
  ·intro u w_ hc hA K hK
   have e118:u 118=(.iface T rv):=hA.at 118 (by kernel_rfl)
   have e114:u 114=(.pointer (some ⟨(D 2 0).1,0,none⟩)):=hA.at 114 (by kernel_rfl)
   have e115:u 115=(.int .i64 (n:Int)):=hA.at 115 (by kernel_rfl)
   clear hA
   simp only [e118,e114,e115]at hK⊢
   go_simp
   refine Calls.mono (P.bit _ w_ 2 0 n 1 (P.new h3 hc) (by omega) (by show 0<1;omega) hn12 (by omega) (by simp)) ?_
   rintro z w4 ⟨rfl,h4⟩
   clear hc
   refine hK.out _ _ ?_
   clear hK z0 z1 z2 z3
   have hbx:=h4.box
   obtain⟨z0,z1,z2,z3⟩:=cells4y hbx
   clear hbx
   clear xr
   go_wp2_with fail
   refine Calls.mono (which1 P _ w4 h4 n ps hn12 HPS.out (by simp)) ?_
   rintro z w5 ⟨rfl,h5⟩
   clear z0 z1 z2 z3
   have hbx:=h5.box
   obtain⟨z0,z1,z2,z3⟩:=cells4y hbx
   clear hbx
   go_upto_region 17 with fail
   refine wp_region_last (mk:=fun u=> #[_,_,_,_,_,_,_,_,_,_,_,_,_,_,_,_,_,_,_,_,_,_,_,_,_,_,_,_,_,_,_,_,_,_,_,_,_,_,_,_,_,_,_,_,_,_,_,_,_,_,_,_,_,_,_,_,_,_,_,_,_,_,_,_,_,_,_,_,_,_,_,_,_,_,_,_,_,_,_,_,_,_,_,_,_,_,_,_,_,_,_,_,_,_,_,_,_,_,_,_,_,_,_,_,_,_,_,_,_,_,_,_,_,_,_,_,_,_,_,_,_,_,_,_,_,_,_,u 127,u 128,u 129,u 130,u 131,u 132,u 133,u 134,_]) (F:=fun slot vv ww=>(look [(127,.val (.iface T rv)),(128,.val (.pointer (some ⟨a,0,none⟩))),(129,.val (.pointer (some ⟨a,0,none⟩))),(130,.val (.pointer (some ⟨a,0,none⟩))),(131,.val (.pointer (some ⟨a,14,none⟩))),(132,.val (.int .i64 (ps:Int))),(133,.val (.pointer (some ⟨bx,2,none⟩))),(134,.val (.int .i64 ((x:Int)+2)))] slot).holds vv ww) (fun _=>undef) rfl (by kernel_rfl) 8 _ rfl rfl (by kernel_rfl) ?_ (fun _ v w w' hc h=>Fact.stays _ v w w' hc h) ?_ ?_
   ·repeat (refine⟨⟨_,rfl,fun _ _=>rfl⟩,?_⟩)
    exact trivial
   ·refine⟨?_,?_,?_,?_,?_,?_,?_,?_,trivial⟩
    ·intro u w_ hc hd K hK
     clear hd
     go_simp
     exact hK.out _ _ (Chg.refl _ _) rfl
    ·intro u w_ hc hd K hK
     clear hd
     go_simp
     exact hK.out _ _ (Chg.refl _ _) rfl
    ·intro u w_ hc hd K hK
     have h128:(Fact.val (.pointer (some ⟨a,0,none⟩))).holds (u 128) w_:=hd.get 1 (by kernel_rfl)
     simp only [Fact.holds]at h128
     clear hd
     simp only [h128]at hK
     go_simp
     exact hK.out _ _ (Chg.refl _ _) rfl
    ·intro u w_ hc hd K hK
     have h129:(Fact.val (.pointer (some ⟨a,0,none⟩))).holds (u 129) w_:=hd.get 2 (by kernel_rfl)
     simp only [Fact.holds]at h129
     clear hd
     simp only [h129]at hK
     go_simp
     exact hK.out _ _ (Chg.refl _ _) rfl
    ·intro u w_ hc hd K hK
     have h130:(Fact.val (.pointer (some ⟨a,0,none⟩))).holds (u 130) w_:=hd.get 3 (by kernel_rfl)
     simp only [Fact.holds]at h130
     clear hd
     simp only [h130]at hK
     go_simp
     exact hK.out _ _ (Chg.refl _ _) rfl
    ·intro u w_ hc hd K hK
     clear hd
     go_simp
     exact hK.out _ _ (Chg.refl _ _) rfl
    ·intro u w_ hc hd K hK
     clear hd
     go_simp
     exact hK.out _ _ (Chg.refl _ _) rfl
    ·intro u w_ hc hd K hK
     have h133:(Fact.val (.pointer (some ⟨bx,2,none⟩))).holds (u 133) w_:=hd.get 6 (by kernel_rfl)
     simp only [Fact.holds]at h133
     clear hd
     simp only [h133]at hK
     have hcell:=cell_chg z2 hc
     go_simp
     exact hK.out _ _ (Chg.refl _ _) rfl
   ·intro u w_ hc hA K hK
    have e127:u 127=(.iface T rv):=hA.at 127 (by kernel_rfl)
    have e131:u 131=(.pointer (some ⟨a,14,none⟩)):=hA.at 131 (by kernel_rfl)
    have e132:u 132=(.int .i64 (ps:Int)):=hA.at 132 (by kernel_rfl)
    have e134:u 134=(.int .i64 ((x:Int)+2)):=hA.at 134 (by kernel_rfl)
    clear hA
    simp only [e127,e131,e132,e134]at hK⊢
    go_simp
    refine Calls.mono (len1_any P _ w_ (P.new h5 hc) ps HPS.out (by simp) x hx) ?_
    rintro z w6 ⟨rfl,h6⟩
    clear hc
    refine hK.out _ _ ?_
    clear hK z0 z1 z2 z3
    go_wp2
    first|go_end0|(refine bodyPost_ret (results_none rfl _ _ _) rfl ?_)
    refine⟨rfl,?_⟩
    have e:symB X ⟨3,yb,(x:Int)+2,1⟩=⟨some (nIsMatch n ps),0,1⟩::⟨some (nIsRep n),0,1⟩::([⟨some (nIsRep0 n),0,1⟩,⟨some (nIsRep1 n),0,0⟩]++lenB 1 ps (x+2)):=by
     unfold symB
     rw [if_neg (by simp),if_neg (by simp),if_neg (by simp),HNN.out,HPA.out]
     simp only [show((x:Int)+2).toNat=x+2 by omega]
     simp [repB]
    rw [e]
    have h7:=h6.pen
    simp only [List.nil_append,List.append_assoc,List.cons_append]at h7
    exact h7
set_option maxHeartbeats 4000000 in
set_option maxRecDepth 100000 in
theorem spell_rep2 (PB: ∀g cs,PenS T rv fb ft fk fd B a D V wa vw ea X (Ib I g cs))(hnew: ∀l w w',I l w→Chg (fun _=>False) w w'→I l w')(S:StSpec Tab)(hI:Lz14.I X)(hbl:X.bs.length≤1152921504606846976)(w:World)(h:I [] w)(yb:Int)(x:Nat)(hx:x≤271):Calls Tryz.prog 37 #[.pointer (some ⟨a,0,none⟩),.iface T rv,.agg #[.int .i64 3,.int .u8 yb,.int .i64 ((x:Int)+2),.int .i64 2]] w fun e w'=>e= .returned (.tuple #[])∧I (symB X ⟨3,yb,(x:Int)+2,2⟩) w':=by
 have P:=PB w.heap.size #[.int .i64 3,.int .u8 yb,.int .i64 ((x:Int)+2),.int .i64 2]
 have nb:=P.nb
 have nt:=P.nt
 have nk:=P.nk
 have mb:=P.mb
 have mt:=P.mt
 have mkk:=P.mkk
 have md:=P.md
 have eb:=P.eb
 have et:=P.et
 have ek:=P.ek
 have ed:=P.ed
 obtain⟨n,hn⟩: ∃n:Nat,X.s.n=(n:Int):=⟨X.s.n.toNat,by have:=hI.rt.1.1;omega⟩
 have hn12:n<12:=by have:=hI.rt.1.2;omega
 have hn12i:(n:Int)<12:=by omega
 obtain⟨ps,hps⟩: ∃ps,psA X=ps:=⟨_,rfl⟩
 have HPS:Hid (ps<2^X.p.pb.toNat):=by rw [←hps];exact Nat.mod_lt _ (Nat.two_pow_pos _)
 have hpp:=pow_pb hI.al
 have hps16:(ps:Int)<16:=by have:=HPS.out;omega
 have HNN:Hid (X.s.n.toNat=n):=by show _=_;omega
 have HPA:Hid (psA X=ps):=hps
 have HIX:Hid (Lz14.I X):=hI
 have HBL:Hid (X.bs.length≤1152921504606846976):=hbl
 have cA:=chg_one w (.cells #[.int .i64 3,.int .u8 yb,.int .i64 ((x:Int)+2),.int .i64 2] 34)
 have hbx:(w.alloc (.cells #[.int .i64 3,.int .u8 yb,.int .i64 ((x:Int)+2),.int .i64 2] 34)).heap[w.heap.size]?=some (.cells #[.int .i64 3,.int .u8 yb,.int .i64 ((x:Int)+2),.int .i64 2] 34 (0,0)):=heap_alloc_last _ _
 obtain⟨z0,z1,z2,z3⟩:=cells4y hbx
 have h0:Ib I w.heap.size #[.int .i64 3,.int .u8 yb,.int .i64 ((x:Int)+2),.int .i64 2] [] (w.alloc (.cells #[.int .i64 3,.int .u8 yb,.int .i64 ((x:Int)+2),.int .i64 2] 34)):=⟨hnew _ _ _ h cA,hbx⟩
 obtain⟨ve9,c9,hle⟩:=P.le h0
 have y21:(w.alloc (.cells #[.int .i64 3,.int .u8 yb,.int .i64 ((x:Int)+2),.int .i64 2] 34)).cell? ⟨a,21,none⟩=some (.pointer (some ⟨wa,0,none⟩)):=hle.cell 21 _ rfl
 have y22:(w.alloc (.cells #[.int .i64 3,.int .u8 yb,.int .i64 ((x:Int)+2),.int .i64 2] 34)).cell? ⟨a,22,none⟩=some (.int .i64 (n:Int)):=by rw [←hn];exact hle.cell 22 _ rfl
 have y2:(w.alloc (.cells #[.int .i64 3,.int .u8 yb,.int .i64 ((x:Int)+2),.int .i64 2] 34)).cell? ⟨a,2,none⟩=some (.int .i64 X.p.pb):=hle.cell 2 _ rfl
 have HW:Hid (Win (w.alloc (.cells #[.int .i64 3,.int .u8 yb,.int .i64 ((x:Int)+2),.int .i64 2] 34)) B wa vw X.n X.bs):=hle.win
 have HPP:Hid (∀u:World,u.cell? ⟨a,2,none⟩=some (.int .i64 X.p.pb)→Calls Tryz.prog 73 #[.pointer (some ⟨a,0,none⟩),.int .i64 (X.bs.length:Int)] u fun e w'=>e= .returned (.int .i64 (ps:Int))∧u=w'):=fun u hu=>by
  have h9:=place_any a X.p.pb X.bs.length u (by omega) (by omega) hbl hu
  rw [show X.bs.length% 2^X.p.pb.toNat=ps from hps]at h9
  exact h9
 have HQP:Hid (∀k,Calls Tryz.prog 74 #[.pointer (some ⟨wa,0,none⟩)] ((w.alloc (.cells #[.int .i64 3,.int .u8 yb,.int .i64 ((x:Int)+2),.int .i64 2] 34)).drewN k) fun e w''=>e= .returned (.int .i64 (X.bs.length:Int))∧ ∃m,w''=(w.alloc (.cells #[.int .i64 3,.int .u8 yb,.int .i64 ((x:Int)+2),.int .i64 2] 34)).drewN m):=fun k=>Calls.quiet_of (winSpec.pos B wa vw X.n X.bs _ (winSpec.new HW.out (chg_drewN _ _)))
 have HQS:Hid (∀k,Calls Tryz.prog 73 #[.pointer (some ⟨a,0,none⟩),.int .i64 (X.bs.length:Int)] ((w.alloc (.cells #[.int .i64 3,.int .u8 yb,.int .i64 ((x:Int)+2),.int .i64 2] 34)).drewN k) fun e w''=>e= .returned (.int .i64 (ps:Int))∧ ∃m,w''=(w.alloc (.cells #[.int .i64 3,.int .u8 yb,.int .i64 ((x:Int)+2),.int .i64 2] 34)).drewN m):=fun k=>quiet_of (HPP.out _ (cell_chg y2 (chg_drewN _ k)))
 clear hle hps hpp h cA hn hI hbl hbx PB hnew
 go_enter Tryz.func37,Tryz.ntmps37
 go_wp2_with fail
 generalize w.heap.size=bx at*
 generalize w.alloc (.cells #[.int .i64 3,.int .u8 yb,.int .i64 ((x:Int)+2),.int .i64 2] 34)=W at*
 go_quiet (first|(go_at_call 74;exact HQP.out _)|(go_at_call 73;exact HQS.out _))
 generalize hWd:W.drewN _=W2
 have cD:Chg (fun _=>False) W W2:=by rw [←hWd];exact chg_drewN _ _
 have h1:=P.new h0 cD
 clear z0 z1 z2 z3
 have hbx:=h1.box
 obtain⟨z0,z1,z2,z3⟩:=cells4y hbx
 clear hbx
 clear hWd cD HQP HQS HPP HW y21 y22 y2 h0
 go_upto_region 5 with fail
 obtain⟨ve9,c9,hle⟩:=P.le h1
 obtain⟨gl,kl,el,cl⟩:=hle.ptr 0 (by omega) rfl n hn12
 have xl:W2.cell? ⟨a,3,none⟩=some (.slice (some ⟨gl,0,none⟩) 12 kl):=(hle.cell 3 _ rfl).trans (congrArg some el)
 clear el
 clear hle
 refine wp_region_last (mk:=fun u=> #[_,_,_,_,_,_,_,_,_,_,_,_,_,_,_,_,_,_,_,_,_,_,_,_,_,_,_,_,_,_,_,_,_,_,_,_,_,_,_,_,_,_,_,_,u 44,u 45,u 46,u 47,u 48,u 49,u 50,u 51,u 52,u 53,u 54,u 55,u 56,_,_,_,_,_,_,_,_,_,_,_,_,_,_,_,_,_,_,_,_,_,_,_,_,_,_,_,_,_,_,_,_,_,_,_,_,_,_,_,_,_,_,_,_,_,_,_,_,_,_,_,_,_,_,_,_,_,_,_,_,_,_,_,_,_,_,_,_,_,_,_,_,_,_,_,_,_,_,_]) (F:=fun slot vv ww=>(look [(44,.val (.iface T rv)),(45,.val (.pointer (some ⟨a,0,none⟩))),(46,.val (.pointer (some ⟨a,0,none⟩))),(47,.val (.pointer (some ⟨a,0,none⟩))),(48,.val (.pointer (some ⟨a,3,none⟩))),(49,.val (.slice (some ⟨gl,0,none⟩) 12 kl)),(50,.val (.int .i64 (n:Int))),(51,.val (.pointer (some ⟨gl,n,none⟩))),(52,.val (.pointer (some ⟨(D 0 n).1,0,none⟩))),(53,.val (.int .i64 (ps:Int))),(54,.val (.func (.method "pith/lzenc.bit") #[.iface T rv] #[])),(55,.val (.func (.method "pith/lzenc.bit") #[.iface T rv] #[])),(56,.val (.iface T rv))] slot).holds vv ww) (fun _=>undef) rfl (by kernel_rfl) 13 _ rfl rfl (by kernel_rfl) ?_ (fun _ v w w' hc h=>Fact.stays _ v w w' hc h) ?_ ?_
 ·repeat (refine⟨⟨_,rfl,fun _ _=>rfl⟩,?_⟩)
  exact trivial
 ·refine⟨?_,?_,?_,?_,?_,?_,?_,?_,?_,?_,?_,?_,?_,trivial⟩
  ·intro u w_ hc hd K hK
   clear hd
   go_simp
   exact hK.out _ _ (Chg.refl _ _) rfl
  ·intro u w_ hc hd K hK
   clear hd
   go_simp
   exact hK.out _ _ (Chg.refl _ _) rfl
  ·intro u w_ hc hd K hK
   have h45:(Fact.val (.pointer (some ⟨a,0,none⟩))).holds (u 45) w_:=hd.get 1 (by kernel_rfl)
   simp only [Fact.holds]at h45
   clear hd
   simp only [h45]at hK
   go_simp
   exact hK.out _ _ (Chg.refl _ _) rfl
  ·intro u w_ hc hd K hK
   have h46:(Fact.val (.pointer (some ⟨a,0,none⟩))).holds (u 46) w_:=hd.get 2 (by kernel_rfl)
   simp only [Fact.holds]at h46
   clear hd
   simp only [h46]at hK
   go_simp
   exact hK.out _ _ (Chg.refl _ _) rfl
  ·intro u w_ hc hd K hK
   have h47:(Fact.val (.pointer (some ⟨a,0,none⟩))).holds (u 47) w_:=hd.get 3 (by kernel_rfl)
   simp only [Fact.holds]at h47
   clear hd
   simp only [h47]at hK
   go_simp
   exact hK.out _ _ (Chg.refl _ _) rfl
  ·intro u w_ hc hd K hK
   have h48:(Fact.val (.pointer (some ⟨a,3,none⟩))).holds (u 48) w_:=hd.get 4 (by kernel_rfl)
   simp only [Fact.holds]at h48
   clear hd
   simp only [h48]at hK
   have hcell:=cell_chg xl hc
   go_simp
   exact hK.out _ _ (Chg.refl _ _) rfl
  ·intro u w_ hc hd K hK
   clear hd
   go_simp
   exact hK.out _ _ (Chg.refl _ _) rfl
  ·intro u w_ hc hd K hK
   have h49:(Fact.val (.slice (some ⟨gl,0,none⟩) 12 kl)).holds (u 49) w_:=hd.get 5 (by kernel_rfl)
   simp only [Fact.holds]at h49
   have h50:(Fact.val (.int .i64 (n:Int))).holds (u 50) w_:=hd.get 6 (by kernel_rfl)
   simp only [Fact.holds]at h50
   clear hd
   simp only [h49,h50]at hK
   go_simp
   exact hK.out _ _ (Chg.refl _ _) rfl
  ·intro u w_ hc hd K hK
   have h51:(Fact.val (.pointer (some ⟨gl,n,none⟩))).holds (u 51) w_:=hd.get 7 (by kernel_rfl)
   simp only [Fact.holds]at h51
   clear hd
   simp only [h51]at hK
   have hcell:=cell_chg cl hc
   go_simp
   exact hK.out _ _ (Chg.refl _ _) rfl
  ·intro u w_ hc hd K hK
   clear hd
   go_simp
   exact hK.out _ _ (Chg.refl _ _) rfl
  ·intro u w_ hc hd K hK
   have h44:(Fact.val (.iface T rv)).holds (u 44) w_:=hd.get 0 (by kernel_rfl)
   simp only [Fact.holds]at h44
   clear hd
   simp only [h44]at hK
   go_simp
   exact hK.out _ _ (Chg.refl _ _) rfl
  ·intro u w_ hc hd K hK
   have h54:(Fact.val (.func (.method "pith/lzenc.bit") #[.iface T rv] #[])).holds (u 54) w_:=hd.get 10 (by kernel_rfl)
   simp only [Fact.holds]at h54
   clear hd
   simp only [h54]at hK
   go_simp
   exact hK.out _ _ (Chg.refl _ _) rfl
  ·intro u w_ hc hd K hK
   have h44:(Fact.val (.iface T rv)).holds (u 44) w_:=hd.get 0 (by kernel_rfl)
   simp only [Fact.holds]at h44
   clear hd
   simp only [h44]at hK
   go_simp
   exact hK.out _ _ (Chg.refl _ _) rfl
 ·intro u w_ hc hA K hK
  have e56:u 56=(.iface T rv):=hA.at 56 (by kernel_rfl)
  have e52:u 52=(.pointer (some ⟨(D 0 n).1,0,none⟩)):=hA.at 52 (by kernel_rfl)
  have e53:u 53=(.int .i64 (ps:Int)):=hA.at 53 (by kernel_rfl)
  clear hA
  simp only [e56,e52,e53]at hK⊢
  go_simp
  refine Calls.mono (P.bit [] w_ 0 n ps 1 (P.new h1 hc) (by omega) hn12 HPS.out (by omega) (by simp)) ?_
  rintro z w3 ⟨rfl,h3⟩
  clear hc
  refine hK.out _ _ ?_
  clear hK z0 z1 z2 z3
  have hbx:=h3.box
  obtain⟨z0,z1,z2,z3⟩:=cells4y hbx
  clear hbx
  clear xl cl
  go_upto_region 15 with fail
  obtain⟨ve9,c9,hle⟩:=P.le h3
  have xr:w3.cell? ⟨a,5,none⟩=some (.pointer (some ⟨(D 2 0).1,0,none⟩)):=hle.cell 5 _ rfl
  clear hle
  refine wp_region_last (mk:=fun u=> #[_,_,_,_,_,_,_,_,_,_,_,_,_,_,_,_,_,_,_,_,_,_,_,_,_,_,_,_,_,_,_,_,_,_,_,_,_,_,_,_,_,_,_,_,_,_,_,_,_,_,_,_,_,_,_,_,_,_,_,_,_,_,_,_,_,_,_,_,_,_,_,_,_,_,_,_,_,_,_,_,_,_,_,_,_,_,_,_,_,_,_,_,_,_,_,_,_,_,_,_,_,_,_,_,_,_,_,_,_,u 109,u 110,u 111,u 112,u 113,u 114,u 115,u 116,u 117,u 118,_,_,_,_,_,_,_,_,_,_,_,_,_,_,_,_,_]) (F:=fun slot vv ww=>(look [(109,.val (.iface T rv)),(110,.val (.pointer (some ⟨a,0,none⟩))),(111,.val (.pointer (some ⟨a,0,none⟩))),(112,.val (.pointer (some ⟨a,0,none⟩))),(113,.val (.pointer (some ⟨a,5,none⟩))),(114,.val (.pointer (some ⟨(D 2 0).1,0,none⟩))),(115,.val (.int .i64 (n:Int))),(116,.val (.func (.method "pith/lzenc.bit") #[.iface T rv] #[])),(117,.val (.func (.method "pith/lzenc.bit") #[.iface T rv] #[])),(118,.val (.iface T rv))] slot).holds vv ww) (fun _=>undef) rfl (by kernel_rfl) 10 _ rfl rfl (by kernel_rfl) ?_ (fun _ v w w' hc h=>Fact.stays _ v w w' hc h) ?_ ?_
  ·repeat (refine⟨⟨_,rfl,fun _ _=>rfl⟩,?_⟩)
   exact trivial
  ·refine⟨?_,?_,?_,?_,?_,?_,?_,?_,?_,?_,trivial⟩
   ·intro u w_ hc hd K hK
    clear hd
    go_simp
    exact hK.out _ _ (Chg.refl _ _) rfl
   ·intro u w_ hc hd K hK
    clear hd
    go_simp
    exact hK.out _ _ (Chg.refl _ _) rfl
   ·intro u w_ hc hd K hK
    have h110:(Fact.val (.pointer (some ⟨a,0,none⟩))).holds (u 110) w_:=hd.get 1 (by kernel_rfl)
    simp only [Fact.holds]at h110
    clear hd
    simp only [h110]at hK
    go_simp
    exact hK.out _ _ (Chg.refl _ _) rfl
   ·intro u w_ hc hd K hK
    have h111:(Fact.val (.pointer (some ⟨a,0,none⟩))).holds (u 111) w_:=hd.get 2 (by kernel_rfl)
    simp only [Fact.holds]at h111
    clear hd
    simp only [h111]at hK
    go_simp
    exact hK.out _ _ (Chg.refl _ _) rfl
   ·intro u w_ hc hd K hK
    have h112:(Fact.val (.pointer (some ⟨a,0,none⟩))).holds (u 112) w_:=hd.get 3 (by kernel_rfl)
    simp only [Fact.holds]at h112
    clear hd
    simp only [h112]at hK
    go_simp
    exact hK.out _ _ (Chg.refl _ _) rfl
   ·intro u w_ hc hd K hK
    have h113:(Fact.val (.pointer (some ⟨a,5,none⟩))).holds (u 113) w_:=hd.get 4 (by kernel_rfl)
    simp only [Fact.holds]at h113
    clear hd
    simp only [h113]at hK
    have hcell:=cell_chg xr hc
    go_simp
    exact hK.out _ _ (Chg.refl _ _) rfl
   ·intro u w_ hc hd K hK
    clear hd
    go_simp
    exact hK.out _ _ (Chg.refl _ _) rfl
   ·intro u w_ hc hd K hK
    have h109:(Fact.val (.iface T rv)).holds (u 109) w_:=hd.get 0 (by kernel_rfl)
    simp only [Fact.holds]at h109
    clear hd
    simp only [h109]at hK
    go_simp
    exact hK.out _ _ (Chg.refl _ _) rfl
   ·intro u w_ hc hd K hK
    have h116:(Fact.val (.func (.method "pith/lzenc.bit") #[.iface T rv] #[])).holds (u 116) w_:=hd.get 7 (by kernel_rfl)
    simp only [Fact.holds]at h116
    clear hd
    simp only [h116]at hK
    go_simp
    exact hK.out _ _ (Chg.refl _ _) rfl
   ·intro u w_ hc hd K hK
    have h109:(Fact.val (.iface T rv)).holds (u 109) w_:=hd.get 0 (by kernel_rfl)
    simp only [Fact.holds]at h109
    clear hd
    simp only [h109]at hK
    go_simp
    exact hK.out _ _ (Chg.refl _ _) rfl
  ·intro u w_ hc hA K hK
   have e118:u 118=(.iface T rv):=hA.at 118 (by kernel_rfl)
   have e114:u 114=(.pointer (some ⟨(D 2 0).1,0,none⟩)):=hA.at 114 (by kernel_rfl)
   have e115:u 115=(.int .i64 (n:Int)):=hA.at 115 (by kernel_rfl)
   clear hA
   simp only [e118,e114,e115]at hK⊢
   go_simp
   refine Calls.mono (P.bit _ w_ 2 0 n 1 (P.new h3 hc) (by omega) (by show 0<1;omega) hn12 (by omega) (by simp)) ?_
   rintro z w4 ⟨rfl,h4⟩
   clear hc
   refine hK.out _ _ ?_
   clear hK z0 z1 z2 z3
   have hbx:=h4.box
   obtain⟨z0,z1,z2,z3⟩:=cells4y hbx
   clear hbx
   clear xr
   go_wp2_with fail
   refine Calls.mono (which2 P _ w4 h4 n ps hn12 HPS.out (by simp)) ?_
   rintro z w5 ⟨rfl,h5⟩
   clear z0 z1 z2 z3
   have hbx:=h5.box
   obtain⟨z0,z1,z2,z3⟩:=cells4y hbx
   clear hbx
   go_upto_region 17 with fail
   refine wp_region_last (mk:=fun u=> #[_,_,_,_,_,_,_,_,_,_,_,_,_,_,_,_,_,_,_,_,_,_,_,_,_,_,_,_,_,_,_,_,_,_,_,_,_,_,_,_,_,_,_,_,_,_,_,_,_,_,_,_,_,_,_,_,_,_,_,_,_,_,_,_,_,_,_,_,_,_,_,_,_,_,_,_,_,_,_,_,_,_,_,_,_,_,_,_,_,_,_,_,_,_,_,_,_,_,_,_,_,_,_,_,_,_,_,_,_,_,_,_,_,_,_,_,_,_,_,_,_,_,_,_,_,_,_,u 127,u 128,u 129,u 130,u 131,u 132,u 133,u 134,_]) (F:=fun slot vv ww=>(look [(127,.val (.iface T rv)),(128,.val (.pointer (some ⟨a,0,none⟩))),(129,.val (.pointer (some ⟨a,0,none⟩))),(130,.val (.pointer (some ⟨a,0,none⟩))),(131,.val (.pointer (some ⟨a,14,none⟩))),(132,.val (.int .i64 (ps:Int))),(133,.val (.pointer (some ⟨bx,2,none⟩))),(134,.val (.int .i64 ((x:Int)+2)))] slot).holds vv ww) (fun _=>undef) rfl (by kernel_rfl) 8 _ rfl rfl (by kernel_rfl) ?_ (fun _ v w w' hc h=>Fact.stays _ v w w' hc h) ?_ ?_
   ·repeat (refine⟨⟨_,rfl,fun _ _=>rfl⟩,?_⟩)
    exact trivial
   ·refine⟨?_,?_,?_,?_,?_,?_,?_,?_,trivial⟩
    ·intro u w_ hc hd K hK
     clear hd
     go_simp
     exact hK.out _ _ (Chg.refl _ _) rfl
    ·intro u w_ hc hd K hK
     clear hd
     go_simp
     exact hK.out _ _ (Chg.refl _ _) rfl
    ·intro u w_ hc hd K hK
     have h128:(Fact.val (.pointer (some ⟨a,0,none⟩))).holds (u 128) w_:=hd.get 1 (by kernel_rfl)
     simp only [Fact.holds]at h128
     clear hd
     simp only [h128]at hK
     go_simp
     exact hK.out _ _ (Chg.refl _ _) rfl
    ·intro u w_ hc hd K hK
     have h129:(Fact.val (.pointer (some ⟨a,0,none⟩))).holds (u 129) w_:=hd.get 2 (by kernel_rfl)
     simp only [Fact.holds]at h129
     clear hd
     simp only [h129]at hK
     go_simp
     exact hK.out _ _ (Chg.refl _ _) rfl
    ·intro u w_ hc hd K hK
     have h130:(Fact.val (.pointer (some ⟨a,0,none⟩))).holds (u 130) w_:=hd.get 3 (by kernel_rfl)
     simp only [Fact.holds]at h130
     clear hd
     simp only [h130]at hK
     go_simp
     exact hK.out _ _ (Chg.refl _ _) rfl
    ·intro u w_ hc hd K hK
     clear hd
     go_simp
     exact hK.out _ _ (Chg.refl _ _) rfl
    ·intro u w_ hc hd K hK
     clear hd
     go_simp
     exact hK.out _ _ (Chg.refl _ _) rfl
    ·intro u w_ hc hd K hK
     have h133:(Fact.val (.pointer (some ⟨bx,2,none⟩))).holds (u 133) w_:=hd.get 6 (by kernel_rfl)
     simp only [Fact.holds]at h133
     clear hd
     simp only [h133]at hK
     have hcell:=cell_chg z2 hc
     go_simp
     exact hK.out _ _ (Chg.refl _ _) rfl
   ·intro u w_ hc hA K hK
    have e127:u 127=(.iface T rv):=hA.at 127 (by kernel_rfl)
    have e131:u 131=(.pointer (some ⟨a,14,none⟩)):=hA.at 131 (by kernel_rfl)
    have e132:u 132=(.int .i64 (ps:Int)):=hA.at 132 (by kernel_rfl)
    have e134:u 134=(.int .i64 ((x:Int)+2)):=hA.at 134 (by kernel_rfl)
    clear hA
    simp only [e127,e131,e132,e134]at hK⊢
    go_simp
    refine Calls.mono (len1_any P _ w_ (P.new h5 hc) ps HPS.out (by simp) x hx) ?_
    rintro z w6 ⟨rfl,h6⟩
    clear hc
    refine hK.out _ _ ?_
    clear hK z0 z1 z2 z3
    go_wp2
    first|go_end0|(refine bodyPost_ret (results_none rfl _ _ _) rfl ?_)
    refine⟨rfl,?_⟩
    have e:symB X ⟨3,yb,(x:Int)+2,2⟩=⟨some (nIsMatch n ps),0,1⟩::⟨some (nIsRep n),0,1⟩::([⟨some (nIsRep0 n),0,1⟩,⟨some (nIsRep1 n),0,1⟩,⟨some (nIsRep2 n),0,0⟩]++lenB 1 ps (x+2)):=by
     unfold symB
     rw [if_neg (by simp),if_neg (by simp),if_neg (by simp),HNN.out,HPA.out]
     simp only [show((x:Int)+2).toNat=x+2 by omega]
     simp [repB]
    rw [e]
    have h7:=h6.pen
    simp only [List.nil_append,List.append_assoc,List.cons_append]at h7
    exact h7
set_option maxHeartbeats 4000000 in
set_option maxRecDepth 100000 in
theorem spell_rep3 (PB: ∀g cs,PenS T rv fb ft fk fd B a D V wa vw ea X (Ib I g cs))(hnew: ∀l w w',I l w→Chg (fun _=>False) w w'→I l w')(S:StSpec Tab)(hI:Lz14.I X)(hbl:X.bs.length≤1152921504606846976)(w:World)(h:I [] w)(yb:Int)(x:Nat)(hx:x≤271):Calls Tryz.prog 37 #[.pointer (some ⟨a,0,none⟩),.iface T rv,.agg #[.int .i64 3,.int .u8 yb,.int .i64 ((x:Int)+2),.int .i64 3]] w fun e w'=>e= .returned (.tuple #[])∧I (symB X ⟨3,yb,(x:Int)+2,3⟩) w':=by
 have P:=PB w.heap.size #[.int .i64 3,.int .u8 yb,.int .i64 ((x:Int)+2),.int .i64 3]
 have nb:=P.nb
 have nt:=P.nt
 have nk:=P.nk
 have mb:=P.mb
 have mt:=P.mt
 have mkk:=P.mkk
 have md:=P.md
 have eb:=P.eb
 have et:=P.et
 have ek:=P.ek
 have ed:=P.ed
 obtain⟨n,hn⟩: ∃n:Nat,X.s.n=(n:Int):=⟨X.s.n.toNat,by have:=hI.rt.1.1;omega⟩
 have hn12:n<12:=by have:=hI.rt.1.2;omega
 have hn12i:(n:Int)<12:=by omega
 obtain⟨ps,hps⟩: ∃ps,psA X=ps:=⟨_,rfl⟩
 have HPS:Hid (ps<2^X.p.pb.toNat):=by rw [←hps];exact Nat.mod_lt _ (Nat.two_pow_pos _)
 have hpp:=pow_pb hI.al
 have hps16:(ps:Int)<16:=by have:=HPS.out;omega
 have HNN:Hid (X.s.n.toNat=n):=by show _=_;omega
 have HPA:Hid (psA X=ps):=hps
 have HIX:Hid (Lz14.I X):=hI
 have HBL:Hid (X.bs.length≤1152921504606846976):=hbl
 have cA:=chg_one w (.cells #[.int .i64 3,.int .u8 yb,.int .i64 ((x:Int)+2),.int .i64 3] 34)
 have hbx:(w.alloc (.cells #[.int .i64 3,.int .u8 yb,.int .i64 ((x:Int)+2),.int .i64 3] 34)).heap[w.heap.size]?=some (.cells #[.int .i64 3,.int .u8 yb,.int .i64 ((x:Int)+2),.int .i64 3] 34 (0,0)):=heap_alloc_last _ _
 obtain⟨z0,z1,z2,z3⟩:=cells4y hbx
 have h0:Ib I w.heap.size #[.int .i64 3,.int .u8 yb,.int .i64 ((x:Int)+2),.int .i64 3] [] (w.alloc (.cells #[.int .i64 3,.int .u8 yb,.int .i64 ((x:Int)+2),.int .i64 3] 34)):=⟨hnew _ _ _ h cA,hbx⟩
 obtain⟨ve9,c9,hle⟩:=P.le h0
 have y21:(w.alloc (.cells #[.int .i64 3,.int .u8 yb,.int .i64 ((x:Int)+2),.int .i64 3] 34)).cell? ⟨a,21,none⟩=some (.pointer (some ⟨wa,0,none⟩)):=hle.cell 21 _ rfl
 have y22:(w.alloc (.cells #[.int .i64 3,.int .u8 yb,.int .i64 ((x:Int)+2),.int .i64 3] 34)).cell? ⟨a,22,none⟩=some (.int .i64 (n:Int)):=by rw [←hn];exact hle.cell 22 _ rfl
 have y2:(w.alloc (.cells #[.int .i64 3,.int .u8 yb,.int .i64 ((x:Int)+2),.int .i64 3] 34)).cell? ⟨a,2,none⟩=some (.int .i64 X.p.pb):=hle.cell 2 _ rfl
 have HW:Hid (Win (w.alloc (.cells #[.int .i64 3,.int .u8 yb,.int .i64 ((x:Int)+2),.int .i64 3] 34)) B wa vw X.n X.bs):=hle.win
 have HPP:Hid (∀u:World,u.cell? ⟨a,2,none⟩=some (.int .i64 X.p.pb)→Calls Tryz.prog 73 #[.pointer (some ⟨a,0,none⟩),.int .i64 (X.bs.length:Int)] u fun e w'=>e= .returned (.int .i64 (ps:Int))∧u=w'):=fun u hu=>by
  have h9:=place_any a X.p.pb X.bs.length u (by omega) (by omega) hbl hu
  rw [show X.bs.length% 2^X.p.pb.toNat=ps from hps]at h9
  exact h9
 have HQP:Hid (∀k,Calls Tryz.prog 74 #[.pointer (some ⟨wa,0,none⟩)] ((w.alloc (.cells #[.int .i64 3,.int .u8 yb,.int .i64 ((x:Int)+2),.int .i64 3] 34)).drewN k) fun e w''=>e= .returned (.int .i64 (X.bs.length:Int))∧ ∃m,w''=(w.alloc (.cells #[.int .i64 3,.int .u8 yb,.int .i64 ((x:Int)+2),.int .i64 3] 34)).drewN m):=fun k=>Calls.quiet_of (winSpec.pos B wa vw X.n X.bs _ (winSpec.new HW.out (chg_drewN _ _)))
 have HQS:Hid (∀k,Calls Tryz.prog 73 #[.pointer (some ⟨a,0,none⟩),.int .i64 (X.bs.length:Int)] ((w.alloc (.cells #[.int .i64 3,.int .u8 yb,.int .i64 ((x:Int)+2),.int .i64 3] 34)).drewN k) fun e w''=>e= .returned (.int .i64 (ps:Int))∧ ∃m,w''=(w.alloc (.cells #[.int .i64 3,.int .u8 yb,.int .i64 ((x:Int)+2),.int .i64 3] 34)).drewN m):=fun k=>quiet_of (HPP.out _ (cell_chg y2 (chg_drewN _ k)))
 clear hle hps hpp h cA hn hI hbl hbx PB hnew
 go_enter Tryz.func37,Tryz.ntmps37
 go_wp2_with fail
 generalize w.heap.size=bx at*
 generalize w.alloc (.cells #[.int .i64 3,.int .u8 yb,.int .i64 ((x:Int)+2),.int .i64 3] 34)=W at*
 go_quiet (first|(go_at_call 74;exact HQP.out _)|(go_at_call 73;exact HQS.out _))
 generalize hWd:W.drewN _=W2
 have cD:Chg (fun _=>False) W W2:=by rw [←hWd];exact chg_drewN _ _
 have h1:=P.new h0 cD
 clear z0 z1 z2 z3
 have hbx:=h1.box
 obtain⟨z0,z1,z2,z3⟩:=cells4y hbx
 clear hbx
 clear hWd cD HQP HQS HPP HW y21 y22 y2 h0
 go_upto_region 5 with fail
 obtain⟨ve9,c9,hle⟩:=P.le h1
 obtain⟨gl,kl,el,cl⟩:=hle.ptr 0 (by omega) rfl n hn12
 have xl:W2.cell? ⟨a,3,none⟩=some (.slice (some ⟨gl,0,none⟩) 12 kl):=(hle.cell 3 _ rfl).trans (congrArg some el)
 clear el
 clear hle
 refine wp_region_last (mk:=fun u=> #[_,_,_,_,_,_,_,_,_,_,_,_,_,_,_,_,_,_,_,_,_,_,_,_,_,_,_,_,_,_,_,_,_,_,_,_,_,_,_,_,_,_,_,_,u 44,u 45,u 46,u 47,u 48,u 49,u 50,u 51,u 52,u 53,u 54,u 55,u 56,_,_,_,_,_,_,_,_,_,_,_,_,_,_,_,_,_,_,_,_,_,_,_,_,_,_,_,_,_,_,_,_,_,_,_,_,_,_,_,_,_,_,_,_,_,_,_,_,_,_,_,_,_,_,_,_,_,_,_,_,_,_,_,_,_,_,_,_,_,_,_,_,_,_,_,_,_,_,_]) (F:=fun slot vv ww=>(look [(44,.val (.iface T rv)),(45,.val (.pointer (some ⟨a,0,none⟩))),(46,.val (.pointer (some ⟨a,0,none⟩))),(47,.val (.pointer (some ⟨a,0,none⟩))),(48,.val (.pointer (some ⟨a,3,none⟩))),(49,.val (.slice (some ⟨gl,0,none⟩) 12 kl)),(50,.val (.int .i64 (n:Int))),(51,.val (.pointer (some ⟨gl,n,none⟩))),(52,.val (.pointer (some ⟨(D 0 n).1,0,none⟩))),(53,.val (.int .i64 (ps:Int))),(54,.val (.func (.method "pith/lzenc.bit") #[.iface T rv] #[])),(55,.val (.func (.method "pith/lzenc.bit") #[.iface T rv] #[])),(56,.val (.iface T rv))] slot).holds vv ww) (fun _=>undef) rfl (by kernel_rfl) 13 _ rfl rfl (by kernel_rfl) ?_ (fun _ v w w' hc h=>Fact.stays _ v w w' hc h) ?_ ?_
 ·repeat (refine⟨⟨_,rfl,fun _ _=>rfl⟩,?_⟩)
  exact trivial
 ·refine⟨?_,?_,?_,?_,?_,?_,?_,?_,?_,?_,?_,?_,?_,trivial⟩
  ·intro u w_ hc hd K hK
   clear hd
   go_simp
   exact hK.out _ _ (Chg.refl _ _) rfl
  ·intro u w_ hc hd K hK
   clear hd
   go_simp
   exact hK.out _ _ (Chg.refl _ _) rfl
  ·intro u w_ hc hd K hK
   have h45:(Fact.val (.pointer (some ⟨a,0,none⟩))).holds (u 45) w_:=hd.get 1 (by kernel_rfl)
   simp only [Fact.holds]at h45
   clear hd
   simp only [h45]at hK
   go_simp
   exact hK.out _ _ (Chg.refl _ _) rfl
  ·intro u w_ hc hd K hK
   have h46:(Fact.val (.pointer (some ⟨a,0,none⟩))).holds (u 46) w_:=hd.get 2 (by kernel_rfl)
   simp only [Fact.holds]at h46
   clear hd
   simp only [h46]at hK
   go_simp
   exact hK.out _ _ (Chg.refl _ _) rfl
  ·intro u w_ hc hd K hK
   have h47:(Fact.val (.pointer (some ⟨a,0,none⟩))).holds (u 47) w_:=hd.get 3 (by kernel_rfl)
   simp only [Fact.holds]at h47
   clear hd
   simp only [h47]at hK
   go_simp
   exact hK.out _ _ (Chg.refl _ _) rfl
  ·intro u w_ hc hd K hK
   have h48:(Fact.val (.pointer (some ⟨a,3,none⟩))).holds (u 48) w_:=hd.get 4 (by kernel_rfl)
   simp only [Fact.holds]at h48
   clear hd
   simp only [h48]at hK
   have hcell:=cell_chg xl hc
   go_simp
   exact hK.out _ _ (Chg.refl _ _) rfl
  ·intro u w_ hc hd K hK
   clear hd
   go_simp
   exact hK.out _ _ (Chg.refl _ _) rfl
  ·intro u w_ hc hd K hK
   have h49:(Fact.val (.slice (some ⟨gl,0,none⟩) 12 kl)).holds (u 49) w_:=hd.get 5 (by kernel_rfl)
   simp only [Fact.holds]at h49
   have h50:(Fact.val (.int .i64 (n:Int))).holds (u 50) w_:=hd.get 6 (by kernel_rfl)
   simp only [Fact.holds]at h50
   clear hd
   simp only [h49,h50]at hK
   go_simp
   exact hK.out _ _ (Chg.refl _ _) rfl
  ·intro u w_ hc hd K hK
   have h51:(Fact.val (.pointer (some ⟨gl,n,none⟩))).holds (u 51) w_:=hd.get 7 (by kernel_rfl)
   simp only [Fact.holds]at h51
   clear hd
   simp only [h51]at hK
   have hcell:=cell_chg cl hc
   go_simp
   exact hK.out _ _ (Chg.refl _ _) rfl
  ·intro u w_ hc hd K hK
   clear hd
   go_simp
   exact hK.out _ _ (Chg.refl _ _) rfl
  ·intro u w_ hc hd K hK
   have h44:(Fact.val (.iface T rv)).holds (u 44) w_:=hd.get 0 (by kernel_rfl)
   simp only [Fact.holds]at h44
   clear hd
   simp only [h44]at hK
   go_simp
   exact hK.out _ _ (Chg.refl _ _) rfl
  ·intro u w_ hc hd K hK
   have h54:(Fact.val (.func (.method "pith/lzenc.bit") #[.iface T rv] #[])).holds (u 54) w_:=hd.get 10 (by kernel_rfl)
   simp only [Fact.holds]at h54
   clear hd
   simp only [h54]at hK
   go_simp
   exact hK.out _ _ (Chg.refl _ _) rfl
  ·intro u w_ hc hd K hK
   have h44:(Fact.val (.iface T rv)).holds (u 44) w_:=hd.get 0 (by kernel_rfl)
   simp only [Fact.holds]at h44
   clear hd
   simp only [h44]at hK
   go_simp
   exact hK.out _ _ (Chg.refl _ _) rfl
 ·intro u w_ hc hA K hK
  have e56:u 56=(.iface T rv):=hA.at 56 (by kernel_rfl)
  have e52:u 52=(.pointer (some ⟨(D 0 n).1,0,none⟩)):=hA.at 52 (by kernel_rfl)
  have e53:u 53=(.int .i64 (ps:Int)):=hA.at 53 (by kernel_rfl)
  clear hA
  simp only [e56,e52,e53]at hK⊢
  go_simp
  refine Calls.mono (P.bit [] w_ 0 n ps 1 (P.new h1 hc) (by omega) hn12 HPS.out (by omega) (by simp)) ?_
  rintro z w3 ⟨rfl,h3⟩
  clear hc
  refine hK.out _ _ ?_
  clear hK z0 z1 z2 z3
  have hbx:=h3.box
  obtain⟨z0,z1,z2,z3⟩:=cells4y hbx
  clear hbx
  clear xl cl
  go_upto_region 15 with fail
  obtain⟨ve9,c9,hle⟩:=P.le h3
  have xr:w3.cell? ⟨a,5,none⟩=some (.pointer (some ⟨(D 2 0).1,0,none⟩)):=hle.cell 5 _ rfl
  clear hle
  refine wp_region_last (mk:=fun u=> #[_,_,_,_,_,_,_,_,_,_,_,_,_,_,_,_,_,_,_,_,_,_,_,_,_,_,_,_,_,_,_,_,_,_,_,_,_,_,_,_,_,_,_,_,_,_,_,_,_,_,_,_,_,_,_,_,_,_,_,_,_,_,_,_,_,_,_,_,_,_,_,_,_,_,_,_,_,_,_,_,_,_,_,_,_,_,_,_,_,_,_,_,_,_,_,_,_,_,_,_,_,_,_,_,_,_,_,_,_,u 109,u 110,u 111,u 112,u 113,u 114,u 115,u 116,u 117,u 118,_,_,_,_,_,_,_,_,_,_,_,_,_,_,_,_,_]) (F:=fun slot vv ww=>(look [(109,.val (.iface T rv)),(110,.val (.pointer (some ⟨a,0,none⟩))),(111,.val (.pointer (some ⟨a,0,none⟩))),(112,.val (.pointer (some ⟨a,0,none⟩))),(113,.val (.pointer (some ⟨a,5,none⟩))),(114,.val (.pointer (some ⟨(D 2 0).1,0,none⟩))),(115,.val (.int .i64 (n:Int))),(116,.val (.func (.method "pith/lzenc.bit") #[.iface T rv] #[])),(117,.val (.func (.method "pith/lzenc.bit") #[.iface T rv] #[])),(118,.val (.iface T rv))] slot).holds vv ww) (fun _=>undef) rfl (by kernel_rfl) 10 _ rfl rfl (by kernel_rfl) ?_ (fun _ v w w' hc h=>Fact.stays _ v w w' hc h) ?_ ?_
  ·repeat (refine⟨⟨_,rfl,fun _ _=>rfl⟩,?_⟩)
   exact trivial
  ·refine⟨?_,?_,?_,?_,?_,?_,?_,?_,?_,?_,trivial⟩
   ·intro u w_ hc hd K hK
    clear hd
    go_simp
    exact hK.out _ _ (Chg.refl _ _) rfl
   ·intro u w_ hc hd K hK
    clear hd
    go_simp
    exact hK.out _ _ (Chg.refl _ _) rfl
   ·intro u w_ hc hd K hK
    have h110:(Fact.val (.pointer (some ⟨a,0,none⟩))).holds (u 110) w_:=hd.get 1 (by kernel_rfl)
    simp only [Fact.holds]at h110
    clear hd
    simp only [h110]at hK
    go_simp
    exact hK.out _ _ (Chg.refl _ _) rfl
   ·intro u w_ hc hd K hK
    have h111:(Fact.val (.pointer (some ⟨a,0,none⟩))).holds (u 111) w_:=hd.get 2 (by kernel_rfl)
    simp only [Fact.holds]at h111
    clear hd
    simp only [h111]at hK
    go_simp
    exact hK.out _ _ (Chg.refl _ _) rfl
   ·intro u w_ hc hd K hK
    have h112:(Fact.val (.pointer (some ⟨a,0,none⟩))).holds (u 112) w_:=hd.get 3 (by kernel_rfl)
    simp only [Fact.holds]at h112
    clear hd
    simp only [h112]at hK
    go_simp
    exact hK.out _ _ (Chg.refl _ _) rfl
   ·intro u w_ hc hd K hK
    have h113:(Fact.val (.pointer (some ⟨a,5,none⟩))).holds (u 113) w_:=hd.get 4 (by kernel_rfl)
    simp only [Fact.holds]at h113
    clear hd
    simp only [h113]at hK
    have hcell:=cell_chg xr hc
    go_simp
    exact hK.out _ _ (Chg.refl _ _) rfl
   ·intro u w_ hc hd K hK
    clear hd
    go_simp
    exact hK.out _ _ (Chg.refl _ _) rfl
   ·intro u w_ hc hd K hK
    have h109:(Fact.val (.iface T rv)).holds (u 109) w_:=hd.get 0 (by kernel_rfl)
    simp only [Fact.holds]at h109
    clear hd
    simp only [h109]at hK
    go_simp
    exact hK.out _ _ (Chg.refl _ _) rfl
   ·intro u w_ hc hd K hK
    have h116:(Fact.val (.func (.method "pith/lzenc.bit") #[.iface T rv] #[])).holds (u 116) w_:=hd.get 7 (by kernel_rfl)
    simp only [Fact.holds]at h116
    clear hd
    simp only [h116]at hK
    go_simp
    exact hK.out _ _ (Chg.refl _ _) rfl
   ·intro u w_ hc hd K hK
    have h109:(Fact.val (.iface T rv)).holds (u 109) w_:=hd.get 0 (by kernel_rfl)
    simp only [Fact.holds]at h109
    clear hd
    simp only [h109]at hK
    go_simp
    exact hK.out _ _ (Chg.refl _ _) rfl
  ·intro u w_ hc hA K hK
   have e118:u 118=(.iface T rv):=hA.at 118 (by kernel_rfl)
   have e114:u 114=(.pointer (some ⟨(D 2 0).1,0,none⟩)):=hA.at 114 (by kernel_rfl)
   have e115:u 115=(.int .i64 (n:Int)):=hA.at 115 (by kernel_rfl)
   clear hA
   simp only [e118,e114,e115]at hK⊢
   go_simp
   refine Calls.mono (P.bit _ w_ 2 0 n 1 (P.new h3 hc) (by omega) (by show 0<1;omega) hn12 (by omega) (by simp)) ?_
   rintro z w4 ⟨rfl,h4⟩
   clear hc
   refine hK.out _ _ ?_
   clear hK z0 z1 z2 z3
   have hbx:=h4.box
   obtain⟨z0,z1,z2,z3⟩:=cells4y hbx
   clear hbx
   clear xr
   go_wp2_with fail
   refine Calls.mono (which3 P _ w4 h4 n ps hn12 HPS.out (by simp)) ?_
   rintro z w5 ⟨rfl,h5⟩
   clear z0 z1 z2 z3
   have hbx:=h5.box
   obtain⟨z0,z1,z2,z3⟩:=cells4y hbx
   clear hbx
   go_upto_region 17 with fail
   refine wp_region_last (mk:=fun u=> #[_,_,_,_,_,_,_,_,_,_,_,_,_,_,_,_,_,_,_,_,_,_,_,_,_,_,_,_,_,_,_,_,_,_,_,_,_,_,_,_,_,_,_,_,_,_,_,_,_,_,_,_,_,_,_,_,_,_,_,_,_,_,_,_,_,_,_,_,_,_,_,_,_,_,_,_,_,_,_,_,_,_,_,_,_,_,_,_,_,_,_,_,_,_,_,_,_,_,_,_,_,_,_,_,_,_,_,_,_,_,_,_,_,_,_,_,_,_,_,_,_,_,_,_,_,_,_,u 127,u 128,u 129,u 130,u 131,u 132,u 133,u 134,_]) (F:=fun slot vv ww=>(look [(127,.val (.iface T rv)),(128,.val (.pointer (some ⟨a,0,none⟩))),(129,.val (.pointer (some ⟨a,0,none⟩))),(130,.val (.pointer (some ⟨a,0,none⟩))),(131,.val (.pointer (some ⟨a,14,none⟩))),(132,.val (.int .i64 (ps:Int))),(133,.val (.pointer (some ⟨bx,2,none⟩))),(134,.val (.int .i64 ((x:Int)+2)))] slot).holds vv ww) (fun _=>undef) rfl (by kernel_rfl) 8 _ rfl rfl (by kernel_rfl) ?_ (fun _ v w w' hc h=>Fact.stays _ v w w' hc h) ?_ ?_
   ·repeat (refine⟨⟨_,rfl,fun _ _=>rfl⟩,?_⟩)
    exact trivial
   ·refine⟨?_,?_,?_,?_,?_,?_,?_,?_,trivial⟩
    ·intro u w_ hc hd K hK
     clear hd
     go_simp
     exact hK.out _ _ (Chg.refl _ _) rfl
    ·intro u w_ hc hd K hK
     clear hd
     go_simp
     exact hK.out _ _ (Chg.refl _ _) rfl
    ·intro u w_ hc hd K hK
     have h128:(Fact.val (.pointer (some ⟨a,0,none⟩))).holds (u 128) w_:=hd.get 1 (by kernel_rfl)
     simp only [Fact.holds]at h128
     clear hd
     simp only [h128]at hK
     go_simp
     exact hK.out _ _ (Chg.refl _ _) rfl
    ·intro u w_ hc hd K hK
     have h129:(Fact.val (.pointer (some ⟨a,0,none⟩))).holds (u 129) w_:=hd.get 2 (by kernel_rfl)
     simp only [Fact.holds]at h129
     clear hd
     simp only [h129]at hK
     go_simp
     exact hK.out _ _ (Chg.refl _ _) rfl
    ·intro u w_ hc hd K hK
     have h130:(Fact.val (.pointer (some ⟨a,0,none⟩))).holds (u 130) w_:=hd.get 3 (by kernel_rfl)
     simp only [Fact.holds]at h130
     clear hd
     simp only [h130]at hK
     go_simp
     exact hK.out _ _ (Chg.refl _ _) rfl
    ·intro u w_ hc hd K hK
     clear hd
     go_simp
     exact hK.out _ _ (Chg.refl _ _) rfl
    ·intro u w_ hc hd K hK
     clear hd
     go_simp
     exact hK.out _ _ (Chg.refl _ _) rfl
    ·intro u w_ hc hd K hK
     have h133:(Fact.val (.pointer (some ⟨bx,2,none⟩))).holds (u 133) w_:=hd.get 6 (by kernel_rfl)
     simp only [Fact.holds]at h133
     clear hd
     simp only [h133]at hK
     have hcell:=cell_chg z2 hc
     go_simp
     exact hK.out _ _ (Chg.refl _ _) rfl
   ·intro u w_ hc hA K hK
    have e127:u 127=(.iface T rv):=hA.at 127 (by kernel_rfl)
    have e131:u 131=(.pointer (some ⟨a,14,none⟩)):=hA.at 131 (by kernel_rfl)
    have e132:u 132=(.int .i64 (ps:Int)):=hA.at 132 (by kernel_rfl)
    have e134:u 134=(.int .i64 ((x:Int)+2)):=hA.at 134 (by kernel_rfl)
    clear hA
    simp only [e127,e131,e132,e134]at hK⊢
    go_simp
    refine Calls.mono (len1_any P _ w_ (P.new h5 hc) ps HPS.out (by simp) x hx) ?_
    rintro z w6 ⟨rfl,h6⟩
    clear hc
    refine hK.out _ _ ?_
    clear hK z0 z1 z2 z3
    go_wp2
    first|go_end0|(refine bodyPost_ret (results_none rfl _ _ _) rfl ?_)
    refine⟨rfl,?_⟩
    have e:symB X ⟨3,yb,(x:Int)+2,3⟩=⟨some (nIsMatch n ps),0,1⟩::⟨some (nIsRep n),0,1⟩::([⟨some (nIsRep0 n),0,1⟩,⟨some (nIsRep1 n),0,1⟩,⟨some (nIsRep2 n),0,1⟩]++lenB 1 ps (x+2)):=by
     unfold symB
     rw [if_neg (by simp),if_neg (by simp),if_neg (by simp),HNN.out,HPA.out]
     simp only [show((x:Int)+2).toNat=x+2 by omega]
     simp [repB]
    rw [e]
    have h7:=h6.pen
    simp only [List.nil_append,List.append_assoc,List.cons_append]at h7
    exact h7
end Go.Proofs.YthideplpcnhncaaGreatDoor
