/- Of no statement by itself: Vg, Vb, Vc (without blanks and remarks). -/
import Derived.Test.YthideplpcnhncaaGreatDoorB8Ja
import Derived.Laws.MathBits
import Derived.Laws.IdiomStrings
import Derived.Laws.BitsAllLaws
import Derived.Deep.DeepCutAuto
namespace Go.Proofs.YthideplpcnhncaaGreatDoor
open Go.RowKit
open St12
set_option linter.unusedVariables false
set_option linter.unusedSimpArgs false
def lenTab:ByteArray:=⟨#[0,1,2,2,3,3,3,3,4,4,4,4,4,4,4,4,5,5,5,5,5,5,5,5,5,5,5,5,5,5,5,5,6,6,6,6,6,6,6,6,6,6,6,6,6,6,6,6,6,6,6,6,6,6,6,6,6,6,6,6,6,6,6,6,7,7,7,7,7,7,7,7,7,7,7,7,7,7,7,7,7,7,7,7,7,7,7,7,7,7,7,7,7,7,7,7,7,7,7,7,7,7,7,7,7,7,7,7,7,7,7,7,7,7,7,7,7,7,7,7,7,7,7,7,7,7,7,7,8,8,8,8,8,8,8,8,8,8,8,8,8,8,8,8,8,8,8,8,8,8,8,8,8,8,8,8,8,8,8,8,8,8,8,8,8,8,8,8,8,8,8,8,8,8,8,8,8,8,8,8,8,8,8,8,8,8,8,8,8,8,8,8,8,8,8,8,8,8,8,8,8,8,8,8,8,8,8,8,8,8,8,8,8,8,8,8,8,8,8,8,8,8,8,8,8,8,8,8,8,8,8,8,8,8,8,8,8,8,8,8,8,8,8,8,8,8,8,8,8,8,8,8,8,8,8,8]⟩
theorem run_len8 (y:Int)(h0:0≤y)(h1:y<256)(L:Int)(hL:L=(bitLen y.toNat:Int))(w:World):(Instr.index 9 (.string lenTab) (.int .u8 y)).run Tryz.prog w= .ok (.int .u8 L) w:=by
 have hsz:lenTab.size=256:=by decide+kernel
 have hlt:y.toNat<lenTab.size:=by omega
 rw [run_index_string w 9 lenTab .u8 y Tryz.underlying9,dif_pos ⟨h0,by omega⟩,hL]
 have:=len8tab_get y.toNat hlt
 congr 3
set_option maxHeartbeats 2000000 in
set_option maxRecDepth 100000 in
theorem len64_any (x:Int)(hx0:0≤x)(hx:x<4294967296)(w:World):Calls Tryz.prog 177 #[.int .u64 x] w fun e w'=>e= .returned (.int .i64 (bitLen x.toNat:Int))∧w'=w:=by
 obtain⟨N,hN⟩: ∃N,(bitLen x.toNat:Int)=N:=⟨_,rfl⟩
 have HN:Hid _:=hN
 rw [hN]
 clear hN
 go_enter Tryz.func177,Tryz.ntmps177
 conv in(ByteArray.mk _)=>change lenTab
 have d0:decide (4294967296≤x)=false:=decide_eq_false (by omega)
 by_cases h1:65536≤x
 ·have d1:decide (65536≤x)=true:=decide_eq_true h1
  obtain⟨z,hz⟩: ∃z,x/65536=z:=⟨_,rfl⟩
  have hz0:1≤z:=by omega
  have hz1:z<65536:=by omega
  by_cases h2:256≤z
  ·have d2:decide (256≤z)=true:=decide_eq_true h2
   obtain⟨y,hy⟩: ∃y,z/256=y:=⟨_,rfl⟩
   have hy0:1≤y:=by omega
   have hy1:y<256:=by omega
   obtain⟨L,hL⟩: ∃L:Int,L=(bitLen (y).toNat:Int):=⟨_,rfl⟩
   have hl8:=bitLen_le8 (y).toNat (by omega)
   have hL8:L≤8:=by omega
   have hL0:0≤L:=by omega
   have hix: ∀ww:World,(Instr.index 9 (.string lenTab) (.int .u8 (y))).run Tryz.prog ww= .ok (.int .u8 L) ww:=fun ww=>run_len8 (y) (by omega) (by omega) L hL ww
   have HE:Hid (N=24+L):=by
    show _=_
    rw [←HN.out,hL,bitLen_shift x.toNat 24 (by omega),show x.toNat/2^24=(y).toNat by omega];simp
   clear hL hl8 HN
   go_wp2
   go_ret
   exact⟨by rw [HE.out];rfl,rfl⟩
  ·have d2:decide (256≤z)=false:=decide_eq_false h2
   have hz2:z<256:=by omega
   obtain⟨L,hL⟩: ∃L:Int,L=(bitLen (z).toNat:Int):=⟨_,rfl⟩
   have hl8:=bitLen_le8 (z).toNat (by omega)
   have hL8:L≤8:=by omega
   have hL0:0≤L:=by omega
   have hix: ∀ww:World,(Instr.index 9 (.string lenTab) (.int .u8 (z))).run Tryz.prog ww= .ok (.int .u8 L) ww:=fun ww=>run_len8 (z) (by omega) (by omega) L hL ww
   have HE:Hid (N=16+L):=by
    show _=_
    rw [←HN.out,hL,bitLen_shift x.toNat 16 (by omega),show x.toNat/2^16=(z).toNat by omega];simp
   clear hL hl8 HN
   go_wp2
   go_ret
   exact⟨by rw [HE.out];rfl,rfl⟩
 ·have d1:decide (65536≤x)=false:=decide_eq_false (by omega)
  have hX1:x<65536:=by omega
  by_cases h2:256≤x
  ·have d2:decide (256≤x)=true:=decide_eq_true (by omega)
   obtain⟨y,hy⟩: ∃y,x/256=y:=⟨_,rfl⟩
   have hy0:1≤y:=by omega
   have hy1:y<256:=by omega
   obtain⟨L,hL⟩: ∃L:Int,L=(bitLen (y).toNat:Int):=⟨_,rfl⟩
   have hl8:=bitLen_le8 (y).toNat (by omega)
   have hL8:L≤8:=by omega
   have hL0:0≤L:=by omega
   have hix: ∀ww:World,(Instr.index 9 (.string lenTab) (.int .u8 (y))).run Tryz.prog ww= .ok (.int .u8 L) ww:=fun ww=>run_len8 (y) (by omega) (by omega) L hL ww
   have HE:Hid (N=8+L):=by
    show _=_
    rw [←HN.out,hL,bitLen_shift x.toNat 8 (by omega),show x.toNat/2^8=(y).toNat by omega];simp
   clear hL hl8 HN
   go_wp2
   go_ret
   exact⟨by rw [HE.out];rfl,rfl⟩
  ·have d2:decide (256≤x)=false:=decide_eq_false h2
   have hx2:x<256:=by omega
   obtain⟨L,hL⟩: ∃L:Int,L=(bitLen (x).toNat:Int):=⟨_,rfl⟩
   have hl8:=bitLen_le8 (x).toNat (by omega)
   have hL8:L≤8:=by omega
   have hL0:0≤L:=by omega
   have hix: ∀ww:World,(Instr.index 9 (.string lenTab) (.int .u8 (x))).run Tryz.prog ww= .ok (.int .u8 L) ww:=fun ww=>run_len8 (x) (by omega) (by omega) L hL ww
   have HE:Hid (N=0+L):=by
    show _=_
    rw [←HN.out,hL,Int.zero_add]
   clear hL hl8 HN
   go_wp2
   go_ret
   exact⟨by rw [HE.out,Int.zero_add];rfl,rfl⟩
theorem len_any (x:Int)(hx0:0≤x)(hx:x<4294967296)(w:World):Calls Tryz.prog 170 #[.int .u64 x] w fun e w'=>e= .returned (.int .i64 (bitLen x.toNat:Int))∧w'=w:=by
 have HL:Hid _:=len64_any x hx0 hx w
 obtain⟨N,hN⟩: ∃N,(bitLen x.toNat:Int)=N:=⟨_,rfl⟩
 rw [hN]at HL⊢
 clear hN
 go_enter Tryz.func170,Tryz.ntmps170
 go_wp2_with fail
 refine Calls.mono HL.out ?_
 rintro z w1 ⟨rfl,rfl⟩
 clear HL
 go_wp2
 go_ret
 exact⟨rfl,rfl⟩
theorem and_1 (n:Int):bits .and .i64 n 1=n% 2:=by
 have h1:(BitVec.ofInt 64 1).toNat=2^1-1:=by decide
 have key:(BitVec.ofInt 64 n&&&BitVec.ofInt 64 1).toNat=(n% ((2^64:Nat):Int)).toNat% 2^1:=by
  rw [BitVec.toNat_and,BitVec.toNat_ofInt,h1,Nat.and_two_pow_sub_one_eq_mod]
 show IntKind.i64.wrap ((BitVec.ofInt 64 n&&&BitVec.ofInt 64 1).toNat:Nat)=n% 2
 rw [key,IntKind.wrap_i64]
 omega
theorem shr_nat (m i:Nat):((m:Int)/2^i)=((m/2^i:Nat):Int):=by simp
set_option maxHeartbeats 1000000 in
set_option maxRecDepth 100000 in
theorem slotof_q (x:Nat)(hx:x<4294967295)(w:World):Calls Tryz.prog 154 #[.int .i64 (x:Int)] w fun e w'=>e= .returned (.int .i64 (slotN (x+1):Int))∧w'=w:=by
 have hxi:(x:Int)<4294967295:=by omega
 obtain⟨R,hR⟩: ∃R,slotN (x+1)=R:=⟨_,rfl⟩
 have HR:Hid (slotN (x+1)=R):=hR
 rw [hR]
 clear hR
 by_cases h4:x<4
 ·have d2:decide ((x:Int)<4)=true:=by simp;omega
  have d2':decide (x<4)=true:=decide_eq_true h4
  have HS:Hid (R=x):=by rw [←HR.out];exact slot_small h4
  clear hx
  go_enter Tryz.func154,Tryz.ntmps154
  go_wp2
  go_ret
  exact⟨by rw [HS.out];rfl,rfl⟩
 have d2:decide ((x:Int)<4)=false:=by simp;omega
 have d2':decide (x<4)=false:=decide_eq_false h4
 obtain⟨K,hK2,hK31,hlo,hup⟩:=digits (x:=x) (by omega) (by omega)
 have hlog:bitLen x=K+1:=by
  unfold bitLen
  rw [if_neg (by omega),(Nat.log2_eq_iff (by omega)).2 ⟨hlo,hup⟩]
 obtain⟨k1,hk1⟩: ∃k1,K=k1+1:=⟨K-1,by omega⟩
 obtain⟨D,hD⟩: ∃D,K+1=D:=⟨_,rfl⟩
 have hLen:Hid (∀ww,Calls Tryz.prog 170 #[.int .u64 (x:Int)] ww fun e w'=>e= .returned (.int .i64 (D:Int))∧w'=ww):=fun ww=>by
  have:=len_any (x:Int) (by omega) (by omega) ww
  rw [Int.toNat_natCast,hlog,hD]at this
  exact this
 have HS:Hid (R=2*K+x/2^k1% 2):=by
  have:=slot_shift hK2 hK31 hlo hup
  rw [Nat.shiftRight_eq_div_pow,Nat.and_one_is_mod,HR.out,show K-1=k1 by omega]at this
  exact this
 have hD1:(D:Int)-1=(K:Int):=by omega
 have hD2:(D:Int)-2=(k1:Int):=by omega
 have hDi:(D:Int)≤32:=by omega
 have hKi:(K:Int)≤31:=by omega
 have hk1i:(k1:Int)≤30:=by omega
 have hsh1:=shr_nat x k1
 obtain⟨r,hr⟩: ∃r,x/2^k1=r:=⟨_,rfl⟩
 rw [hr]at hsh1 HS
 have hand:bits .and .i64 (r:Int) 1=((r% 2:Nat):Int):=by rw [and_1];omega
 obtain⟨c2,hc2⟩: ∃c2,r% 2=c2:=⟨_,rfl⟩
 have hcl:(c2:Int)<2:=by omega
 rw [hc2]at hand HS
 clear hc2 hr hlog hlo hup hk1 hD hx HR
 go_enter Tryz.func154,Tryz.ntmps154
 go_wp2_with fail
 refine(hLen.out _).mono ?_
 rintro z w1 ⟨rfl,rfl⟩
 go_wp2
 go_ret
 exact⟨by rw [HS.out];simp,rfl⟩
set_option maxHeartbeats 1000000 in
theorem tslot_q (d:Int)(hd:I64 d)(w:World):Calls Tryz.prog 123 #[.int .i64 d] w fun e w'=>e= .returned (.tuple #[.int .i64 (slotA d).1,.int .i64 (slotA d).2])∧Chg (fun _=>False) w w':=by
 have HC:Hid (Chg (fun _=>False) w w):=Chg.refl _ _
 have HD:Hid (Calls Tryz.prog 151 #[.int .i64 d] w fun e w'=>e= .returned (.bool (decide (okR d)))∧w'=w):=isdist_q d w
 by_cases h0:okR d
 ·rw [decide_eq_true h0]at HD
  obtain⟨h1,h2⟩:=h0
  obtain⟨x,hx⟩: ∃x:Nat,d-1=(x:Int):=⟨(d-1).toNat,by omega⟩
  have HF:Hid (slotA d=((slotN (x+1):Int),0)):=by show slotA d=_;unfold slotA;rw [if_pos (by omega),show d.toNat=x+1 by omega]
  have HQ:Hid _:=slotof_q x (by omega) w
  go_enter Tryz.func123,Tryz.ntmps123
  go_wp2_with fail
  refine Calls.mono HD.out ?_
  rintro z w1 ⟨rfl,rfl⟩
  go_wp2_with fail
  refine Calls.mono HQ.out ?_
  rintro z w1 ⟨rfl,rfl⟩
  go_wp2
  go_ret2
  exact⟨by rw [HF.out];rfl,HC.out⟩
 ·rw [decide_eq_false h0]at HD
  have HF:Hid (slotA d=(0,7)):=by show slotA d=_;unfold slotA;rw [if_neg (show¬(1≤d∧d≤4294967295)from h0)]
  clear h0
  go_enter Tryz.func123,Tryz.ntmps123
  go_wp2_with fail
  refine Calls.mono HD.out ?_
  rintro z w1 ⟨rfl,rfl⟩
  go_wp2
  go_ret2
  exact⟨by rw [HF.out];rfl,HC.out⟩
end Go.Proofs.YthideplpcnhncaaGreatDoor
namespace Go.Proofs.YthideplpcnhncaaGreatDoor
open Go.RowKit
open St12
set_option linter.unusedVariables false
set_option linter.unusedSimpArgs false
set_option maxHeartbeats 2000000 in
theorem tright_q (s:Stt)(hs:s.I)(w:World):Calls Tryz.prog 114 #[stv s] w fun e w'=>e= .returned (.bool (decide (right s)))∧Chg (fun _=>False) w w':=by
 have cB:=chg_one w (.cells #[.int .i64 s.n,.int .i64 s.a,.int .i64 s.b,.int .i64 s.c,.int .i64 s.d] 88)
 obtain⟨k0,k1,k2,k3,k4⟩:=cells5 (heap_alloc_last w (.cells #[.int .i64 s.n,.int .i64 s.a,.int .i64 s.b,.int .i64 s.c,.int .i64 s.d] 88))
 have HC:Hid _:=cB
 have HD:Hid (∀d w,Calls Tryz.prog 151 #[.int .i64 d] w fun e w'=>e= .returned (.bool (decide (okR d)))∧w'=w):=isdist_q
 clear cB
 unfold stv
 go_enter Tryz.func114,Tryz.ntmps114
 go_wp2_with fail
 have HK0:Hid _:=k0
 generalize w.alloc (.cells #[.int .i64 s.n,.int .i64 s.a,.int .i64 s.b,.int .i64 s.c,.int .i64 s.d] 88)=W at*
 clear k0 k1 k2 k3 k4
 go_loopw [7] (fun v wr=> ∃i:Nat,i≤4∧v= .int .i64 (i:Int)∧wr=W∧Hid (∀j,j<i→okR (repI s j))) (fun v _=>4-(intOf v).toNat)
 case atStart=>exact⟨0,by omega,rfl,rfl,fun j hj=>by omega⟩
 case round=>
  obtain⟨i,hi,rfl,rfl,HI⟩:=hrel
  have hii:(i:Int)≤4:=by omega
  by_cases h4:i<4
  ·have hd:decide ((i:Int)<4)=true:=by simp;omega
   have hd':decide (i<4)=true:=decide_eq_true h4
   obtain⟨r,hr⟩: ∃r,repI s i=r:=⟨_,rfl⟩
   have HR:Hid (repI s i=r):=hr
   have hix: ∀ww:World,(Instr.index 48 (.agg #[.int .i64 s.a,.int .i64 s.b,.int .i64 s.c,.int .i64 s.d]) (.int .i64 (i:Int))).run Tryz.prog ww= .ok (.int .i64 r) ww:=fun ww=>by
    rw [←hr]
    rcases i with _|_|_|_|i
    ·kernel_rfl
    ·kernel_rfl
    ·kernel_rfl
    ·kernel_rfl
    ·omega
   clear hr
   go_wp2_with fail
   refine(HD.out r _).mono ?_
   rintro z w1 ⟨rfl,rfl⟩
   by_cases c1:okR r
   ·rw [decide_eq_true c1]
    have HN:Hid (∀j,j<i+1→okR (repI s j)):=fun j hj=>by
     by_cases e:j=i
     ·subst e;rw [HR.out];exact c1
     ·exact HI.out j (by omega)
    clear c1
    go_wp2_with fail
    exact⟨⟨i+1,by omega,by go_num,trivial,HN.out⟩,by simp [intOf];omega⟩
   ·rw [decide_eq_false c1]
    have HF:Hid (decide (right s)=false):=decide_eq_false (fun h=>by
     have:=((right_iff s).1 h).2 i h4
     rw [HR.out]at this
     exact c1 this)
    clear c1
    go_wp2
    go_ret
    exact⟨by rw [HF.out];rfl,HC.out⟩
  ·have hd:decide ((i:Int)<4)=false:=by simp;omega
   have hd':decide (i<4)=false:=decide_eq_false h4
   have HA:Hid (∀j,j<4→okR (repI s j)):=fun j hj=>HI.out j (by omega)
   have k0:=HK0.out
   by_cases c1:0≤s.n
   ·have d1:decide (0≤s.n)=true:=decide_eq_true c1
    have HF:Hid (decide (right s)=decide (s.n<12)):=decide_eq_decide.2 ⟨fun h=>by have:=((right_iff s).1 h).1.2;omega,fun h=>(right_iff s).2 ⟨⟨c1,by omega⟩,HA.out⟩⟩
    go_wp2
    go_ret
    exact⟨by rw [HF.out];rfl,HC.out⟩
   ·have d1:decide (0≤s.n)=false:=decide_eq_false c1
    have HF:Hid (decide (right s)=false):=decide_eq_false (fun h=>c1 ((right_iff s).1 h).1.1)
    go_wp2
    go_ret
    exact⟨by rw [HF.out];rfl,HC.out⟩
end Go.Proofs.YthideplpcnhncaaGreatDoor
namespace Go.Proofs.YthideplpcnhncaaGreatDoor
open Go.RowKit
open St12
set_option linter.unusedVariables false
set_option linter.unusedSimpArgs false
def fmd (y:Sym):Bool:=if y.k=2 then decide ((2≤y.l∧y.l≤273)∧okR y.d)else if y.k=3 then decide ((2≤y.l∧y.l≤273)∧0≤y.d∧y.d≤3)else true
theorem cells4z {w:World}{a:Nat}{x y z u:Value}{t:TypeId}(h:w.heap[a]?=some (.cells #[x,y,z,u] t (0,0))):w.cell? ⟨a,0,none⟩=some x∧w.cell? ⟨a,1,none⟩=some y∧w.cell? ⟨a,2,none⟩=some z∧w.cell? ⟨a,3,none⟩=some u:=
 ⟨by simp [World.cell?,h],by simp [World.cell?,h],by simp [World.cell?,h],by simp [World.cell?,h]⟩
set_option maxHeartbeats 2000000 in
theorem tformed_q (k yb yl yd:Int)(w:World):Calls Tryz.prog 116 #[.agg #[.int .i64 k,.int .u8 yb,.int .i64 yl,.int .i64 yd]] w fun e w'=>e= .returned (.bool (fmd ⟨k,yb,yl,yd⟩))∧Chg (fun _=>False) w w':=by
 have cB:=chg_one w (.cells #[.int .i64 k,.int .u8 yb,.int .i64 yl,.int .i64 yd] 34)
 obtain⟨k0,k1,k2,k3⟩:=cells4z (heap_alloc_last w (.cells #[.int .i64 k,.int .u8 yb,.int .i64 yl,.int .i64 yd] 34))
 have HC:Hid _:=cB
 have HD:Hid (∀d w,Calls Tryz.prog 151 #[.int .i64 d] w fun e w'=>e= .returned (.bool (decide (okR d)))∧w'=w):=isdist_q
 have HL:Hid (∀d w,Calls Tryz.prog 152 #[.int .i64 d] w fun e w'=>e= .returned (.bool (decide (2≤d∧d≤273)))∧w'=w):=islen_q
 clear cB
 by_cases h2:k=2
 ·subst h2
  have HF:Hid (fmd ⟨2,yb,yl,yd⟩=decide ((2≤yl∧yl≤273)∧okR yd)):=rfl
  go_enter Tryz.func116,Tryz.ntmps116
  go_wp2_with fail
  generalize w.alloc (.cells #[.int .i64 2,.int .u8 yb,.int .i64 yl,.int .i64 yd] 34)=W at*
  refine(HL.out yl _).mono ?_
  rintro z w1 ⟨rfl,rfl⟩
  by_cases t:2≤yl∧yl≤273
  ·rw [decide_eq_true t]
   have HG:Hid (fmd ⟨2,yb,yl,yd⟩=decide (okR yd)):=HF.out.trans (by simp [t])
   clear t HF
   go_wp2_with fail
   refine(HD.out yd _).mono ?_
   rintro z w1 ⟨rfl,rfl⟩
   go_wp2
   go_ret
   exact⟨by rw [HG.out];rfl,HC.out⟩
  ·rw [decide_eq_false t]
   have HG:Hid (fmd ⟨2,yb,yl,yd⟩=false):=HF.out.trans (decide_eq_false (fun h=>t h.1))
   clear t HF
   go_wp2
   go_ret
   exact⟨by rw [HG.out];rfl,HC.out⟩
 by_cases h3:k=3
 ·subst h3
  have HF:Hid (fmd ⟨3,yb,yl,yd⟩=decide ((2≤yl∧yl≤273)∧0≤yd∧yd≤3)):=rfl
  go_enter Tryz.func116,Tryz.ntmps116
  go_wp2_with fail
  generalize w.alloc (.cells #[.int .i64 3,.int .u8 yb,.int .i64 yl,.int .i64 yd] 34)=W at*
  refine(HL.out yl _).mono ?_
  rintro z w1 ⟨rfl,rfl⟩
  by_cases t:2≤yl∧yl≤273
  ·rw [decide_eq_true t]
   by_cases c1:0≤yd
   ·have d1:decide (0≤yd)=true:=decide_eq_true c1
    have HG:Hid (fmd ⟨3,yb,yl,yd⟩=decide (yd≤3)):=HF.out.trans (by simp [t,c1])
    clear t HF
    go_wp2
    go_ret
    exact⟨by rw [HG.out];rfl,HC.out⟩
   ·have d1:decide (0≤yd)=false:=decide_eq_false c1
    have HG:Hid (fmd ⟨3,yb,yl,yd⟩=false):=HF.out.trans (decide_eq_false (fun h=>c1 h.2.1))
    clear t HF
    go_wp2
    go_ret
    exact⟨by rw [HG.out];rfl,HC.out⟩
  ·rw [decide_eq_false t]
   have HG:Hid (fmd ⟨3,yb,yl,yd⟩=false):=HF.out.trans (decide_eq_false (fun h=>t h.1))
   clear t HF
   go_wp2
   go_ret
   exact⟨by rw [HG.out];rfl,HC.out⟩
 have d2:(k==2)=false:=by simp [h2]
 have d3:(k==3)=false:=by simp [h3]
 have HF:Hid (fmd ⟨k,yb,yl,yd⟩=true):=by show fmd _=true;unfold fmd;simp [h2,h3]
 go_enter Tryz.func116,Tryz.ntmps116
 go_wp2
 go_ret
 exact⟨by rw [HF.out];rfl,HC.out⟩
theorem formed_of {y:Sym}:formed y=if¬(1≤y.k∧y.k≤4)then 6 else if fmd y=false then 7 else 0:=by
 obtain⟨k,yb,yl,yd⟩:=y
 unfold formed fmd okR
 simp only
 by_cases h1:k=1
 ·subst h1;simp
 by_cases h2:k=2
 ·subst h2
  by_cases h:(2≤yl∧yl≤273)∧1≤yd∧yd≤4294967295
  ·simp [h]
  ·rw [decide_eq_false h,if_neg (by omega),if_pos rfl,if_neg h,if_neg (by omega),if_pos rfl,if_pos rfl]
 by_cases h3:k=3
 ·subst h3
  by_cases h:(2≤yl∧yl≤273)∧0≤yd∧yd≤3
  ·simp [h]
  ·rw [decide_eq_false h,if_neg (show¬((3:Int)=1∨(3:Int)=4) by omega),if_neg (show¬(3:Int)=2 by omega),if_pos rfl,if_neg h]
   simp
 by_cases h4:k=4
 ·subst h4;simp
 rw [if_neg (by omega),if_neg h2,if_neg h3,if_pos (by omega)]
end Go.Proofs.YthideplpcnhncaaGreatDoor
