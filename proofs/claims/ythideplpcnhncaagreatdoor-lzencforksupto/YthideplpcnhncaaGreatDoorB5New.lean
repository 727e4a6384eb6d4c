/- Of no statement by itself: New, Fork, RefA, Low, En, EnA (without blanks and remarks). -/
import Derived.Test.YthideplpcnhncaaGreatDoorB4Wb
import Derived.Test.YthideplpcnhncaaGreatDoorRc
import Derived.Test.YthideplpcnhncaaGreatDoorB0Base
import Derived.Great.BuildSlice
namespace Go.Proofs.YthideplpcnhncaaGreatDoor
open Go.RowKit
set_option linter.unusedVariables false
def half (k:Nat)(xs:List Int):List Int:=List.replicate k 1024++xs.drop k
theorem half_len {k:Nat}{xs:List Int}(h:k≤xs.length):(half k xs).length=xs.length:=by simp [half];omega
theorem half_set {k:Nat}{xs:List Int}(h:k<xs.length):(half k xs).set k 1024=half (k+1) xs:=by
 unfold half
 rw [List.set_append_right _ _ (by simp),List.length_replicate,Nat.sub_self,List.drop_eq_getElem_cons h,List.set_cons_zero,List.replicate_succ',List.append_assoc]
 rfl
theorem half_all (xs:List Int):half xs.length xs=List.replicate xs.length 1024:=by simp [half]
def w_cf (w:World)(g k:Nat):Prop:=(∃z,w.cell? ⟨g,k,none⟩=some z)∧w.frozen? ⟨g,k,none⟩=false
theorem St.put {w:World}{B a g cap:Nat}{xs:List Int}(h:St w B a (.slice (some ⟨g,0,none⟩) xs.length cap) xs)(j:Nat)(q:Int)(hj:j<xs.length):
  St (w.setCell ⟨g,j,none⟩ (.int .u16 q)) B a (.slice (some ⟨g,0,none⟩) xs.length cap) (xs.set j q)∧Chg (fun k=>(Value.slice (some ⟨g,0,none⟩) xs.length cap).ownBlock=some k) w (w.setCell ⟨g,j,none⟩ (.int .u16 q)):=by
 have c1:Chg (fun k=>k=g) w (w.setCell ⟨g,j,none⟩ (.int .u16 q)):=(Chg.refl (fun k=>k=g) w).setCell (p:=⟨g,j,none⟩) (.inl rfl) _
 refine⟨⟨h.ha,blk_keep h.blk c1 (fun e=> ?_),?_⟩,?_⟩
 ·obtain⟨cur,hcur⟩:=owns_blk h.own (g:=g) rfl
  rw [e]at h
  exact ty_ne hcur h.blk (by decide)
 ·have:=own_set h.own j (.int .u16 q) hj
  rw [ins_set]at this
  rw [List.length_set]
  exact this
 ·exact c1.mono (fun i e=> .inl (by subst e;rfl))
set_option maxHeartbeats 1000000 in
set_option maxRecDepth 100000 in
theorem reset_any (B a:Nat)(v:Value)(xs:List Int)(w0:World)(h:St w0 B a v xs)(hn:xs.length≤1048576):Calls Tryz.prog 150 #[.pointer (some ⟨a,0,none⟩)] w0 fun e w'=>e= .returned (.tuple #[])∧St w' B a v (List.replicate xs.length 1024)∧Chg (fun k=>v.ownBlock=some k) w0 w':=by
 by_cases h0:xs.length=0
 ·have hx:xs=[]:=List.eq_nil_of_length_eq_zero h0
  subst hx
  have HH:Hid (St w0 B a v []):=h
  obtain⟨ad,cap,rfl,_⟩:=own_any h.own
  have hca:=cell00 h.blk
  clear h
  go_enter Tryz.func150,Tryz.ntmps150
  go_wp2_with fail
  refine wp_loop_rounds 1 ?_
  rw [rounds_succ]
  go_wp2
  go_end0
  exact⟨rfl,HH.out,Chg.refl _ _⟩
 ·obtain⟨g,cap,rfl,hnc,_,hg,_,hfz,hcell⟩:=own_some h.own (by omega)
  have HA:Hid (half xs.length xs=List.replicate xs.length 1024):=half_all xs
  have HS:Hid (∀k,k<xs.length→(half k xs).set k 1024=half (k+1) xs):=fun k hk=>half_set hk
  have HL:Hid (∀k,k≤xs.length→(half k xs).length=xs.length):=fun k hk=>half_len hk
  have hca:=cell00 h.blk
  have h0s:St w0 B a (.slice (some ⟨g,0,none⟩) xs.length cap) (half 0 xs):=h
  clear hcell h hfz
  generalize xs.length=n at*
  go_enter Tryz.func150,Tryz.ntmps150
  go_wp2_with fail
  go_loopw [8] (fun i wr=> ∃k:Nat,k≤n∧i= .int .i64 k∧St wr B a (.slice (some ⟨g,0,none⟩) n cap) (half k xs)∧Chg (fun k=>(Value.slice (some ⟨g,0,none⟩) n cap).ownBlock=some k) w0 wr) (fun i _=>n-(intOf i).toNat)
  case atStart=>exact⟨0,Nat.zero_le _,rfl,h0s,Chg.refl _ _⟩
  case round=>
   clear h0s hca
   obtain⟨k,hk,rfl,ho,hc⟩:=hrel
   have hl:=HL.out k hk
   have hca:=cell00 ho.blk
   have HO:Hid (St wr B a (.slice (some ⟨g,0,none⟩) n cap) (half k xs)):=ho
   by_cases hlt:k<n
   ·have hcf:w_cf wr g k:=by
     have hown:=ho.own
     rw [hl]at hown
     obtain⟨g2,cap2,e,_,_,_,_,hfz,hcell⟩:=own_some hown (by omega)
     simp only [Value.slice.injEq,Option.some.injEq,Addr.mk.injEq,true_and,and_true]at e
     obtain⟨rfl,_⟩:=e
     exact⟨⟨_,hcell k _ (ins_at .u16 (half k xs) k (by omega))⟩,hfz k⟩
    obtain⟨⟨z,ck⟩,fk⟩:=hcf
    have R:Hid (St (wr.setCell ⟨g,k,none⟩ (.int .u16 1024)) B a (.slice (some ⟨g,0,none⟩) n cap) (half (k+1) xs)∧Chg (fun k=>(Value.slice (some ⟨g,0,none⟩) n cap).ownBlock=some k) w0 (wr.setCell ⟨g,k,none⟩ (.int .u16 1024))):=by
     have h1:=HO.out
     rw [←hl]at h1
     obtain⟨h2,c2⟩:=h1.put k 1024 (by omega)
     rw [HS.out k hlt,hl]at h2
     rw [hl]at c2
     exact⟨h2,hc.trans c2 (fun i e=> .inl e)⟩
    clear ho hc HO hl
    go_wp2
    go_roundw
    case rel=>exact⟨k+1,by omega,by go_num,R.out.1,R.out.2⟩
    case measure=>simp [intOf];omega
   ·obtain rfl:k=n:=by omega
    rw [HA.out]at ho
    clear HO
    go_wp2
    go_end0
    exact⟨rfl,ho,hc⟩
theorem infoU16:(Tryz.prog.info? 226).map (fun i=>(i.zero,i.size,i.bytes))=some (some (.int .u16 0),1,2):=by kernel_rfl
set_option maxHeartbeats 1000000 in
set_option maxRecDepth 100000 in
theorem new_in (n:Nat)(w:World)(hn:n≤1048576):Calls Tryz.prog 113 #[.int .i64 n] w fun e w'=> ∃a v,e= .returned (.tuple #[.pointer (some ⟨a,0,none⟩),.int .i64 0])∧w.heap.size≤a∧St w' w.heap.size a v (List.replicate n 1024)∧Chg (fun _=>False) w w':=by
 obtain⟨i0,hi,hz0,hz1,hz2⟩:=info_parts infoU16
 have hd:decide ((n:Int)<0)=false:=by simp
 have hd2:decide (1048576<(n:Int))=false:=by simp;omega
 go_enter Tryz.func113,Tryz.ntmps113
 go_wp2_with (at_make;refine wpList_make_full _ rfl (.tmp 11) (.tmp 11) 220 rfl w.heap.size 226 i0 (.int .u16 0) 1 Tryz.underlying220 hi hz0 hz1 .i64 .i64 _ _ n rfl rfl rfl rfl (by rw [hz2];omega) (by unfold maxLen;omega) (Nat.le_refl _) ?_)
 intro w1 ho hg
 have c1:Chg (fun _=>False) w w1:=(Chg.refl _ w).grown hg (fun k e=>by cases e)
 have c2:=chg_then c1 (chg_one w1 (.cells #[.slice (some ⟨w.heap.size,0,none⟩) n n] 222))
 have HS:Hid (St (w1.alloc (.cells #[.slice (some ⟨w.heap.size,0,none⟩) n n] 222)) w.heap.size w1.heap.size (.slice (some ⟨w.heap.size,0,none⟩) n n) (List.replicate n 0)):=by
  refine⟨c1.size,heap_alloc_last w1 _,?_⟩
  have h2:=ho.alloc (.cells #[.slice (some ⟨w.heap.size,0,none⟩) n n] 222)
  rw [toList_madeCells_one]at h2
  simpa [ins]using h2
 have hs1:=c1.size
 clear ho hg c1
 go_wp2_with fail
 have hl:(List.replicate n (0:Int)).length=n:=by simp
 refine(reset_any w.heap.size w1.heap.size _ (List.replicate n 0) _ HS.out (by omega)).mono ?_
 rintro e w3 ⟨rfl,h3,c3⟩
 rw [hl]at h3
 have HC:Hid (Chg (fun _=>False) w w3):=c2.trans c3 (fun i e=> .inr (by simp only [Value.ownBlock,Option.some.injEq]at e;omega))
 have H3:Hid (St w3 w.heap.size w1.heap.size (.slice (some ⟨w.heap.size,0,none⟩) n n) (List.replicate n 1024)):=h3
 clear h3 c3 c2 HS
 go_wp2
 go_ret2
 exact⟨_,_,rfl,hs1,H3.out,HC.out⟩
end Go.Proofs.YthideplpcnhncaaGreatDoor
namespace Go.Proofs.YthideplpcnhncaaGreatDoor
open Go.RowKit
set_option linter.unusedVariables false
theorem eq_nil_some (x:Addr)(n c:Nat)(w:World):(binOp .eql 220 (.slice (some x) n c) (.slice none 0 0)).run Tryz.prog w= .ok (.bool false) w:=by kernel_rfl
theorem eq_nil_none (w:World):(binOp .eql 220 (.slice none 0 0) (.slice none 0 0)).run Tryz.prog w= .ok (.bool true) w:=by kernel_rfl
set_option maxHeartbeats 1000000 in
set_option maxRecDepth 100000 in
theorem clone_any (B:Nat)(v:Value)(xs:List Int)(w:World)(h:w.ownsRow B 226 1 v xs.length (ins .u16 xs))(hn:xs.length≤1048576):
  Calls Tryz.prog 157 #[v] w fun e w'=> ∃v',e= .returned v'∧w'.ownsRow w.heap.size 226 1 v' xs.length (ins .u16 xs)∧Chg (fun _=>False) w w':=by
 obtain⟨i0,hi,hz0,hz1,hz2⟩:=info_parts infoU16
 have hone:=ins_one .u16 xs
 rcases h.2 with⟨rfl,e0⟩|⟨g,cap,cur,rfl,_⟩
 ·have hx:xs=[]:=List.eq_nil_of_length_eq_zero e0
  subst hx
  have heq:=eq_nil_none w
  go_enter Tryz.func157,Tryz.ntmps157
  go_wp2
  go_ret
  exact⟨_,rfl,World.ownsRow_nil _ _ _ _,Chg.refl _ _⟩
 ·have hF:=own_from h
  have c1:=chg_one w (.cells #[] 226)
  have hF1:=hF.keep c1
  have hE:=own_empty w 226
  have hs:w.heap.size≤(w.alloc (.cells #[] 226)).heap.size:=c1.size
  have HX:Hid (ins .u16 xs=ins .u16 xs):=rfl
  have heq:=eq_nil_some ⟨g,0,none⟩ xs.length cap w
  clear h hF
  go_enter Tryz.func157,Tryz.ntmps157
  go_wp2_with (at_builtin;refine wpList_append_moved rfl _ _ 220 rfl w.heap.size 226 i0 (.int .u16 0) 1 2 Tryz.underlying220 hi hz0 hz1 hz2 rfl (by decide) _ 0 [] rfl (some ⟨g,0,none⟩) xs.length cap rfl (ins .u16 xs) hE hF1 hone (by unfold maxLen;omega) (by omega) hs ?_)
  intro v2 w2 ho hg hm
  have HC:Hid (Chg (fun _=>False) w w2):=c1.grown hg (fun k e=> .inr (hE.lt k e).1)
  have HO:Hid (w2.ownsRow w.heap.size 226 1 v2 xs.length (ins .u16 xs)):=ho
  clear ho hg hm hE hF1 c1
  go_wp2
  go_ret
  exact⟨_,rfl,HO.out,HC.out⟩
set_option maxHeartbeats 1000000 in
set_option maxRecDepth 100000 in
theorem fork_any (B a:Nat)(v:Value)(xs:List Int)(w:World)(h:St w B a v xs)(hn:xs.length≤1048576):
  Calls Tryz.prog 129 #[.pointer (some ⟨a,0,none⟩)] w fun e w'=> ∃a' v',e= .returned (.pointer (some ⟨a',0,none⟩))∧w.heap.size≤a'∧St w' w.heap.size a' v' xs∧Chg (fun _=>False) w w':=by
 have hca:=cell00 h.blk
 have hown:=h.own
 clear h
 go_enter Tryz.func129,Tryz.ntmps129
 go_wp2_with fail
 refine(clone_any B v xs _ hown hn).mono ?_
 rintro e w1 ⟨v1,rfl,ho1,c1⟩
 have HO:Hid (w1.ownsRow w.heap.size 226 1 v1 xs.length (ins .u16 xs)):=ho1
 have HC:Hid (Chg (fun _=>False) w w1):=c1
 have hcell:(Value.agg #[v1]).cells= #[v1]:=by
  rcases ho1.2 with⟨rfl,_⟩|⟨g,cap,cur,rfl,_⟩<;>rfl
 obtain⟨ad,cap,rfl,_⟩:=own_any ho1
 clear ho1 c1 hca hown
 go_wp2
 go_ret
 have c2:=chg_one w1 (.cells #[.slice ad xs.length cap] 222)
 exact⟨_,_,rfl,HC.out.size,⟨HC.out.size,heap_alloc_last w1 _,ownsRow_keep HO.out c2 (fun _ _ f=>f)⟩,chg_then HC.out c2⟩
end Go.Proofs.YthideplpcnhncaaGreatDoor
namespace Go.Proofs.YthideplpcnhncaaGreatDoor
open Go.RowKit
set_option linter.unusedVariables false
theorem take_set (ds ts:List Nat)(j q:Nat)(hj:j<ds.length):(ds.take (j+1)++ts).set j q=ds.take j++q::ts:=by
 rw [List.take_succ_eq_append_getElem hj,List.append_assoc,List.set_append_right _ _ (by simp;omega)]
 have:j-(ds.take j).length=0:=by simp;omega
 rw [this]
 rfl
theorem from_one8 (w:World)(x:Value)(t:TypeId):From (w.alloc (.cells #[x] t)) (some ⟨w.heap.size,0,none⟩) 1 1 1 [x]:=by
 refine⟨rfl,.inr ⟨_,rfl,fun j u hu=> ?_⟩⟩
 have hb:(w.alloc (.cells #[x] t)).heap[w.heap.size]?=some (.cells #[x] t (0,0)):=heap_alloc_last _ _
 match j,hu with
 |0,hu=>
  simp at hu
  subst hu
  rw [addk]
  exact cell00 hb
theorem set_size (w:World)(p:Addr)(v:Value):(w.setCell p v).heap.size=w.heap.size:=by simp [World.setCell]
end Go.Proofs.YthideplpcnhncaaGreatDoor
namespace Go.Proofs.YthideplpcnhncaaGreatDoor.Rc
structure Lo where
 s:List Nat
 h:Nat
 r:Nat
 t:Nat
def tl (l:Lo):Nat:=l.h*256^(l.r+4)+(256^l.r-1)*4294967296+l.t
def digs (l:Lo):List Nat:=l.s++l.h::(List.replicate l.r 255++dg 4 l.t)
structure Is (l:Lo) (e:E):Prop where
 dig:Dig l.s
 hh:l.h<256
 ht:l.t<4294967296
 len:l.s.length+l.r=e.k
 value:val l.s*256^(l.r+5)+tl l=e.L
 fit:tl l+e.R≤256^(l.r+5)
def begin_:Lo:=⟨[],0,0,0⟩
def carry (s:List Nat)(h r t:Nat):Lo:=if r=0 then⟨s,h+1,0,t⟩else⟨s++(h+1)::List.replicate (r-1) 0,0,0,t⟩
def add (l:Lo)(v:Nat):Lo:=if l.t+v<4294967296 then⟨l.s,l.h,l.r,l.t+v⟩else carry l.s l.h l.r (l.t+v-4294967296)
def shift (l:Lo):Lo:=if l.t/16777216=255 then⟨l.s,l.h,l.r+1,l.t*256% 4294967296⟩else⟨l.s++l.h::List.replicate l.r 255,l.t/16777216,0,l.t*256% 4294967296⟩
theorem val_fulls: ∀n,val (List.replicate n 255)=256^n-1
 |0=>rfl
 |n+1=>by
  have pos:0<256^n:=Nat.pow_pos (by omega)
  rw [List.replicate_succ,val,List.length_replicate,val_fulls n,Nat.pow_succ]
  omega
theorem val_zeros: ∀n,val (List.replicate n 0)=0
 |0=>rfl
 |n+1=>by rw [List.replicate_succ,val,val_zeros n];simp
theorem dig_rep {n x:Nat}(h:x<256):Dig (List.replicate n x):=fun y hy=>by
 obtain⟨_,rfl⟩:=List.mem_replicate.1 hy
 exact h
theorem dig_app {a b:List Nat}(ha:Dig a)(hb:Dig b):Dig (a++b):=fun y hy=>by
 rcases List.mem_append.1 hy with h|h
 ·exact ha y h
 ·exact hb y h
theorem dig_cons {x:Nat}{a:List Nat}(hx:x<256)(ha:Dig a):Dig (x::a):=fun y hy=>by
 rcases List.mem_cons.1 hy with h|h
 ·rw [h];exact hx
 ·exact ha y h
theorem digs_val (l:Lo)(ht:l.t<4294967296):val (digs l)=val l.s*256^(l.r+5)+tl l:=by
 have e4:val (dg 4 l.t)=l.t:=val_dg 4 l.t (by omega)
 unfold digs tl
 rw [val_append,val,val_append,val_fulls,e4]
 simp only [List.length_append,List.length_cons,List.length_replicate,dg_len]
 rw [show(256:Nat)^4=4294967296 by decide,show l.r+4+1=l.r+5 by omega]
 omega
theorem digs_len (l:Lo):(digs l).length=l.s.length+l.r+5:=by
 unfold digs
 simp only [List.length_append,List.length_cons,List.length_replicate,dg_len]
 omega
theorem digs_dig {l:Lo}{e:E}(h:Is l e):Dig (digs l):=dig_app h.dig (dig_cons h.hh (dig_app (dig_rep (by omega)) (dg_dig _ _)))
theorem digs_is {l:Lo}{e:E}(h:Is l e):digs l=by_ e:=by
 have h1:=dg_val (digs_dig h)
 rw [digs_len,h.len,digs_val l h.ht,h.value]at h1
 exact h1.symm
theorem Is.less {l:Lo}{e:E}(h:Is l e){Q:Nat}(hQ:Q≤e.R):Is l ⟨e.L,Q,e.k⟩:=⟨h.dig,h.hh,h.ht,h.len,h.value,by have:=h.fit;show tl l+Q≤_;omega⟩
theorem tl_eq (l:Lo):tl l=l.h*256^l.r*4294967296+(256^l.r-1)*4294967296+l.t:=by
 unfold tl
 rw [show 256^(l.r+4)=256^l.r*4294967296 by rw [Nat.pow_add],←Nat.mul_assoc]
theorem p5 (x r:Nat):x*256^(r+5)=x*256^r*1099511627776:=by
 rw [show 256^(r+5)=256^r*1099511627776 by rw [Nat.pow_add],←Nat.mul_assoc]
theorem is_mk {s:List Nat}{h r t L R k:Nat}(P A B M:Nat)(hP:256^r=P)(hM:P=M+1)(hA:val s*P=A)(hB:h*P=B)(dig:Dig s)(hh:h<256)(ht:t<4294967296)(len:s.length+r=k)(value:1099511627776*A+(4294967296*B+4294967296*M+t)=L)(fit:4294967296*B+4294967296*M+t+R≤1099511627776*P):Is ⟨s,h,r,t⟩ ⟨L,R,k⟩:=by
 have e5:=p5 1 r
 rw [Nat.one_mul,Nat.one_mul]at e5
 refine⟨dig,hh,ht,len,?_,?_⟩
 ·rw [p5,tl_eq]
  dsimp only
  rw [hP,hA,hB,show P-1=M by omega]
  omega
 ·rw [tl_eq,e5]
  dsimp only
  rw [hP,hB,show P-1=M by omega]
  omega
theorem is_mk0 {s:List Nat}{h t L R k:Nat}(dig:Dig s)(hh:h<256)(ht:t<4294967296)(len:s.length=k)(value:1099511627776*val s+(4294967296*h+t)=L)(fit:4294967296*h+t+R≤1099511627776):Is ⟨s,h,0,t⟩ ⟨L,R,k⟩:=
 is_mk 1 (val s) h 0 rfl rfl (Nat.mul_one _) (Nat.mul_one _) dig hh ht len (by rw [Nat.mul_zero,Nat.add_zero];exact value) (by rw [Nat.mul_zero,Nat.add_zero,Nat.mul_one];exact fit)
theorem begin_is:Is begin_ start:=is_mk0 (fun x h=>by cases h) (by omega) (by omega) rfl rfl (by omega)
theorem Is.parts {l:Lo}{e:E}(h:Is l e): ∃P A B M,256^l.r=P∧P=M+1∧val l.s*P=A∧l.h*P=B∧1099511627776*A+(4294967296*B+4294967296*M+l.t)=e.L∧4294967296*B+4294967296*M+l.t+e.R≤1099511627776*P:=by
 have e5:=p5 1 l.r
 rw [Nat.one_mul,Nat.one_mul]at e5
 have hf:=h.fit
 have hv:=h.value
 rw [p5,tl_eq]at hv
 rw [e5,tl_eq]at hf
 have pos:0<256^l.r:=Nat.pow_pos (by omega)
 exact⟨_,_,_,256^l.r-1,rfl,by omega,rfl,rfl,by omega,by omega⟩
theorem add_is {l:Lo}{e:E}(h:Is l e){b Q:Nat}(hb:b<4294967296)(hQ:b+Q≤e.R)(h0:0<Q)(hR:e.R≤4294967296):Is (add l b) ⟨e.L+b,Q,e.k⟩:=by
 obtain⟨P,A,B,M,hP,hM,hA,hB,hv,hf⟩:=h.parts
 have ht:=h.ht
 unfold add
 split
 ·exact is_mk P A B M hP hM hA hB h.dig h.hh (by assumption) h.len (by omega) (by omega)
 ·have hh:l.h<255:=by
   rcases Nat.lt_or_ge l.h 255 with c|c
   ·exact c
   ·exfalso
    have h1:255*P≤l.h*P:=Nat.mul_le_mul_right _ c
    omega
  have hlen:=h.len
  have hdig:=h.dig
  unfold carry
  clear h
  generalize l.s=s at*
  generalize l.h=d at*
  generalize l.r=r at*
  generalize l.t=t at*
  by_cases hr:r=0
  ·subst hr
   rw [Nat.pow_zero]at hP
   have hM0:M=0:=by omega
   have hA0:A=val s:=by rw [←hA,←hP,Nat.mul_one]
   have hB0:B=d:=by rw [←hB,←hP,Nat.mul_one]
   rw [if_pos rfl]
   clear hA hB
   obtain⟨d',hd'⟩: ∃x,d+1=x:=⟨_,rfl⟩
   rw [hd']
   exact is_mk0 hdig (by omega) (by omega) hlen (by omega) (by omega)
  ·rw [if_neg hr]
   obtain⟨n,rfl⟩: ∃n,r=n+1:=⟨r-1,by omega⟩
   obtain⟨P',hP'⟩: ∃P',256^n=P':=⟨_,rfl⟩
   have q3:P=P'*256:=by rw [←hP,←hP'];exact Nat.pow_succ ..
   have q2:B=d*P'*256:=by rw [←hB,q3,Nat.mul_assoc]
   have q4:(d+1)*P'=d*P'+P':=Nat.succ_mul _ _
   refine is_mk0 (dig_app hdig (dig_cons (by omega) (dig_rep (by omega)))) (by omega) (by omega) ?_ ?_ ?_
   ·simp only [List.length_append,List.length_cons,List.length_replicate]
    omega
   ·have q5:val (s++(d+1)::List.replicate n 0)=A+(d*P'+P'):=by
     rw [val_append,val,val_zeros,List.length_cons,List.length_replicate,hP,hA,hP',q4,Nat.add_zero]
    rw [show n+1-1=n by omega]
    clear hP hP' hA hB q4
    generalize d*P'=X at*
    generalize val (s++(d+1)::List.replicate n 0)=V at*
    rw [Nat.mul_zero]
    omega
   ·clear hP hP' hA hB q4
    rw [Nat.mul_zero]
    omega
theorem shift_is {l:Lo}{e:E}(h:Is l e)(hR:e.R<16777216):Is (shift l) ⟨256*e.L,256*e.R,e.k+1⟩:=by
 obtain⟨P,A,B,M,hP,hM,hA,hB,hv,hf⟩:=h.parts
 have ht:=h.ht
 have hlen:=h.len
 have hdig:=h.dig
 have hh:=h.hh
 unfold shift
 clear h
 generalize l.s=s at*
 generalize l.h=d at*
 generalize l.r=r at*
 generalize l.t=t at*
 split
 ·have g1:256^(r+1)=P*256:=by rw [←hP];exact Nat.pow_succ ..
  have g2:val s*(P*256)=A*256:=by rw [←hA,Nat.mul_assoc]
  have g3:d*(P*256)=B*256:=by rw [←hB,Nat.mul_assoc]
  obtain⟨P2,hP2⟩: ∃x,P*256=x:=⟨_,rfl⟩
  obtain⟨A2,hA2⟩: ∃x,A*256=x:=⟨_,rfl⟩
  obtain⟨B2,hB2⟩: ∃x,B*256=x:=⟨_,rfl⟩
  obtain⟨M2,hM2⟩: ∃x,M*256+255=x:=⟨_,rfl⟩
  rw [hP2]at g1 g2 g3
  rw [hA2]at g2
  rw [hB2]at g3
  refine is_mk P2 A2 B2 M2 g1 ?_ g2 g3 hdig hh ?_ ?_ ?_ ?_<;>(clear g1 g2 g3 hP hA hB;omega)
 ·refine is_mk0 (dig_app hdig (dig_cons hh (dig_rep (by omega)))) (by omega) (by omega) ?_ ?_ ?_
  ·simp only [List.length_append,List.length_cons,List.length_replicate]
   omega
  ·have q5:val (s++d::List.replicate r 255)=A*256+(B+M):=by
    rw [val_append,val,val_fulls,List.length_cons,List.length_replicate,hP,hB,show P-1=M by omega,show 256^(r+1)=P*256 by rw [←hP];exact Nat.pow_succ ..,←hA,Nat.mul_assoc]
   clear hP hA hB
   generalize val (s++d::List.replicate r 255)=V at*
   obtain⟨T,hT⟩: ∃x,t/16777216=x:=⟨_,rfl⟩
   rw [hT]
   omega
  ·clear hP hA hB
   obtain⟨T,hT⟩: ∃x,t/16777216=x:=⟨_,rfl⟩
   rw [hT]
   omega
end Go.Proofs.YthideplpcnhncaaGreatDoor.Rc
namespace Go.Proofs.YthideplpcnhncaaGreatDoor
open Go.RowKit
set_option linter.unusedVariables false
structure En (w:World) (B a:Nat) (v:Value) (l:Rc.Lo) (R:Nat):Prop where
 hr:B≤a
 blk:w.heap[a]?=some (.cells #[v,.int .u8 (l.h:Int),.int .i64 (l.r:Int),.int .u32 (l.t:Int),.int .u32 (R:Int)] 141 (0,0))
 own:w.ownsRow B 5 1 v l.s.length (ins .u8 (nums l.s))
theorem En.keep {w w':World}{S:Nat→Prop}{B a:Nat}{v:Value}{l:Rc.Lo}{R:Nat}(h:En w B a v l R)(hc:Chg S w w')(hr: ¬S a)(hv: ∀g,v.ownBlock=some g→ ¬S g):En w' B a v l R:=
 ⟨h.hr,blk_keep h.blk hc hr,ownsRow_keep h.own hc hv⟩
theorem En.new {w w':World}{B a:Nat}{v:Value}{l:Rc.Lo}{R:Nat}(h:En w B a v l R)(hc:Chg (fun _=>False) w w'):En w' B a v l R:=h.keep hc (fun f=>f) (fun _ _ f=>f)
theorem En.lt {w:World}{B a R:Nat}{v:Value}{l:Rc.Lo}(h:En w B a v l R):a<w.heap.size:=lt_of_blk h.blk
theorem En.ne {w:World}{B a R:Nat}{v:Value}{l:Rc.Lo}(h:En w B a v l R):v.ownBlock≠some a:=fun e=>by
 obtain⟨cur,hcur⟩:=owns_blk h.own e
 exact ty_ne h.blk hcur (by decide)
theorem cells5e {w:World}{a:Nat}{x0 x1 x2 x3 x4:Value}{t:TypeId}(h:w.heap[a]?=some (.cells #[x0,x1,x2,x3,x4] t (0,0))):w.cell? ⟨a,0,none⟩=some x0∧w.cell? ⟨a,1,none⟩=some x1∧w.cell? ⟨a,2,none⟩=some x2∧w.cell? ⟨a,3,none⟩=some x3∧w.cell? ⟨a,4,none⟩=some x4∧ ∀j,w.frozen? ⟨a,j,none⟩=false:=
 ⟨by simp [World.cell?,h],by simp [World.cell?,h],by simp [World.cell?,h],by simp [World.cell?,h],by simp [World.cell?,h],fun j=>by simp [World.frozen?,h]⟩
theorem En.setH {w:World}{B a R:Nat}{v:Value}{l:Rc.Lo}(h:En w B a v l R)(x:Nat)(q:Int)(hq:q=(x:Int)):En (w.setCell ⟨a,1,none⟩ (.int .u8 q)) B a v ⟨l.s,x,l.r,l.t⟩ R∧Chg (fun z=>z=a) w (w.setCell ⟨a,1,none⟩ (.int .u8 q)):=by
 have c1:Chg (fun z=>z=a) w (w.setCell ⟨a,1,none⟩ (.int .u8 q)):=(Chg.refl (fun z=>z=a) w).setCell (p:=⟨a,1,none⟩) (.inl rfl) _
 subst hq
 exact⟨⟨h.hr,blk_setk (l:=[v,.int .u8 (l.h:Int),.int .i64 (l.r:Int),.int .u32 (l.t:Int),.int .u32 (R:Int)]) h.blk 1 _,ownsRow_keep h.own c1 (fun g e e2=>h.ne (by rw [←e2];exact e))⟩,c1⟩
theorem En.setN {w:World}{B a R:Nat}{v:Value}{l:Rc.Lo}(h:En w B a v l R)(x:Nat)(q:Int)(hq:q=(x:Int)):En (w.setCell ⟨a,2,none⟩ (.int .i64 q)) B a v ⟨l.s,l.h,x,l.t⟩ R∧Chg (fun z=>z=a) w (w.setCell ⟨a,2,none⟩ (.int .i64 q)):=by
 have c1:Chg (fun z=>z=a) w (w.setCell ⟨a,2,none⟩ (.int .i64 q)):=(Chg.refl (fun z=>z=a) w).setCell (p:=⟨a,2,none⟩) (.inl rfl) _
 subst hq
 exact⟨⟨h.hr,blk_setk (l:=[v,.int .u8 (l.h:Int),.int .i64 (l.r:Int),.int .u32 (l.t:Int),.int .u32 (R:Int)]) h.blk 2 _,ownsRow_keep h.own c1 (fun g e e2=>h.ne (by rw [←e2];exact e))⟩,c1⟩
theorem En.setT {w:World}{B a R:Nat}{v:Value}{l:Rc.Lo}(h:En w B a v l R)(x:Nat)(q:Int)(hq:q=(x:Int)):En (w.setCell ⟨a,3,none⟩ (.int .u32 q)) B a v ⟨l.s,l.h,l.r,x⟩ R∧Chg (fun z=>z=a) w (w.setCell ⟨a,3,none⟩ (.int .u32 q)):=by
 have c1:Chg (fun z=>z=a) w (w.setCell ⟨a,3,none⟩ (.int .u32 q)):=(Chg.refl (fun z=>z=a) w).setCell (p:=⟨a,3,none⟩) (.inl rfl) _
 subst hq
 exact⟨⟨h.hr,blk_setk (l:=[v,.int .u8 (l.h:Int),.int .i64 (l.r:Int),.int .u32 (l.t:Int),.int .u32 (R:Int)]) h.blk 3 _,ownsRow_keep h.own c1 (fun g e e2=>h.ne (by rw [←e2];exact e))⟩,c1⟩
theorem En.setR {w:World}{B a R:Nat}{v:Value}{l:Rc.Lo}(h:En w B a v l R)(x:Nat)(q:Int)(hq:q=(x:Int)):En (w.setCell ⟨a,4,none⟩ (.int .u32 q)) B a v l x∧Chg (fun z=>z=a) w (w.setCell ⟨a,4,none⟩ (.int .u32 q)):=by
 have c1:Chg (fun z=>z=a) w (w.setCell ⟨a,4,none⟩ (.int .u32 q)):=(Chg.refl (fun z=>z=a) w).setCell (p:=⟨a,4,none⟩) (.inl rfl) _
 subst hq
 exact⟨⟨h.hr,blk_setk (l:=[v,.int .u8 (l.h:Int),.int .i64 (l.r:Int),.int .u32 (l.t:Int),.int .u32 (R:Int)]) h.blk 4 _,ownsRow_keep h.own c1 (fun g e e2=>h.ne (by rw [←e2];exact e))⟩,c1⟩
theorem En.pushed {w w1 w2:World}{B a R x:Nat}{v v2:Value}{l:Rc.Lo}(h:En w B a v l R)(hc:Chg (fun _=>False) w w1)(ho:w2.ownsRow B 5 1 v2 (l.s.length+1) (ins .u8 (nums l.s)++[.int .u8 (x:Int)]))(hg:w1.grownBy w2 v.ownBlock):
  w2.heap[a]?=some (.cells #[v,.int .u8 (l.h:Int),.int .i64 (l.r:Int),.int .u32 (l.t:Int),.int .u32 (R:Int)] 141 (0,0))∧En (w2.setCell ⟨a,0,none⟩ v2) B a v2 ⟨l.s++[x],l.h,l.r,l.t⟩ R∧Chg (Foot a v) w (w2.setCell ⟨a,0,none⟩ v2):=by
 have h1:=h.new hc
 have c3:Chg (fun z=>v.ownBlock=some z) w1 w2:=(Chg.refl _ w1).grown hg (fun k e=> .inl e)
 have b3:=blk_keep h1.blk c3 h1.ne
 have c4:Chg (fun z=>z=a) w2 (w2.setCell ⟨a,0,none⟩ v2):=(Chg.refl (fun z=>z=a) w2).setCell (p:=⟨a,0,none⟩) (.inl rfl) _
 have b4:=blk_setk (l:=[v,.int .u8 (l.h:Int),.int .i64 (l.r:Int),.int .u32 (l.t:Int),.int .u32 (R:Int)]) b3 0 v2
 refine⟨b3,⟨h.hr,b4,?_⟩,?_⟩
 ·have e:ins .u8 (nums (l.s++[x]))=ins .u8 (nums l.s)++[.int .u8 (x:Int)]:=by simp [ins,nums]
  show World.ownsRow _ _ _ _ _ (l.s++[x]).length _
  rw [List.length_append,e]
  refine ownsRow_keep ho c4 (fun g e e2=> ?_)
  obtain⟨cur,hcur⟩:=owns_blk ho e
  rw [e2]at hcur
  exact ty_ne b3 hcur (by decide)
 ·exact(((hc.mono (T:=Foot a v) (fun _ f=>f.elim)).trans c3 (fun _ e=> .inl (.inr e))).trans c4 (fun _ e=> .inl (.inl e)))
set_option maxHeartbeats 1000000 in
set_option maxRecDepth 100000 in
theorem rcnew_any (w:World):Calls Tryz.prog 34 #[] w fun e w'=> ∃a,e= .returned (.pointer (some ⟨a,0,none⟩))∧w.heap.size≤a∧En w' w.heap.size a (.slice none 0 0) Rc.begin_ 4294967295∧Chg (fun _=>False) w w':=by
 go_enter Tryz.func34,Tryz.ntmps34
 go_wp2
 go_ret
 exact⟨_,rfl,Nat.le_refl _,⟨Nat.le_refl _,heap_alloc_last w _,World.ownsRow_nil _ _ _ _⟩,chg_one w _⟩
end Go.Proofs.YthideplpcnhncaaGreatDoor
namespace Go.Proofs.YthideplpcnhncaaGreatDoor
open Go.RowKit
set_option linter.unusedVariables false
def PushJ (W:World)(B:Nat)(v:Value)(n:Nat)(xs:List Value)(x:Nat)(y z:Value):Nat→World→Prop
 |0,w=>Chg (fun _=>False) W w
 |1,w=>Chg (fun _=>False) W w∧ ∃c,y= .slice (some ⟨c,0,none⟩) 1 1∧From w (some ⟨c,0,none⟩) 1 1 1 [.int .u8 (x:Int)]
 |_,w=> ∃w1,Chg (fun _=>False) W w1∧w.ownsRow B 5 1 z (n+1) (xs++[.int .u8 (x:Int)])∧w1.grownBy w v.ownBlock∧Moved w1 v z
def fin (s:List Nat)(x m t:Nat):Rc.Lo:=if m=0 then⟨s,x,0,t⟩else⟨s++x::List.replicate (m-1) 0,0,0,t⟩
theorem fin_zero (s:List Nat)(x t:Nat):fin s x 0 t=⟨s,x,0,t⟩:=rfl
theorem fin_succ (s:List Nat)(x m t:Nat):fin (s++[x]) 0 m t=fin s x (m+1) t:=by
 unfold fin
 cases m with
 |zero=>simp
 |succ m=>simp [List.replicate_succ]
theorem fin_carry (s:List Nat)(d r t:Nat):fin s (d+1) r t=Rc.carry s d r t:=by
 unfold fin Rc.carry
 rfl
theorem one8e (x:Nat): ∀u∈ [Value.int .u8 (x:Int)],u.oneCell'=true:=fun u hu=>by simp at hu;subst hu;rfl
theorem foot_step {w w1 w2:World}{a:Nat}{v v1 v2:Value}(h:Chg (Foot a v) w w1)(hm:Moved w v v1)(h2:Chg (Foot a v1) w1 w2)(hm2:Moved w1 v1 v2):Chg (Foot a v) w w2∧Moved w v v2:=⟨h.trans h2 (fun i e=>hm.foot a i e),hm.trans h.size hm2⟩
set_option maxHeartbeats 2000000 in
set_option maxRecDepth 100000 in
theorem carry_any (B a:Nat)(v:Value)(s:List Nat)(d r t R:Nat)(w0:World)(h:En w0 B a v ⟨s,d,r,t⟩ R)(hh:d<255)(hl:s.length+r≤140737488355328)(hB:B≤w0.heap.size):
  Calls Tryz.prog 220 #[.pointer (some ⟨a,0,none⟩)] w0 fun e w'=>e= .returned (.tuple #[])∧ ∃v',En w' B a v' (Rc.carry s d r t) R∧Chg (Foot a v) w0 w'∧Moved w0 v v':=by
 obtain⟨i0,hi,hz0,hz1,hz2⟩:=info_parts infoU8
 have k1:w0.cell? ⟨a,1,none⟩=some (.int .u8 (d:Int)):=(cells5e h.blk).2.1
 have f1:=(cells5e h.blk).2.2.2.2.2 1
 obtain⟨hS,hC⟩:=h.setH (d+1) ((d:Int)+1) (by omega)
 have HS:Hid (En (w0.setCell ⟨a,1,none⟩ (.int .u8 ((d:Int)+1))) B a v ⟨s,d+1,r,t⟩ R):=hS
 have HC:Hid (Chg (Foot a v) w0 (w0.setCell ⟨a,1,none⟩ (.int .u8 ((d:Int)+1)))):=hC.mono (fun _ e=> .inl (.inl e))
 clear h hS hC
 go_enter Tryz.func220,Tryz.ntmps220
 go_wp2_with fail
 go_loopw [9] (fun _ wr=> ∃(s':List Nat) (x m:Nat) (v':Value),x<256∧s'.length+m=s.length+r∧En wr B a v' ⟨s',x,m,t⟩ R∧Hid (fin s' x m t=Rc.carry s d r t)∧Chg (Foot a v) w0 wr∧Moved w0 v v') (fun _ wr=>match wr.cell? ⟨a,2,none⟩with|some (.int _ q)=>q.toNat|_=>0)
 case atStart=>exact⟨s,d+1,r,v,by omega,rfl,HS.out,fin_carry s d r t,HC.out,Moved.refl _ _⟩
 case round=>
  clear HS HC k1 f1
  obtain⟨s',x,m,v',hx,hlen,hE,HF,hC,hM⟩:=hrel
  have hB2:B≤wr.heap.size:=Nat.le_trans hB hC.size
  have HX:Hid (Chg (Foot a v) w0 wr∧Moved w0 v v'):=⟨hC,hM⟩
  clear hC hM
  cases m with
  |zero=>
   have k2:wr.cell? ⟨a,2,none⟩=some (.int .i64 0):=(cells5e hE.blk).2.2.1
   have HE:Hid (En wr B a v' (Rc.carry s d r t) R):=by
    have h1:=HF.out
    rw [fin_zero]at h1
    show En wr B a v' (Rc.carry s d r t) R
    rw [←h1]
    exact hE
   clear hE HF
   go_wp2
   go_end0
   exact⟨rfl,v',HE.out,HX.out.1,HX.out.2⟩
  |succ m=>
   obtain⟨ad,cap,hv,_⟩:=own_any hE.own
   obtain⟨k0,k1,k2,k3,k4,kf⟩:=cells5e hE.blk
   have hv2:v'= .slice ad (s').length cap:=hv
   have HV:Hid (v'= .slice ad (s').length cap):=hv2
   rw [hv2]at k0
   have hown:wr.ownsRow B 5 1 (.slice ad (s').length cap) (s').length (ins .u8 (nums (s'))):=by rw [←hv2];exact hE.own
   have HPB:Hid (∀w1 w2 v2,Chg (fun _=>False) wr w1→w2.ownsRow B 5 1 v2 ((s').length+1) (ins .u8 (nums (s'))++[.int .u8 ((x:Nat):Int)])→w1.grownBy w2 (Value.slice ad (s').length cap).ownBlock→w2.heap[a]?=some (.cells #[.slice ad (s').length cap,.int .u8 ((x:Nat):Int),.int .i64 ((m+1:Nat):Int),.int .u32 ((t:Nat):Int),.int .u32 (R:Int)] 141 (0,0))∧En (w2.setCell ⟨a,0,none⟩ v2) B a v2 ⟨s'++[x],x,m+1,t⟩ R∧Chg (Foot a v') wr (w2.setCell ⟨a,0,none⟩ v2)):=fun w1 w2 v2 hc ho hg=>by
    rw [←hv2]at hg⊢
    exact hE.pushed hc ho hg
   obtain⟨z,hz⟩: ∃z:Int,z=((m+1:Nat):Int):=⟨_,rfl⟩
   have HZ:Hid (z=((m+1:Nat):Int)):=hz
   have z1:0<z:=by omega
   have z2:z≤140737488355328:=by omega
   have k2':wr.cell? ⟨a,2,none⟩=some (.int .i64 z):=by rw [hz];exact k2
   have HONE:Hid (∀u∈ [Value.int .u8 (x:Int)],u.oneCell'=true):=one8e x
   clear k2 k3 k4 kf hz hv hv2 hE
   obtain⟨n,hn⟩: ∃n,n=s'.length:=⟨_,rfl⟩
   obtain⟨xs,hxs⟩: ∃xs,xs=ins .u8 (nums s'):=⟨_,rfl⟩
   rw [←hn,←hxs]at hown
   rw [←hn]at k0
   have HN:Hid (n=s'.length):=hn
   have HXS:Hid (xs=ins .u8 (nums s')):=hxs
   have HOWN:Hid (wr.ownsRow B 5 1 (.slice ad n cap) n xs):=hown
   have HLEN:Hid (n+1≤140737488355328):=by show n+1≤_;omega
   have HBB:Hid (B≤wr.heap.size):=hB2
   have HPU:Hid (∀w1 w2 v2,Chg (fun _=>False) wr w1→w2.ownsRow B 5 1 v2 (n+1) (xs++[.int .u8 (x:Int)])→w1.grownBy w2 (Value.slice ad n cap).ownBlock→w2.heap[a]?=some (.cells #[.slice ad n cap,.int .u8 (x:Int),.int .i64 z,.int .u32 (t:Int),.int .u32 (R:Int)] 141 (0,0))):=fun w1 w2 v2 hc ho hg=>by
    rw [hn,hxs]at ho
    rw [hn]at hg⊢
    have hz:=HZ.out
    rw [hz]
    exact(HPB.out w1 w2 v2 hc ho hg).1
   have HPW:Hid (∀w1 w2 v2,Chg (fun _=>False) wr w1→w2.ownsRow B 5 1 v2 (n+1) (xs++[.int .u8 (x:Int)])→w1.grownBy w2 (Value.slice ad n cap).ownBlock→Hid (En (w2.setCell ⟨a,0,none⟩ v2) B a v2 ⟨s'++[x],x,m+1,t⟩ R∧Chg (Foot a (.slice ad n cap)) wr (w2.setCell ⟨a,0,none⟩ v2))):=fun w1 w2 v2 hc ho hg=>by
    rw [hn,hxs]at ho
    rw [hn]at hg⊢
    have h3:=(HPB.out w1 w2 v2 hc ho hg).2
    rw [HV.out]at h3
    exact h3
   have HV2:Hid (v'= .slice ad n cap):=by show v'=_;rw [hn];exact HV.out
   clear hown hn hxs HPB HV
   go_wp2_with fail
   refine wp_region_phase (mk:=fun u=> #[_,_,_,_,_,_,_,_,_,_,_,_,_,_,_,_,_,_,_,_,_,u 21,u 22,u 23,u 24,u 25,u 26,u 27,u 28,u 29,u 30,u 31,u 32,u 33,_,_,_]) (G:=lookG [(21,.pointer (some ⟨a,0,none⟩)),(22,.pointer (some ⟨a,0,none⟩)),(23,.pointer (some ⟨a,0,none⟩)),(24,.pointer (some ⟨a,0,none⟩)),(25,.slice ad n cap),(26,.pointer (some ⟨a,0,none⟩)),(27,.pointer (some ⟨a,0,none⟩)),(28,.pointer (some ⟨a,1,none⟩)),(29,.int .u8 (x:Int)),(32,.pointer (some ⟨a,0,none⟩)),(33,.pointer (some ⟨a,0,none⟩))]) (J:=fun q u w=>w.cell? ⟨a,0,none⟩=some (.slice ad n cap)∧w.cell? ⟨a,1,none⟩=some (.int .u8 (x:Int))∧PushJ wr B (.slice ad n cap) n xs x (u 30) (u 31) q w) [9,10] (fun slot=>match slot with|21=>u21|22=>u22|23=>u23|24=>u24|25=>u25|26=>u26|27=>u27|28=>u28|29=>u29|30=>u30|31=>u31|32=>u32|33=>u33|_=>undef) rfl (by kernel_rfl) 13 _ rfl rfl (by kernel_rfl) (by kernel_rfl) (by kernel_rfl) (by decide) ?_ ?_ ?_ ?_ ?_
   ·repeat (refine⟨⟨_,rfl,fun _ _=>rfl⟩,?_⟩)
    exact trivial
   ·intro q u u2 w h hj
    have e1:u 30=u2 30:=h 9 (by decide)
    have e2:u 31=u2 31:=h 10 (by decide)
    show _∧_∧PushJ wr B (.slice ad n cap) n xs x (u2 30) (u2 31) q w
    rw [←e1,←e2]
    exact hj
   ·exact⟨cell_chg k0 (Chg.refl _ wr).drew,cell_chg k1 (Chg.refl _ wr).drew,(Chg.refl _ wr).drew⟩
   ·refine⟨?_,?_,?_,?_,?_,?_,?_,?_,?_,?_,?_,?_,?_,trivial⟩
    ·show StepR _ _ _ _ _ _ _
     unfold StepR
     intro q u w hj hd K hK
     clear hd
     go_simp
     exact hK.out (.pointer (some ⟨a,0,none⟩)) rfl
    ·show StepR _ _ _ _ _ _ _
     unfold StepR
     intro q u w hj hd K hK
     clear hd
     go_simp
     exact hK.out (.pointer (some ⟨a,0,none⟩)) rfl
    ·show StepR _ _ _ _ _ _ _
     unfold StepR
     intro q u w hj hd K hK
     have h22:u 22= .pointer (some ⟨a,0,none⟩):=hd.get 1 (by kernel_rfl)
     clear hd
     simp only [h22]at hK
     go_simp
     exact hK.out (.pointer (some ⟨a,0,none⟩)) rfl
    ·show StepR _ _ _ _ _ _ _
     unfold StepR
     intro q u w hj hd K hK
     have h23:u 23= .pointer (some ⟨a,0,none⟩):=hd.get 2 (by kernel_rfl)
     clear hd
     simp only [h23]at hK
     go_simp
     exact hK.out (.pointer (some ⟨a,0,none⟩)) rfl
    ·show StepR _ _ _ _ _ _ _
     unfold StepR
     intro q u w hj hd K hK
     have h24:u 24= .pointer (some ⟨a,0,none⟩):=hd.get 3 (by kernel_rfl)
     clear hd
     simp only [h24]at hK
     have hcell:=hj.1
     go_simp
     exact hK.out _ rfl
    ·show StepR _ _ _ _ _ _ _
     unfold StepR
     intro q u w hj hd K hK
     clear hd
     go_simp
     exact hK.out (.pointer (some ⟨a,0,none⟩)) rfl
    ·show StepR _ _ _ _ _ _ _
     unfold StepR
     intro q u w hj hd K hK
     have h26:u 26= .pointer (some ⟨a,0,none⟩):=hd.get 5 (by kernel_rfl)
     clear hd
     simp only [h26]at hK
     go_simp
     exact hK.out (.pointer (some ⟨a,0,none⟩)) rfl
    ·show StepR _ _ _ _ _ _ _
     unfold StepR
     intro q u w hj hd K hK
     have h27:u 27= .pointer (some ⟨a,0,none⟩):=hd.get 6 (by kernel_rfl)
     clear hd
     simp only [h27]at hK
     go_simp
     exact hK.out (.pointer (some ⟨a,1,none⟩)) rfl
    ·show StepR _ _ _ _ _ _ _
     unfold StepR
     intro q u w hj hd K hK
     have h28:u 28= .pointer (some ⟨a,1,none⟩):=hd.get 7 (by kernel_rfl)
     clear hd
     simp only [h28]at hK
     have hcell:=hj.2.1
     go_simp
     exact hK.out _ rfl
    ·show StepW _ _ _ _ _ _ 0 _
     unfold StepW
     intro u w hj hd K hK
     have h29:u 29= .int .u8 (x:Int):=hd.get 8 (by kernel_rfl)
     clear hd
     simp only [h29]at hK
     obtain⟨j0,j1,hc⟩:=hj
     go_simp
     have c2:=chg_one w (.cells #[.int .u8 (x:Int)] 5)
     exact hK.out _ _ ⟨cell_chg j0 c2,cell_chg j1 c2,chg_then hc c2,_,rfl,from_one8 w (.int .u8 (x:Int)) 5⟩ trivial
    ·show StepW _ _ _ _ _ _ 1 _
     unfold StepW
     intro u w hj hd K hK
     have h25:u 25= .slice ad n cap:=hd.get 4 (by kernel_rfl)
     clear hd
     obtain⟨j0,j1,hc,c,hq,hf⟩:=hj
     refine step_append_moved (a:=⟨_,[]⟩) (by rfl) (.tmp 25) (.tmp 30) 38 (by rfl) B 5 i0 (.int .u8 0) 1 1 Tryz.underlying38 hi hz0 hz1 hz2 rfl (by decide) (.slice ad n cap) n xs (by exact h25) (some ⟨c,0,none⟩) 1 1 (by exact hq) [.int .u8 (x:Int)] (ownsRow_keep HOWN.out hc (fun _ _ f=>f)) hf HONE.out (by have:=HLEN.out;unfold maxLen;omega) (by have:=HLEN.out;omega) (by have:=hc.size;have:=HBB.out;omega) ?_
     intro v2 w2 ho hg hm
     have b2:=HPU.out w w2 v2 hc ho hg
     exact hK.out v2 w2 ⟨(cells5e b2).1,(cells5e b2).2.1,w,hc,ho,hg,hm⟩ trivial
    ·show StepR _ _ _ _ _ _ _
     unfold StepR
     intro q u w hj hd K hK
     have h21:u 21= .pointer (some ⟨a,0,none⟩):=hd.get 0 (by kernel_rfl)
     clear hd
     simp only [h21]at hK
     go_simp
     exact hK.out (.pointer (some ⟨a,0,none⟩)) rfl
    ·show StepR _ _ _ _ _ _ _
     unfold StepR
     intro q u w hj hd K hK
     have h32:u 32= .pointer (some ⟨a,0,none⟩):=hd.get 11 (by kernel_rfl)
     clear hd
     simp only [h32]at hK
     go_simp
     exact hK.out (.pointer (some ⟨a,0,none⟩)) rfl
   ·intro u w hj hA K hK
    have e33:u 33= .pointer (some ⟨a,0,none⟩):=hA.at 33 (by kernel_rfl)
    clear hA
    obtain⟨j0,j1,w1,hc,ho,hg,hm⟩:=hj
    obtain⟨ad2,cap2,e31,_⟩:=own_any ho
    rw [e31]at ho hm
    have b2:=HPU.out w1 w _ hc ho hg
    have f0:=(cells5e b2).2.2.2.2.2 0
    have HPU2:=HPW.out w1 w _ hc ho hg
    have HM:Hid (Moved wr (.slice ad n cap) (.slice ad2 (n+1) cap2)):=moved_from hc.size hm
    clear j1 hc ho hg hm b2
    go_simp
    refine hK.out _ _ ?_
    generalize w.setCell ⟨a,0,none⟩ (.slice ad2 (n+1) cap2)=w4 at*
    obtain⟨hE4,hC4⟩:=HPU2.out
    have q1:w4.cell? ⟨a,1,none⟩=some (.int .u8 (x:Int)):=(cells5e hE4.blk).2.1
    have q2:w4.cell? ⟨a,2,none⟩=some (.int .i64 z):=by have hz:=HZ.out;rw [hz];exact(cells5e hE4.blk).2.2.1
    have g1:=(cells5e hE4.blk).2.2.2.2.2 1
    have g2:=(cells5e hE4.blk).2.2.2.2.2 2
    obtain⟨hE5,hC5⟩:=hE4.setH 0 0 rfl
    obtain⟨hE6,hC6⟩:=hE5.setN m (z-1) (by have hz:=HZ.out;omega)
    have HE6:Hid (En ((w4.setCell ⟨a,1,none⟩ (.int .u8 0)).setCell ⟨a,2,none⟩ (.int .i64 (z-1))) B a (.slice ad2 (n+1) cap2) ⟨s'++[x],0,m,t⟩ R):=hE6
    have HC6:Hid (Chg (Foot a v) w0 ((w4.setCell ⟨a,1,none⟩ (.int .u8 0)).setCell ⟨a,2,none⟩ (.int .i64 (z-1)))∧Moved w0 v (.slice ad2 (n+1) cap2)):=by
     have hx:=HX.out
     rw [HV2.out]at hx
     exact foot_step hx.1 hx.2 ((hC4.trans hC5 (fun _ e=> .inl (.inl e))).trans hC6 (fun _ e=> .inl (.inl e))) HM.out
    have q6:((w4.setCell ⟨a,1,none⟩ (.int .u8 0)).setCell ⟨a,2,none⟩ (.int .i64 (z-1))).cell? ⟨a,2,none⟩=some (.int .i64 (z-1)):=by
     have hz:=HZ.out
     rw [show z-1=(m:Int) by omega]at hE6⊢
     exact(cells5e hE6.blk).2.2.1
    have Q6:Hid (((w4.setCell ⟨a,1,none⟩ (.int .u8 0)).setCell ⟨a,2,none⟩ (.int .i64 (z-1))).cell? ⟨a,2,none⟩=some (.int .i64 (z-1))):=q6
    clear q6 hE4 hC4 hE5 hC5 hE6 hC6 HPU HPW HPU2 HX HM j0 f0 k0 k1
    go_simp
    go_wp2
    go_roundw
    case rel=>exact⟨s'++[x],0,m,_,by omega,by have:=HN.out;simp;omega,HE6.out,by have:=HF.out;rw [←fin_succ]at this;exact this,HC6.out.1,HC6.out.2⟩
    case measure=>
     rw [Q6.out,k2']
     show(z-1).toNat<z.toNat
     omega
set_option maxHeartbeats 2000000 in
set_option maxRecDepth 100000 in
theorem settle_any (B a:Nat)(v:Value)(s:List Nat)(x r t R:Nat)(w0:World)(h:En w0 B a v ⟨s,x,r,t⟩ R)(hl:s.length+r+1≤140737488355328)(hB:B≤w0.heap.size):
  Calls Tryz.prog 221 #[.pointer (some ⟨a,0,none⟩)] w0 fun e w'=>e= .returned (.tuple #[])∧ ∃v',En w' B a v' ⟨s++x::List.replicate r 255,x,0,t⟩ R∧Chg (Foot a v) w0 w'∧Moved w0 v v':=by
 obtain⟨i0,hi,hz0,hz1,hz2⟩:=info_parts infoU8
 have hE:=h
 obtain⟨ad,cap,hv,_⟩:=own_any hE.own
 obtain⟨k0,k1,k2,k3,k4,kf⟩:=cells5e hE.blk
 have hv2:v= .slice ad (s).length cap:=hv
 have HV:Hid (v= .slice ad (s).length cap):=hv2
 rw [hv2]at k0
 have hown:w0.ownsRow B 5 1 (.slice ad (s).length cap) (s).length (ins .u8 (nums (s))):=by rw [←hv2];exact hE.own
 have HPB:Hid (∀w1 w2 v2,Chg (fun _=>False) w0 w1→w2.ownsRow B 5 1 v2 ((s).length+1) (ins .u8 (nums (s))++[.int .u8 ((x:Nat):Int)])→w1.grownBy w2 (Value.slice ad (s).length cap).ownBlock→w2.heap[a]?=some (.cells #[.slice ad (s).length cap,.int .u8 ((x:Nat):Int),.int .i64 ((r:Nat):Int),.int .u32 ((t:Nat):Int),.int .u32 (R:Int)] 141 (0,0))∧En (w2.setCell ⟨a,0,none⟩ v2) B a v2 ⟨s++[x],x,r,t⟩ R∧Chg (Foot a v) w0 (w2.setCell ⟨a,0,none⟩ v2)):=fun w1 w2 v2 hc ho hg=>by
  rw [←hv2]at hg⊢
  exact hE.pushed hc ho hg
 have HONE:Hid (∀u∈ [Value.int .u8 (x:Int)],u.oneCell'=true):=one8e x
 clear k2 k3 k4 kf hv hE h
 obtain⟨n,hn⟩: ∃n,n=(s).length:=⟨_,rfl⟩
 obtain⟨xs,hxs⟩: ∃xs,xs=ins .u8 (nums (s)):=⟨_,rfl⟩
 rw [←hn,←hxs]at hown
 rw [←hn]at k0
 have HN:Hid (n=(s).length):=hn
 have HXS:Hid (xs=ins .u8 (nums (s))):=hxs
 have HOWN:Hid (w0.ownsRow B 5 1 (.slice ad n cap) n xs):=hown
 have HLEN:Hid (n+1≤140737488355328):=by show n+1≤_;omega
 have HBB:Hid (B≤w0.heap.size):=hB
 have HPU:Hid (∀w1 w2 v2,Chg (fun _=>False) w0 w1→w2.ownsRow B 5 1 v2 (n+1) (xs++[.int .u8 (x:Int)])→w1.grownBy w2 (Value.slice ad n cap).ownBlock→w2.heap[a]?=some (.cells #[.slice ad n cap,.int .u8 (x:Int),.int .i64 (r:Int),.int .u32 (t:Int),.int .u32 (R:Int)] 141 (0,0))):=fun w1 w2 v2 hc ho hg=>by
  rw [hn,hxs]at ho
  rw [hn]at hg⊢
  exact(HPB.out w1 w2 v2 hc ho hg).1
 have HPW:Hid (∀w1 w2 v2,Chg (fun _=>False) w0 w1→w2.ownsRow B 5 1 v2 (n+1) (xs++[.int .u8 (x:Int)])→w1.grownBy w2 (Value.slice ad n cap).ownBlock→Hid (En (w2.setCell ⟨a,0,none⟩ v2) B a v2 ⟨s++[x],x,r,t⟩ R∧Chg (Foot a v) w0 (w2.setCell ⟨a,0,none⟩ v2))):=fun w1 w2 v2 hc ho hg=>by
  rw [hn,hxs]at ho
  rw [hn]at hg
  exact(HPB.out w1 w2 v2 hc ho hg).2
 have HV2:Hid (v= .slice ad n cap):=by show v=_;rw [hn];exact HV.out
 clear hown hn hxs HPB HV hv2
 go_enter Tryz.func221,Tryz.ntmps221
 go_wp2_with fail
 refine wp_region_phase (mk:=fun u=> #[_,_,u 2,u 3,u 4,u 5,u 6,u 7,u 8,u 9,u 10,u 11,u 12,u 13,u 14,_,_,_,_,_,_,_,_,_,_,_,_,_,_,_,_,_,_,_,_,_]) (G:=lookG [(2,.pointer (some ⟨a,0,none⟩)),(3,.pointer (some ⟨a,0,none⟩)),(4,.pointer (some ⟨a,0,none⟩)),(5,.pointer (some ⟨a,0,none⟩)),(6,.slice ad n cap),(7,.pointer (some ⟨a,0,none⟩)),(8,.pointer (some ⟨a,0,none⟩)),(9,.pointer (some ⟨a,1,none⟩)),(10,.int .u8 (x:Int)),(13,.pointer (some ⟨a,0,none⟩)),(14,.pointer (some ⟨a,0,none⟩))]) (J:=fun q u w=>w.cell? ⟨a,0,none⟩=some (.slice ad n cap)∧w.cell? ⟨a,1,none⟩=some (.int .u8 (x:Int))∧PushJ w0 B (.slice ad n cap) n xs x (u 11) (u 12) q w) [9,10] (fun _=>undef) rfl (by kernel_rfl) 13 _ rfl rfl (by kernel_rfl) (by kernel_rfl) (by kernel_rfl) (by decide) ?_ ?_ ?_ ?_ ?_
 ·repeat (refine⟨⟨_,rfl,fun _ _=>rfl⟩,?_⟩)
  exact trivial
 ·intro q u u2 w h hj
  have e1:u 11=u2 11:=h 9 (by decide)
  have e2:u 12=u2 12:=h 10 (by decide)
  show _∧_∧PushJ w0 B (.slice ad n cap) n xs x (u2 11) (u2 12) q w
  rw [←e1,←e2]
  exact hj
 ·exact⟨cell_chg k0 (Chg.refl _ w0).drew,cell_chg k1 (Chg.refl _ w0).drew,(Chg.refl _ w0).drew⟩
 ·refine⟨?_,?_,?_,?_,?_,?_,?_,?_,?_,?_,?_,?_,?_,trivial⟩
  ·show StepR _ _ _ _ _ _ _
   unfold StepR
   intro q u w hj hd K hK
   clear hd
   go_simp
   exact hK.out (.pointer (some ⟨a,0,none⟩)) rfl
  ·show StepR _ _ _ _ _ _ _
   unfold StepR
   intro q u w hj hd K hK
   clear hd
   go_simp
   exact hK.out (.pointer (some ⟨a,0,none⟩)) rfl
  ·show StepR _ _ _ _ _ _ _
   unfold StepR
   intro q u w hj hd K hK
   have h3:u 3= .pointer (some ⟨a,0,none⟩):=hd.get 1 (by kernel_rfl)
   clear hd
   simp only [h3]at hK
   go_simp
   exact hK.out (.pointer (some ⟨a,0,none⟩)) rfl
  ·show StepR _ _ _ _ _ _ _
   unfold StepR
   intro q u w hj hd K hK
   have h4:u 4= .pointer (some ⟨a,0,none⟩):=hd.get 2 (by kernel_rfl)
   clear hd
   simp only [h4]at hK
   go_simp
   exact hK.out (.pointer (some ⟨a,0,none⟩)) rfl
  ·show StepR _ _ _ _ _ _ _
   unfold StepR
   intro q u w hj hd K hK
   have h5:u 5= .pointer (some ⟨a,0,none⟩):=hd.get 3 (by kernel_rfl)
   clear hd
   simp only [h5]at hK
   have hcell:=hj.1
   go_simp
   exact hK.out _ rfl
  ·show StepR _ _ _ _ _ _ _
   unfold StepR
   intro q u w hj hd K hK
   clear hd
   go_simp
   exact hK.out (.pointer (some ⟨a,0,none⟩)) rfl
  ·show StepR _ _ _ _ _ _ _
   unfold StepR
   intro q u w hj hd K hK
   have h7:u 7= .pointer (some ⟨a,0,none⟩):=hd.get 5 (by kernel_rfl)
   clear hd
   simp only [h7]at hK
   go_simp
   exact hK.out (.pointer (some ⟨a,0,none⟩)) rfl
  ·show StepR _ _ _ _ _ _ _
   unfold StepR
   intro q u w hj hd K hK
   have h8:u 8= .pointer (some ⟨a,0,none⟩):=hd.get 6 (by kernel_rfl)
   clear hd
   simp only [h8]at hK
   go_simp
   exact hK.out (.pointer (some ⟨a,1,none⟩)) rfl
  ·show StepR _ _ _ _ _ _ _
   unfold StepR
   intro q u w hj hd K hK
   have h9:u 9= .pointer (some ⟨a,1,none⟩):=hd.get 7 (by kernel_rfl)
   clear hd
   simp only [h9]at hK
   have hcell:=hj.2.1
   go_simp
   exact hK.out _ rfl
  ·show StepW _ _ _ _ _ _ 0 _
   unfold StepW
   intro u w hj hd K hK
   have h10:u 10= .int .u8 (x:Int):=hd.get 8 (by kernel_rfl)
   clear hd
   simp only [h10]at hK
   obtain⟨j0,j1,hc⟩:=hj
   go_simp
   have c2:=chg_one w (.cells #[.int .u8 (x:Int)] 5)
   exact hK.out _ _ ⟨cell_chg j0 c2,cell_chg j1 c2,chg_then hc c2,_,rfl,from_one8 w (.int .u8 (x:Int)) 5⟩ trivial
  ·show StepW _ _ _ _ _ _ 1 _
   unfold StepW
   intro u w hj hd K hK
   have h6:u 6= .slice ad n cap:=hd.get 4 (by kernel_rfl)
   clear hd
   obtain⟨j0,j1,hc,c,hq,hf⟩:=hj
   refine step_append_moved (a:=⟨_,[]⟩) (by rfl) (.tmp 6) (.tmp 11) 38 (by rfl) B 5 i0 (.int .u8 0) 1 1 Tryz.underlying38 hi hz0 hz1 hz2 rfl (by decide) (.slice ad n cap) n xs (by exact h6) (some ⟨c,0,none⟩) 1 1 (by exact hq) [.int .u8 (x:Int)] (ownsRow_keep HOWN.out hc (fun _ _ f=>f)) hf HONE.out (by have:=HLEN.out;unfold maxLen;omega) (by have:=HLEN.out;omega) (by have:=hc.size;have:=HBB.out;omega) ?_
   intro v2 w2 ho hg hm
   have b2:=HPU.out w w2 v2 hc ho hg
   exact hK.out v2 w2 ⟨(cells5e b2).1,(cells5e b2).2.1,w,hc,ho,hg,hm⟩ trivial
  ·show StepR _ _ _ _ _ _ _
   unfold StepR
   intro q u w hj hd K hK
   have h2:u 2= .pointer (some ⟨a,0,none⟩):=hd.get 0 (by kernel_rfl)
   clear hd
   simp only [h2]at hK
   go_simp
   exact hK.out (.pointer (some ⟨a,0,none⟩)) rfl
  ·show StepR _ _ _ _ _ _ _
   unfold StepR
   intro q u w hj hd K hK
   have h13:u 13= .pointer (some ⟨a,0,none⟩):=hd.get 11 (by kernel_rfl)
   clear hd
   simp only [h13]at hK
   go_simp
   exact hK.out (.pointer (some ⟨a,0,none⟩)) rfl
 ·intro u w hj hA K hK
  have e14:u 14= .pointer (some ⟨a,0,none⟩):=hA.at 14 (by kernel_rfl)
  clear hA
  obtain⟨j0,j1,w1,hc,ho,hg,hm⟩:=hj
  obtain⟨ad2,cap2,e12,_⟩:=own_any ho
  rw [e12]at ho hm
  have b2:=HPU.out w1 w _ hc ho hg
  have f0:=(cells5e b2).2.2.2.2.2 0
  have HPU2:=HPW.out w1 w _ hc ho hg
  have HM:Hid (Moved w0 (.slice ad n cap) (.slice ad2 (n+1) cap2)):=moved_from hc.size hm
  clear j1 hc ho hg hm b2
  go_simp
  refine hK.out _ _ ?_
  have HM2:Hid (Moved w0 v (.slice ad2 (n+1) cap2)):=by show Moved _ v _;rw [HV2.out];exact HM.out
  have HL:Hid ((s++[x]).length+r=s.length+1+r):=by show _=_;simp
  generalize w.setCell ⟨a,0,none⟩ (.slice ad2 (n+1) cap2)=w4 at*
  clear HPU HPW HOWN HM k0 k1 j0 f0 HV2 HXS HONE
  go_simp
  go_wp2_with fail
  go_loopw [15] (fun _ wr=> ∃(s':List Nat) (m:Nat) (v':Value),s'.length+m=s.length+1+r∧En wr B a v' ⟨s',x,m,t⟩ R∧Hid (s'++List.replicate m 255=s++x::List.replicate r 255)∧Chg (Foot a v) w0 wr∧Moved w0 v v') (fun _ wr=>match wr.cell? ⟨a,2,none⟩with|some (.int _ q)=>q.toNat|_=>0)
  case atStart=>exact⟨s++[x],r,_,HL.out,HPU2.out.1,by show _=_;simp,HPU2.out.2,HM2.out⟩
  case round=>
   clear HPU2 HM2 HL HN
   obtain⟨s',m,v',hlen,hE,HF,hC,hM⟩:=hrel
   have hB2:B≤wr.heap.size:=Nat.le_trans hB hC.size
   have HX:Hid (Chg (Foot a v) w0 wr∧Moved w0 v v'):=⟨hC,hM⟩
   clear hC hM
   cases m with
   |zero=>
    have k2:wr.cell? ⟨a,2,none⟩=some (.int .i64 0):=(cells5e hE.blk).2.2.1
    have HE:Hid (En wr B a v' ⟨s++x::List.replicate r 255,x,0,t⟩ R):=by
     have h1:=HF.out
     rw [List.replicate_zero,List.append_nil]at h1
     show En wr B a v' ⟨s++x::List.replicate r 255,x,0,t⟩ R
     rw [←h1]
     exact hE
    clear hE HF
    go_wp2
    go_end0
    exact⟨rfl,v',HE.out,HX.out.1,HX.out.2⟩
   |succ m=>
    clear HLEN
    obtain⟨ad,cap,hv,_⟩:=own_any hE.own
    obtain⟨k0,k1,k2,k3,k4,kf⟩:=cells5e hE.blk
    have hv2:v'= .slice ad s'.length cap:=hv
    rw [hv2]at k0 hE HX
    have f0:=kf 0
    have hown:wr.ownsRow B 5 1 (.slice ad s'.length cap) s'.length (ins .u8 (nums s')):=hE.own
    obtain⟨z,hz⟩: ∃z:Int,z=((m+1:Nat):Int):=⟨_,rfl⟩
    have HZ:Hid (z=((m+1:Nat):Int)):=hz
    have z1:0<z:=by omega
    have z2:z≤140737488355328:=by omega
    have k2':wr.cell? ⟨a,2,none⟩=some (.int .i64 z):=by rw [hz];exact k2
    have c1:=chg_one wr (.cells #[.int .u8 255] 5)
    have o2:=hown.alloc (.cells #[.int .u8 255] 5)
    have hfr:=from_one8 wr (.int .u8 255) 5
    have hone: ∀u∈ [Value.int .u8 255],u.oneCell'=true:=one8e 255
    have hsz:B≤(wr.alloc (.cells #[.int .u8 255] 5)).heap.size:=Nat.le_trans hB2 c1.size
    have HP:Hid (∀w2 v2,w2.ownsRow B 5 1 v2 (s'.length+1) (ins .u8 (nums s')++[.int .u8 255])→(wr.alloc (.cells #[.int .u8 255] 5)).grownBy w2 (Value.slice ad s'.length cap).ownBlock→w2.heap[a]?=some (.cells #[.slice ad s'.length cap,.int .u8 (x:Int),.int .i64 z,.int .u32 (t:Int),.int .u32 (R:Int)] 141 (0,0))∧En (w2.setCell ⟨a,0,none⟩ v2) B a v2 ⟨s'++[255],x,m+1,t⟩ R∧Chg (Foot a (.slice ad s'.length cap)) wr (w2.setCell ⟨a,0,none⟩ v2)):=fun w2 v2 ho hg=>by
     have hz:=HZ.out
     rw [hz]
     exact hE.pushed (x:=255) (chg_one wr (.cells #[.int .u8 255] 5)) ho hg
    have HC1:Hid (wr.heap.size≤(wr.alloc (.cells #[.int .u8 255] 5)).heap.size):=c1.size
    clear hE k2 k3 k4 kf hv hv2 hown hz c1 k1
    go_wp2_with (at_builtin;refine wpList_append_moved rfl _ _ 38 rfl B 5 i0 (.int .u8 0) 1 1 Tryz.underlying38 hi hz0 hz1 hz2 rfl (by decide) _ s'.length (ins .u8 (nums s')) rfl (some ⟨wr.heap.size,0,none⟩) 1 1 rfl [.int .u8 255] o2 hfr hone (by unfold maxLen;omega) (by omega) hsz ?_)
    intro v2 w2 ho hg hm
    obtain⟨ad2,cap2,hv2,_⟩:=own_any ho
    subst hv2
    obtain⟨b2,hE4,hC4⟩:=HP.out _ _ ho hg
    have p0:=(cells5e b2).1
    have p2:=(cells5e b2).2.2.1
    have pf0:=(cells5e b2).2.2.2.2.2 0
    have pf2:=(cells5e b2).2.2.2.2.2 2
    have HM:Hid (Moved wr (.slice ad s'.length cap) (.slice ad2 (s'.length+1) cap2)):=moved_from HC1.out hm
    obtain⟨hE6,hC6⟩:=hE4.setN m (z-1) (by have hz:=HZ.out;omega)
    have HE6:Hid (En ((w2.setCell ⟨a,0,none⟩ (.slice ad2 (s'.length+1) cap2)).setCell ⟨a,2,none⟩ (.int .i64 (z-1))) B a (.slice ad2 (s'.length+1) cap2) ⟨s'++[255],x,m,t⟩ R):=hE6
    have HC6:Hid (Chg (Foot a v) w0 ((w2.setCell ⟨a,0,none⟩ (.slice ad2 (s'.length+1) cap2)).setCell ⟨a,2,none⟩ (.int .i64 (z-1)))∧Moved w0 v (.slice ad2 (s'.length+1) cap2)):=
     foot_step HX.out.1 HX.out.2 (hC4.trans hC6 (fun _ e=> .inl (.inl e))) HM.out
    have Q6:Hid (((w2.setCell ⟨a,0,none⟩ (.slice ad2 (s'.length+1) cap2)).setCell ⟨a,2,none⟩ (.int .i64 (z-1))).cell? ⟨a,2,none⟩=some (.int .i64 (z-1))):=by
     have hz:=HZ.out
     show _=_
     rw [show z-1=(m:Int) by omega]at hE6⊢
     exact(cells5e hE6.blk).2.2.1
    clear hE4 hC4 hE6 hC6 HP HX HM ho hg hm b2 o2 hfr hone hsz
    go_wp2
    go_roundw
    case rel=>exact⟨s'++[255],m,_,by simp;omega,HE6.out,by have:=HF.out;rw [List.replicate_succ]at this;show _=_;simpa using this,HC6.out.1,HC6.out.2⟩
    case measure=>
     rw [Q6.out,k2']
     show(z-1).toNat<z.toNat
     omega
end Go.Proofs.YthideplpcnhncaaGreatDoor
