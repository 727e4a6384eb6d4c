/- Of no statement by itself: Ja, Jb, Sv, Lay, Sa, Sb, Sc, Va, Vd, Sn, Vf (without blanks and remarks). -/
import Derived.Test.YthideplpcnhncaaGreatDoorB4Wb
import Derived.Test.YthideplpcnhncaaGreatDoorB7EnG
import Derived.Test.YthideplpcnhncaaGreatDoorB5New
import Derived.Test.YthideplpcnhncaaGreatDoorB0Base
import Derived.BigQuiet
import Derived.Laws.StructEq
import Derived.Deep.QuietTactic
import Derived.ProofKit
import Derived.LaidMore
import Derived.OpenShut
import Derived.Stop.Joined
import Derived.SizedLaws
namespace Go.Proofs.YthideplpcnhncaaGreatDoor
set_option linter.unusedVariables false
set_option linter.unusedSimpArgs false
open St12 Sy13
namespace Lz14
def cntS (p:Prp):Nat→Nat
 |0=>12
 |1=>12
 |6=>2^(p.lc+p.lp).toNat
 |8=>2^p.pb.toNat
 |9=>2^p.pb.toNat
 |12=>2^p.pb.toNat
 |13=>2^p.pb.toNat
 |15=>4
 |16=>10
 |_=>1
def lnS (p:Prp):Nat→Nat
 |0=>2^p.pb.toNat
 |1=>2^p.pb.toNat
 |2=>12
 |3=>12
 |4=>12
 |5=>12
 |6=>768
 |7=>2
 |8=>8
 |9=>8
 |10=>256
 |11=>2
 |12=>8
 |13=>8
 |14=>256
 |15=>64
 |16=>32
 |_=>16
def unS:Nat→Nat→Nat→Nm×Nat
 |0,a,j=>(nIsMatch a j,0)
 |1,a,j=>(nIsLong a j,0)
 |2,a,j=>(nIsRep j,0)
 |3,a,j=>(nIsRep0 j,0)
 |4,a,j=>(nIsRep1 j,0)
 |5,a,j=>(nIsRep2 j,0)
 |6,a,j=>(nLit a,j)
 |7,a,j=>(if j=0 then nChoice 0 else nChoice2 0,0)
 |8,a,j=>(nLow 0 a,j)
 |9,a,j=>(nMid 0 a,j)
 |10,a,j=>(nHigh 0,j)
 |11,a,j=>(if j=0 then nChoice 1 else nChoice2 1,0)
 |12,a,j=>(nLow 1 a,j)
 |13,a,j=>(nMid 1 a,j)
 |14,a,j=>(nHigh 1,j)
 |15,a,j=>(nSlot a,j)
 |16,a,j=>(nRest (a+4),j)
 |_,a,j=>(nAlign,j)
def locS (nm:Nm)(i:Nat):Nat×Nat×Nat:=match nm.t with
 |0=>(0,nm.a,nm.b)
 |1=>(2,0,nm.a)
 |2=>(3,0,nm.a)
 |3=>(4,0,nm.a)
 |4=>(5,0,nm.a)
 |5=>(1,nm.a,nm.b)
 |6=>(6,nm.a,i)
 |7=>(if nm.a=0 then 7 else 11,0,0)
 |8=>(if nm.a=0 then 7 else 11,0,1)
 |9=>(if nm.a=0 then 8 else 12,nm.b,i)
 |10=>(if nm.a=0 then 9 else 13,nm.b,i)
 |11=>(if nm.a=0 then 10 else 14,0,i)
 |12=>(15,nm.a,i)
 |13=>(16,nm.a-4,i)
 |_=>(17,0,i)
theorem t18 {t:Nat}(h:t≤17):t=0∨t=1∨t=2∨t=3∨t=4∨t=5∨t=6∨t=7∨t=8∨t=9∨t=10∨t=11∨t=12∨t=13∨t=14∨t=15∨t=16∨t=17:=by omega
theorem loc_un {p:Prp}{t a j:Nat}(ht:t≤17)(ha:a<cntS p t)(hj:j<lnS p t):locS (unS t a j).1 (unS t a j).2=(t,a,j):=by
 rcases t18 ht with rfl|rfl|rfl|rfl|rfl|rfl|rfl|rfl|rfl|rfl|rfl|rfl|rfl|rfl|rfl|rfl|rfl|rfl<;>simp only [cntS,lnS]at ha hj
 ·rfl
 ·rfl
 ·obtain rfl:a=0:=by omega
  rfl
 ·obtain rfl:a=0:=by omega
  rfl
 ·obtain rfl:a=0:=by omega
  rfl
 ·obtain rfl:a=0:=by omega
  rfl
 ·rfl
 ·obtain rfl:a=0:=by omega
  have hj2:j=0∨j=1:=by omega
  rcases hj2 with rfl|rfl<;>rfl
 ·rfl
 ·rfl
 ·obtain rfl:a=0:=by omega
  rfl
 ·obtain rfl:a=0:=by omega
  have hj2:j=0∨j=1:=by omega
  rcases hj2 with rfl|rfl<;>rfl
 ·rfl
 ·rfl
 ·obtain rfl:a=0:=by omega
  rfl
 ·rfl
 ·rfl
 ·obtain rfl:a=0:=by omega
  rfl
def rowS (p:Prp)(pr:Nm→Nat→Int)(t a:Nat):List Int:=(List.range (lnS p t)).map fun j=>pr (unS t a j).1 (unS t a j).2
theorem row_len (p:Prp)(pr:Nm→Nat→Int)(t a:Nat):(rowS p pr t a).length=lnS p t:=by simp [rowS]
theorem row_at {p:Prp}{pr:Nm→Nat→Int}{t a j:Nat}(h:j<(rowS p pr t a).length):(rowS p pr t a)[j]=pr (unS t a j).1 (unS t a j).2:=by simp [rowS]
theorem row_half (p:Prp)(t a:Nat):rowS p fresh t a=List.replicate (lnS p t) 1024:=by
 unfold rowS fresh
 rw [List.map_const']
 simp
theorem row_in {p:Prp}{pr:Nm→Nat→Int}(h: ∀nm i,31≤pr nm i∧pr nm i≤2017)(t a:Nat):In31 (rowS p pr t a):=fun q hq=>by
 obtain⟨j,_,rfl⟩:=List.mem_map.1 hq
 exact h _ _
theorem row_upd {p:Prp}(pr:Nm→Nat→Int){t a j:Nat}(ht:t≤17)(ha:a<cntS p t)(hj:j<lnS p t)(x:Int):rowS p (upd pr (unS t a j).1 (unS t a j).2 x) t a=(rowS p pr t a).set j x:=by
 apply List.ext_getElem
 ·simp [rowS]
 ·intro i h1 h2
  have hi:i<lnS p t:=by rw [row_len]at h1;exact h1
  rw [row_at h1,List.getElem_set]
  unfold upd
  split
  ·next e=>
   have h3:=loc_un ht ha hi
   rw [e.1,e.2,loc_un ht ha hj]at h3
   simp only [Prod.mk.injEq,true_and]at h3
   rw [if_pos h3]
  ·next e=>
   have hne:j≠i:=fun e2=>by subst e2;exact e ⟨rfl,rfl⟩
   rw [if_neg hne,row_at]
theorem row_off {p:Prp}(pr:Nm→Nat→Int){t a j t' a':Nat}(ht:t≤17)(ha:a<cntS p t)(hj:j<lnS p t)(ht':t'≤17)(ha':a'<cntS p t')(hne: ¬(t'=t∧a'=a))(x:Int):rowS p (upd pr (unS t a j).1 (unS t a j).2 x) t' a'=rowS p pr t' a':=by
 apply List.ext_getElem
 ·simp [rowS]
 ·intro i h1 h2
  have hi:i<lnS p t':=by rw [row_len]at h1;exact h1
  rw [row_at h1,row_at h2]
  unfold upd
  rw [if_neg]
  intro e
  have h3:=loc_un ht' ha' hi
  rw [e.1,e.2,loc_un ht ha hj]at h3
  simp only [Prod.mk.injEq]at h3
  exact hne ⟨h3.1.symm,h3.2.1.symm⟩
def lone (t:Nat):Prop:=t=6∨t=8∨t=9∨t=10∨t=12∨t=13∨t=14∨t=15∨t=16∨t=17
theorem lone_un {t:Nat}(h:lone t)(a j:Nat):unS t a j=((unS t a 0).1,j):=by
 rcases h with rfl|rfl|rfl|rfl|rfl|rfl|rfl|rfl|rfl|rfl<;>rfl
theorem lone_le {t:Nat}(h:lone t):t≤17:=by unfold lone at h;omega
def btL (nm:Nm):Nat→List Nat→List Bt
 |_,[]=>[]
 |m,b::l=>⟨some nm,m,b⟩::btL nm (2*m+b) l
theorem bitsOf_cons (n v:Nat):bitsOf false (n+1) v=(v/2^n% 2)::bitsOf false n v:=by
 unfold bitsOf bitAt
 rw [List.range_succ_eq_map,List.map_cons,List.map_map]
 congr 1
 apply List.map_congr_left
 intro i hi
 have:=List.mem_range.1 hi
 simp only [Function.comp,Bool.false_eq_true,if_false,Nat.succ_eq_add_one]
 rw [show n+1-1-(i+1)=n-1-i by omega]
theorem bitsOf_back (n v:Nat):bitsOf true (n+1) v=(v% 2)::bitsOf true n (v/2):=by
 unfold bitsOf bitAt
 rw [List.range_succ_eq_map,List.map_cons,List.map_map]
 simp only [if_true,Nat.pow_zero,Nat.div_one]
 congr 1
 apply List.map_congr_left
 intro i hi
 simp only [Function.comp,Nat.succ_eq_add_one]
 rw [Nat.pow_succ,Nat.mul_comm,Nat.div_div_eq_div_mul]
theorem tw_bt (nm:Nm)(v:Nat): ∀i m,tw nm v i m=btL nm m (bitsOf false i v)
 |0,m=>rfl
 |i+1,m=>by rw [bitsOf_cons,tw,btL,tw_bt nm v i]
theorem bw_bt (nm:Nm): ∀i v m,bw nm i v m=btL nm m (bitsOf true i v)
 |0,v,m=>rfl
 |i+1,v,m=>by rw [bitsOf_back,bw,btL,bw_bt nm i]
theorem tree_bt (nm:Nm)(n v:Nat):treeB nm n v=btL nm 1 (bitsOf false n v):=tw_bt nm v n 1
theorem way_bt (nm:Nm)(n v:Nat):wayB nm n v=btL nm 1 (bitsOf true n v):=bw_bt nm n v 1
theorem enc_bt {p:Prp}{t a:Nat}(hl:lone t)(ha:a<cntS p t): ∀(l:List Nat) (m:Nat) (c:Cd),Bits01 l→(∀q∈wayQ 0 m l,q.ok (lnS p t))→encL (wayQ 0 m l) c.e (rowS p c.pr t a)=((codeL c (btL (unS t a 0).1 m l)).e,rowS p (codeL c (btL (unS t a 0).1 m l)).pr t a)
 | [],m,c,_,_=>rfl
 |b::l,m,c,h01,h=>by
  have hb:b% 2=b:=by have:=h01 b (by simp);omega
  have h1:=h ⟨false,((0+m:Nat):Int),0,b⟩ (by simp [wayQ])
  have hm:m<lnS p t:=by
   simp only [Q.ok,Bool.false_eq_true,if_false]at h1
   omega
  have e1:(⟨false,((0+m:Nat):Int),0,b⟩:Q).ok (rowS p c.pr t a).length:=by rw [row_len];exact h1
  have hu:=lone_un hl a m
  have e2:encX ⟨false,((0+m:Nat):Int),0,b⟩ (rowS p c.pr t a)=rowS p (code1 c ⟨some (unS t a 0).1,m,b⟩).pr t a∧encE ⟨false,((0+m:Nat):Int),0,b⟩ c.e (rowS p c.pr t a)=(code1 c ⟨some (unS t a 0).1,m,b⟩).e:=by
   have hj:m<(rowS p c.pr t a).length:=by rw [row_len];exact hm
   have hp:pAt (rowS p c.pr t a) ((0+m:Nat):Int)=c.pr (unS t a 0).1 m:=by
    unfold pAt
    rw [Nat.zero_add,Int.toNat_natCast,List.getD_eq_getElem?_getD,List.getElem?_eq_getElem hj,Option.getD_some,row_at,hu]
   constructor
   ·show pSet _ _ _=rowS p (upd c.pr (unS t a 0).1 m (Prob.nx (c.pr (unS t a 0).1 m) b)) t a
    have h9:=row_upd c.pr (lone_le hl) ha hm (Prob.nx (c.pr (unS t a 0).1 m) b)
    rw [hu]at h9
    rw [h9]
    unfold pSet
    rw [hp,hb,Nat.zero_add,Int.toNat_natCast]
   ·show coded _ _ _=Rc.cut _ _ _
    rw [hp,hb]
    rfl
  rw [wayQ,encL,if_pos e1,e2.1,e2.2,enc_bt hl ha l (2*m+b) (code1 c ⟨some (unS t a 0).1,m,b⟩) (fun x hx=>h01 x (by simp [hx])) (fun q hq=>h q (by simp [wayQ,hq]))]
  rfl
theorem cost_bt {p:Prp}{t a:Nat}(hl:lone t)(pr:Nm→Nat→Int): ∀(l:List Nat) (m:Nat),(∀q∈wayQ 0 m l,q.ok (lnS p t))→costW (rowS p pr t a) 0 m l=costL pr (btL (unS t a 0).1 m l)
 | [],m,_=>rfl
 |b::l,m,h=>by
  have h1:=h ⟨false,((0+m:Nat):Int),0,b⟩ (by simp [wayQ])
  have hm:m<lnS p t:=by
   simp only [Q.ok,Bool.false_eq_true,if_false]at h1
   omega
  have hu:=lone_un hl a m
  rw [costW,btL,costL,cost_bt hl pr l (2*m+b) (fun q hq=>h q (by simp [wayQ,hq]))]
  congr 1
  rw [Nat.zero_add,List.getD_eq_getElem?_getD,List.getElem?_eq_getElem (by rw [row_len];exact hm),Option.getD_some,row_at,hu]
  rfl
theorem direct_raw (x:Nat): ∀(n:Nat) (c:Cd),codeL c (rawB x n)=⟨c.pr,direct x n c.e⟩
 |0,c=>rfl
 |n+1,c=>by
  show codeL (code1 c ⟨none,0,x/2^n% 2⟩) (rawB x n)=_
  rw [direct_raw x n]
  show(⟨c.pr,direct x n (Rc.half c.e (decide (x/2^n% 2% 2=1)))⟩:Cd)=⟨c.pr,direct x n (Rc.half c.e (decide (x/2^n% 2=1)))⟩
  rw [Nat.mod_mod]
theorem cost_raw (pr:Nm→Nat→Int)(x:Nat): ∀n,costL pr (rawB x n)=16*(n:Int)
 |0=>rfl
 |n+1=>by
  show(16:Int)+costL pr (rawB x n)=_
  rw [cost_raw pr x n]
  omega
end Lz14
end Go.Proofs.YthideplpcnhncaaGreatDoor
namespace Go.Proofs.YthideplpcnhncaaGreatDoor
open Go.RowKit
open St12 Sy13 Lz14
set_option linter.unusedVariables false
set_option linter.unusedSimpArgs false
def ptV (x:Nat×Value):Value:= .pointer (some ⟨x.1,0,none⟩)
def ptsL (f:Nat→Nat×Value)(n:Nat):List Value:=(List.range n).map fun i=>ptV (f i)
theorem ptsL_len (f:Nat→Nat×Value)(n:Nat):(ptsL f n).length=n:=by simp [ptsL]
theorem ptsL_at (f:Nat→Nat×Value){n i:Nat}(h:i<n):(ptsL f n)[i]?=some (ptV (f i)):=by simp [ptsL,h]
structure Fam (w:World) (B n:Nat) (f:Nat→Nat×Value) (g:Nat→List Int):Prop where
 st: ∀i,i<n→St w B (f i).1 (f i).2 (g i)
 ap: ∀i,i<n→ ∀j,j<n→i≠j→(f i).1≠(f j).1∧ ∀z,(f i).2.ownBlock=some z→(f j).2.ownBlock≠some z
theorem St.lt2 {w:World}{B a:Nat}{v:Value}{xs:List Int}(h:St w B a v xs):a<w.heap.size∧ ∀z,v.ownBlock=some z→B≤z∧z<w.heap.size:=⟨lt_of_blk h.blk,fun z e=>h.own.lt z e⟩
theorem St.off {w w':World}{B a g:Nat}{v:Value}{xs:List Int}{cs:Array Value}{t:TypeId}{S:Nat→Prop}(h:St w B a v xs)(hc:Chg S w w')(hS: ∀z,S z→z=g)(hg:w.heap[g]?=some (.cells cs t (0,0)))(h1:t≠222)(h2:t≠226):St w' B a v xs:=by
 refine h.keep hc (fun e=> ?_) (fun z e e2=> ?_)
 ·have:=hS a e
  subst this
  exact ty_ne hg h.blk h1
 ·have:=hS z e2
  subst this
  obtain⟨cur,hcur⟩:=owns_blk h.own e
  exact ty_ne hg hcur h2
theorem Fam.keep {w w':World}{B n:Nat}{f:Nat→Nat×Value}{g:Nat→List Int}{S:Nat→Prop}(h:Fam w B n f g)(hc:Chg S w w')(hS: ∀i,i<n→ ¬S (f i).1∧ ∀z,(f i).2.ownBlock=some z→ ¬S z):Fam w' B n f g:=⟨fun i hi=>(h.st i hi).keep hc (hS i hi).1 (hS i hi).2,h.ap⟩
theorem Fam.new {w w':World}{B n:Nat}{f:Nat→Nat×Value}{g:Nat→List Int}(h:Fam w B n f g)(hc:Chg (fun _=>False) w w'):Fam w' B n f g:=h.keep hc (fun _ _=>⟨fun f=>f,fun _ _ f=>f⟩)
theorem St.down {w:World}{B B' a:Nat}{v:Value}{xs:List Int}(h:St w B a v xs)(hB:B'≤B):St w B' a v xs:=⟨Nat.le_trans hB h.ha,h.blk,owns_base h.own hB⟩
theorem Fam.down {w:World}{B B' n:Nat}{f:Nat→Nat×Value}{g:Nat→List Int}(h:Fam w B n f g)(hB:B'≤B):Fam w B' n f g:=⟨fun i hi=>(h.st i hi).down hB,h.ap⟩
def addF (f:Nat→Nat×Value)(n:Nat)(x:Nat×Value):Nat→Nat×Value:=fun k=>if k=n then x else f k
theorem addF_at (f:Nat→Nat×Value)(n:Nat)(x:Nat×Value):addF f n x n=x:=if_pos rfl
theorem addF_off (f:Nat→Nat×Value){n k:Nat}(x:Nat×Value)(h:k≠n):addF f n x k=f k:=if_neg h
theorem Fam.more {w w':World}{B n a:Nat}{v:Value}{f:Nat→Nat×Value}{g:Nat→List Int}(h:Fam w B n f g)(hc:Chg (fun _=>False) w w')(hs:St w' w.heap.size a v (g n))(hB:B≤w.heap.size):Fam w' B (n+1) (addF f n (a,v)) g:=by
 have key: ∀i,i<n→(f i).1<w.heap.size∧ ∀z,(f i).2.ownBlock=some z→z<w.heap.size:=fun i hi=>⟨(h.st i hi).lt2.1,fun z e=>((h.st i hi).lt2.2 z e).2⟩
 refine⟨fun i hi=> ?_,fun i hi j hj hne=> ?_⟩
 ·by_cases e:i=n
  ·subst e
   rw [addF_at]
   exact hs.down hB
  ·rw [addF_off f _ e]
   exact(h.st i (by omega)).new hc
 ·by_cases e:i=n
  ·subst e
   rw [addF_at,addF_off f _ (Ne.symm hne)]
   have k:=key j (by omega)
   refine⟨?_,fun z e1 e2=> ?_⟩
   ·have:=hs.ha;show a≠_;omega
   ·have:=(hs.lt2.2 z e1).1;have:=k.2 z e2;omega
  ·rw [addF_off f _ e]
   have k:=key i (by omega)
   by_cases e3:j=n
   ·subst e3
    rw [addF_at]
    refine⟨?_,fun z e1 e2=> ?_⟩
    ·have:=hs.ha;show _≠a;omega
    ·have:=(hs.lt2.2 z e2).1;have:=k.2 z e1;omega
   ·rw [addF_off f _ e3]
    exact h.ap i (by omega) j (by omega) hne
theorem ptsL_put (f:Nat→Nat×Value)(n:Nat)(x:Nat×Value):ptsL (addF f n x) n=ptsL f n:=by
 unfold ptsL
 apply List.map_congr_left
 intro i hi
 have:=List.mem_range.1 hi
 rw [addF_off f x (by omega)]
theorem ptsL_succ (f:Nat→Nat×Value)(n:Nat):ptsL f (n+1)=ptsL f n++[ptV (f n)]:=by simp [ptsL,List.range_succ]
theorem infoPS:(Tryz.prog.info? 78).map (fun i=>(i.zero,i.size,i.bytes))=some (some (.pointer none),1,8):=by kernel_rfl
theorem makeP (n:Nat)(hn:n≤1048576)(w:World):(Instr.makeSlice 77 (.int .i64 (n:Int)) (.int .i64 (n:Int))).run Tryz.prog w= .ok (.slice (some ⟨w.heap.size,0,none⟩) n n) (w.alloc (.cells (Array.replicate n (Value.pointer none)) 78)):=by
 obtain⟨iy,hiy,hy0,hy1,hy2⟩:=info_parts infoPS
 have h:=run_make (P:=Tryz.prog) w 77 78 iy _ Tryz.underlying77 hiy hy0 .i64 .i64 n n (by omega) (Int.le_refl _) (by rw [hy2];omega) (by omega)
 simp only [Int.toNat_natCast,hy1,Nat.mul_one]at h
 rw [h]
 have e:(madeCells (Value.pointer none).cells n)=(Array.replicate n (Value.pointer none)):=by
  apply Array.toList_inj.1
  rw [Array.toList_replicate]
  exact toList_madeCells_one _ n
 rw [e]
theorem ownP (n:Nat)(hn:n≤1048576)(w:World):(w.alloc (.cells (Array.replicate n (Value.pointer none)) 78)).ownsRow w.heap.size 78 1 (.slice (some ⟨w.heap.size,0,none⟩) n n) n (List.replicate n (.pointer none)):=by
 have h:=World.ownsRow_lit (base:=w.heap.size) (e:=78) (size:=1) w (Array.replicate n (Value.pointer none)) n (Nat.le_refl _) (by unfold maxLen;omega) (by simp)
 rw [Array.toList_replicate]at h
 exact h
set_option maxHeartbeats 2000000 in
theorem row_any (n:Nat)(hn:n≤1048576)(w:World):Calls Tryz.prog 67 #[.int .i64 (n:Int)] w fun e w'=> ∃a v,e= .returned (.pointer (some ⟨a,0,none⟩))∧St w' w.heap.size a v (List.replicate n 1024)∧Chg (fun _=>False) w w':=by
 go_enter Tryz.func67,Tryz.ntmps67
 go_wp2_with fail
 refine(new_in n w hn).mono ?_
 rintro z w1 ⟨a,v,rfl,_,hs,c⟩
 have HS:Hid (St w1 w.heap.size a v (List.replicate n 1024)∧Chg (fun _=>False) w w1):=⟨hs,c⟩
 clear hs c
 go_wp2
 go_ret
 exact⟨_,_,rfl,HS.out.1,HS.out.2⟩
def half2 (f:Nat→Nat×Value)(i n:Nat):List Value:=ptsL f i++List.replicate (n-i) (.pointer none)
theorem half2_set {f:Nat→Nat×Value}{i n:Nat}(h:i<n)(x:Nat×Value):(half2 f i n).set i (ptV x)=half2 (addF f i x) (i+1) n:=by
 unfold half2
 rw [ptsL_succ,ptsL_put,addF_at,List.set_append_right _ _ (by rw [ptsL_len];omega),ptsL_len,Nat.sub_self,List.append_assoc]
 congr 1
 rw [show n-i=n-(i+1)+1 by omega,List.replicate_succ]
 rfl
theorem half2_all (f:Nat→Nat×Value)(n:Nat):half2 f n n=ptsL f n:=by simp [half2]
theorem nil_cell {w:World}{B g n c:Nat}{xs:List Value}{i:Nat}(h:w.ownsRow B 78 1 (.slice (some ⟨g,0,none⟩) n c) n xs)(hi:i<n):(∃u,w.cell? ⟨g,i,none⟩=some u)∧w.frozen? ⟨g,i,none⟩=false:=by
 obtain⟨g',cap,e,_,_,_,_,hz,hcell⟩:=own_some h (by omega)
 simp only [Value.slice.injEq,Option.some.injEq,Addr.mk.injEq,true_and,and_true]at e
 obtain⟨rfl,rfl⟩:=e
 have hl:=h.1
 have hx:=hcell i xs[i] (List.getElem?_eq_getElem (by omega))
 exact⟨⟨_,hx⟩,hz i⟩
set_option maxHeartbeats 4000000 in
set_option maxRecDepth 100000 in
theorem rows_any (m n:Nat)(hm:m≤65536)(hn:n≤1048576)(w0:World):Calls Tryz.prog 66 #[.int .i64 (m:Int),.int .i64 (n:Int)] w0 fun e w'=> ∃v f,e= .returned v∧w'.ownsRow w0.heap.size 78 1 v m (ptsL f m)∧Fam w' w0.heap.size m f (fun _=>List.replicate n 1024)∧Chg (fun _=>False) w0 w':=by
 have hmk:=fun ww=>makeP m (by omega) ww
 have HO:Hid _:=ownP m (by omega) w0
 have HC0:Hid _:=chg_one w0 (.cells (Array.replicate m (Value.pointer none)) 78)
 have HRW:Hid (∀w,Calls Tryz.prog 67 #[.int .i64 (n:Int)] w fun e w'=> ∃a v,e= .returned (.pointer (some ⟨a,0,none⟩))∧St w' w.heap.size a v (List.replicate n 1024)∧Chg (fun _=>False) w w'):=fun w=>row_any n hn w
 go_enter Tryz.func66,Tryz.ntmps66
 go_wp2_with fail
 generalize w0.alloc (.cells (Array.replicate m (Value.pointer none)) 78)=W at*
 go_loopw [11] (fun v1 wq=> ∃(i:Nat) (f:Nat→Nat×Value),i≤m∧v1= .int .i64 (i:Int)∧Hid (wq.ownsRow w0.heap.size 78 1 (.slice (some ⟨w0.heap.size,0,none⟩) m m) m (half2 f i m)∧Fam wq w0.heap.size i f (fun _=>List.replicate n 1024)∧Chg (fun _=>False) w0 wq)) (fun v1 _=>m-(intOf v1).toNat)
 case atStart=>exact⟨0,fun _=>(0,.slice none 0 0),by omega,rfl,by rw [show half2 _ 0 m=List.replicate m (Value.pointer none)from by simp [half2,ptsL]];exact HO.out,⟨fun i hi=>by omega,fun i hi=>by omega⟩,HC0.out⟩
 case round=>
  clear HO HC0 hmk
  obtain⟨i2,f,hi2,rfl,HI⟩:=hrel
  by_cases hlt:i2<m
  ·have hd1:decide ((i2:Int)<(m:Int))=true:=by simp;omega
   have hd1':decide (i2<m)=true:=decide_eq_true hlt
   go_wp2_with fail
   refine(HRW.out wr).mono ?_
   rintro z w2 ⟨a,v,rfl,hs,c2⟩
   obtain⟨ho,hf,hc⟩:=HI.out
   have ho2:=ownsRow_keep ho c2 (fun _ _ f=>f)
   obtain⟨⟨u,hu⟩,hz⟩:=nil_cell ho2 hlt
   obtain⟨cur,hcur⟩:=owns_blk ho2 (g:=w0.heap.size) rfl
   have cS:Chg (fun z=>z=w0.heap.size) w2 (w2.setCell ⟨w0.heap.size,i2,none⟩ (.pointer (some ⟨a,0,none⟩))):=(Chg.refl (fun z=>z=w0.heap.size) w2).setCell (p:=⟨w0.heap.size,i2,none⟩) (.inl rfl) _
   have HN:Hid ((w2.setCell ⟨w0.heap.size,i2,none⟩ (.pointer (some ⟨a,0,none⟩))).ownsRow w0.heap.size 78 1 (.slice (some ⟨w0.heap.size,0,none⟩) m m) m (half2 (addF f i2 (a,v)) (i2+1) m)∧Fam (w2.setCell ⟨w0.heap.size,i2,none⟩ (.pointer (some ⟨a,0,none⟩))) w0.heap.size (i2+1) (addF f i2 (a,v)) (fun _=>List.replicate n 1024)∧Chg (fun _=>False) w0 (w2.setCell ⟨w0.heap.size,i2,none⟩ (.pointer (some ⟨a,0,none⟩)))):=by
    refine⟨?_,?_,(chg_then hc c2).trans cS (fun z e=> .inr (by omega))⟩
    ·have h9:=own_set ho2 i2 (ptV (a,v)) hlt
     rw [half2_set hlt]at h9
     exact h9
    ·have h9:=Fam.more hf c2 hs hc.size
     exact⟨fun i hi=>(h9.st i hi).off cS (fun z e=>e) hcur (by decide) (by decide),h9.ap⟩
   clear hs c2 ho hf hc ho2 hcur cS HI
   go_wp2_with fail
   exact⟨⟨i2+1,_,by omega,by go_num,HN.out.1,HN.out.2.1,HN.out.2.2⟩,by simp [intOf];omega⟩
  ·have hd1:decide ((i2:Int)<(m:Int))=false:=by simp;omega
   have hd1':decide (i2<m)=false:=decide_eq_false hlt
   have HE:Hid (i2=m):=by show _=_;omega
   go_wp2
   go_ret
   obtain⟨ho,hf,hc⟩:=HI.out
   have he:=HE.out
   subst he
   rw [half2_all]at ho
   exact⟨_,f,rfl,ho,hf,hc⟩
set_option maxHeartbeats 4000000 in
set_option maxRecDepth 100000 in
theorem mforks_any (B m:Nat)(hm:m≤65536)(sv:Value)(f:Nat→Nat×Value)(g:Nat→List Int)(hg: ∀i,(g i).length≤1048576)(w0:World)(hl:w0.ownsRow B 78 1 sv m (ptsL f m))(hF:Fam w0 B m f g):Calls Tryz.prog 128 #[sv] w0 fun e w'=> ∃v f',e= .returned v∧w'.ownsRow w0.heap.size 78 1 v m (ptsL f' m)∧Fam w' w0.heap.size m f' g∧Chg (fun _=>False) w0 w':=by
 obtain⟨sa,sc,rfl⟩:=form1 hl
 have hmk:=fun ww=>makeP m (by omega) ww
 have HO:Hid _:=ownP m (by omega) w0
 have HC0:Hid _:=chg_one w0 (.cells (Array.replicate m (Value.pointer none)) 78)
 have HSR:Hid (∀i,i<m→ ∀w,Chg (fun _=>False) w0 w→ ∃x,sa=some x∧w.cell? (x.add i)=some (ptV (f i))):=fun i hi w hc=>by
  obtain⟨gg,cap,e,_,_,_,_,_,hcell⟩:=own_some hl (by omega)
  simp only [Value.slice.injEq]at e
  refine⟨_,e.1,?_⟩
  rw [addk,Nat.zero_add]
  exact cell_chg (hcell i _ (ptsL_at f hi)) hc
 have HRW:Hid (∀i,i<m→ ∀w,Chg (fun _=>False) w0 w→Calls Tryz.prog 129 #[.pointer (some ⟨(f i).1,0,none⟩)] w fun e w'=> ∃a v,e= .returned (.pointer (some ⟨a,0,none⟩))∧St w' w.heap.size a v (g i)∧Chg (fun _=>False) w w'):=fun i hi w hc=>by
  refine(fork_any B (f i).1 (f i).2 (g i) w ((hF.st i hi).new hc) (hg i)).mono ?_
  rintro z w' ⟨a,v,h1,h2,h3,h4⟩
  exact⟨a,v,h1,h3,h4⟩
 clear hl hF
 go_enter Tryz.func128,Tryz.ntmps128
 go_wp2_with fail
 generalize w0.alloc (.cells (Array.replicate m (Value.pointer none)) 78)=W at*
 go_loopw [11] (fun v1 wq=> ∃(i:Nat) (f':Nat→Nat×Value),i≤m∧v1= .int .i64 (i:Int)∧Hid (wq.ownsRow w0.heap.size 78 1 (.slice (some ⟨w0.heap.size,0,none⟩) m m) m (half2 f' i m)∧Fam wq w0.heap.size i f' g∧Chg (fun _=>False) w0 wq)) (fun v1 _=>m-(intOf v1).toNat)
 case atStart=>exact⟨0,fun _=>(0,.slice none 0 0),by omega,rfl,by rw [show half2 _ 0 m=List.replicate m (Value.pointer none)from by simp [half2,ptsL]];exact HO.out,⟨fun i hi=>by omega,fun i hi=>by omega⟩,HC0.out⟩
 case round=>
  clear HO HC0 hmk
  obtain⟨i2,f',hi2,rfl,HI⟩:=hrel
  by_cases hlt:i2<m
  ·have hd1:decide ((i2:Int)<(m:Int))=true:=by simp;omega
   have hd1':decide (i2<m)=true:=decide_eq_true hlt
   obtain⟨x,hx,hcx⟩:=HSR.out i2 hlt wr HI.out.2.2
   subst hx
   unfold ptV at hcx
   go_wp2_with fail
   refine(HRW.out i2 hlt wr HI.out.2.2).mono ?_
   rintro z w2 ⟨a,v,rfl,hs,c2⟩
   obtain⟨ho,hf,hc⟩:=HI.out
   have ho2:=ownsRow_keep ho c2 (fun _ _ f=>f)
   obtain⟨⟨u,hu⟩,hz⟩:=nil_cell ho2 hlt
   obtain⟨cur,hcur⟩:=owns_blk ho2 (g:=w0.heap.size) rfl
   have cS:Chg (fun z=>z=w0.heap.size) w2 (w2.setCell ⟨w0.heap.size,i2,none⟩ (.pointer (some ⟨a,0,none⟩))):=(Chg.refl (fun z=>z=w0.heap.size) w2).setCell (p:=⟨w0.heap.size,i2,none⟩) (.inl rfl) _
   have HN:Hid ((w2.setCell ⟨w0.heap.size,i2,none⟩ (.pointer (some ⟨a,0,none⟩))).ownsRow w0.heap.size 78 1 (.slice (some ⟨w0.heap.size,0,none⟩) m m) m (half2 (addF f' i2 (a,v)) (i2+1) m)∧Fam (w2.setCell ⟨w0.heap.size,i2,none⟩ (.pointer (some ⟨a,0,none⟩))) w0.heap.size (i2+1) (addF f' i2 (a,v)) g∧Chg (fun _=>False) w0 (w2.setCell ⟨w0.heap.size,i2,none⟩ (.pointer (some ⟨a,0,none⟩)))):=by
    refine⟨?_,?_,(chg_then hc c2).trans cS (fun z e=> .inr (by omega))⟩
    ·have h9:=own_set ho2 i2 (ptV (a,v)) hlt
     rw [half2_set hlt]at h9
     exact h9
    ·have h9:=Fam.more hf c2 hs hc.size
     exact⟨fun i hi=>(h9.st i hi).off cS (fun z e=>e) hcur (by decide) (by decide),h9.ap⟩
   clear hs c2 ho hf hc ho2 hcur cS HI hcx
   go_wp2_with fail
   exact⟨⟨i2+1,_,by omega,by go_num,HN.out.1,HN.out.2.1,HN.out.2.2⟩,by simp [intOf];omega⟩
  ·have hd1:decide ((i2:Int)<(m:Int))=false:=by simp;omega
   have hd1':decide (i2<m)=false:=decide_eq_false hlt
   have HE:Hid (i2=m):=by show _=_;omega
   go_wp2
   go_ret
   obtain⟨ho,hf,hc⟩:=HI.out
   have he:=HE.out
   subst he
   rw [half2_all]at ho
   exact⟨_,f',rfl,ho,hf,hc⟩
end Go.Proofs.YthideplpcnhncaaGreatDoor
namespace Go.Proofs.YthideplpcnhncaaGreatDoor
open Go.RowKit
open St12
set_option linter.unusedVariables false
set_option linter.unusedSimpArgs false
def stv (s:Stt):Value:= .agg #[.int .i64 s.n,.int .i64 s.a,.int .i64 s.b,.int .i64 s.c,.int .i64 s.d]
def syv (y:Sym):Value:= .agg #[.int .i64 y.k,.int .u8 y.y,.int .i64 y.l,.int .i64 y.d]
def prv (p:Prp):Value:= .agg #[.int .i64 p.lc,.int .i64 p.lp,.int .i64 p.pb]
structure Stt.I (s:Stt):Prop where
 n:I64 s.n
 a:I64 s.a
 b:I64 s.b
 c:I64 s.c
 d:I64 s.d
structure Sym.I (y:Sym):Prop where
 k:I64 y.k
 l:I64 y.l
 d:I64 y.d
 y:0≤y.y∧y.y≤255
structure Prp.I (p:Prp):Prop where
 lc:I64 p.lc
 lp:I64 p.lp
 pb:I64 p.pb
structure StSpec (Tab:World→Prop):Prop where
 keep: ∀ {w w'},Tab w→Chg (fun _=>False) w w'→Tab w'
 new: ∀w,Tab w→Calls Tryz.prog 33 #[] w fun e w'=>e= .returned (stv st0)∧Chg (fun _=>False) w w'
 next: ∀(s:Stt) (y:Sym) w,Tab w→s.I→y.I→Calls Tryz.prog 70 #[stv s,syv y] w fun e w'=>e= .returned (.tuple #[stv (nxt s y).1,.int .i64 (nxt s y).2])∧Chg (fun _=>False) w w'
 lit: ∀(s:Stt) w,Tab w→s.I→Calls Tryz.prog 121 #[stv s] w fun e w'=>e= .returned (.bool (St12.lit s.n))∧Chg (fun _=>False) w w'
 slot: ∀(d:Int) w,Tab w→I64 d→Calls Tryz.prog 123 #[.int .i64 d] w fun e w'=>e= .returned (.tuple #[.int .i64 (slotA d).1,.int .i64 (slotA d).2])∧Chg (fun _=>False) w w'
 range: ∀(i:Int) w,Tab w→I64 i→Calls Tryz.prog 124 #[.int .i64 i] w fun e w'=>e= .returned (.tuple #[.int .i64 (rangeA i).1,.int .i64 (rangeA i).2.1,.int .i64 (rangeA i).2.2])∧Chg (fun _=>False) w w'
 pb: ∀(p:Prp) w,Tab w→p.I→Calls Tryz.prog 65 #[prv p] w fun e w'=>e= .returned (.tuple #[.int .i64 (byteP p).1,.int .i64 (byteP p).2])∧Chg (fun _=>False) w w'
theorem cells5 {w:World}{a:Nat}{x y z u v:Value}{t:TypeId}(h:w.heap[a]?=some (.cells #[x,y,z,u,v] t (0,0))):w.cell? ⟨a,0,none⟩=some x∧w.cell? ⟨a,1,none⟩=some y∧w.cell? ⟨a,2,none⟩=some z∧w.cell? ⟨a,3,none⟩=some u∧w.cell? ⟨a,4,none⟩=some v:=
 ⟨by simp [World.cell?,h],by simp [World.cell?,h],by simp [World.cell?,h],by simp [World.cell?,h],by simp [World.cell?,h]⟩
end Go.Proofs.YthideplpcnhncaaGreatDoor
namespace Go.Proofs.YthideplpcnhncaaGreatDoor
open Go.ChangeShapes Go.WideShapes Go.ChangeAt Go.WideMaps Go.WideElems Go.RowKit
set_option linter.unusedVariables false
theorem ints_lie {W:World}{m:Nat}{t e:TypeId}{q:IntKind}{cs:List Value}{l:List Int}{f:Nat}{p:List MemPlace}{H:Type}{enc:TypeId×Value→H}{sp:TypeId→Bool}{held:Bool}(hu:Tryz.prog.underlying t=some (.array m e))(he:Tryz.prog.underlying e=some (.int q))(hce:Tryz.prog.cellsOf e=1)(hct:Tryz.prog.cellsOf t=m)
  {d:DataW H} (hde:d= .agg (l.map fun(x:Int)=> .lit (.int q x))) (hd:DataW.trod enc Tryz.prog W 0 sp held f t cs=some (d,p)):cs=l.map (Value.int q):=by
 subst hde
 obtain⟨xs,k,rfl,hx,hlen,hn,hel⟩:=DataW.trod_array hu hd
 simp only [Prod.mk.injEq,DataW.agg.injEq]at hx
 have hl:l.length=m:=by
  have:=congrArg List.length hx.1
  simp only [List.length_map]at this
  omega
 apply List.ext_getElem
 ·rw [hlen,hct,List.length_map,hl]
 ·intro i h1 h2
  have hi:i<m:=by rw [List.length_map,hl]at h2;exact h2
  have h0:=hel i hi
  rw [hce,Nat.mul_one]at h0
  obtain⟨y,hy⟩: ∃y,xs[i]?=some y:=⟨xs[i]'(by omega),List.getElem?_eq_getElem _⟩
  rw [hy]at h0
  obtain⟨z,e1,e2,_⟩:=DataW.trod_int he h0
  have hz:(xs.map (·.1))[i]?=some (.lit (.int q z)):=by rw [List.getElem?_map,hy,e2];rfl
  rw [←hx.1,List.getElem?_map,List.getElem?_eq_getElem (by omega)]at hz
  simp only [Option.map_some,Option.some.injEq,DataW.lit.injEq,Lit.int.injEq,true_and]at hz
  have h3:((cs.drop i).take 1)[0]?=some (.int q z):=by rw [e1];rfl
  have h4:cs[i]?=some (.int q z):=by simpa using h3
  have h5:cs[i]= .int q z:=by simpa [h1]using h4
  rw [h5,←hz]
  simp
theorem flat_lie {f:Int→Value}{m:Nat}: ∀(ll:List (List Int)) (cs:List Value),cs.length=ll.length*m→(∀i l,ll[i]?=some l→(cs.drop (i*m)).take m=l.map f)→cs=ll.flatten.map f
 | [],cs,hl,_=>by
  have:cs.length=0:=by simpa using hl
  simpa using this
 |l::ll,cs,hl,h=>by
  have h0:=h 0 l rfl
  rw [Nat.zero_mul,List.drop_zero]at h0
  have hr:=flat_lie (f:=f) (m:=m) ll (cs.drop m) (by rw [List.length_drop,hl,List.length_cons,Nat.add_mul,Nat.one_mul];omega) (fun i l' hi=>by
   have:=h (i+1) l' hi
   rw [List.drop_drop]
   rw [show m+i*m=(i+1)*m by rw [Nat.add_mul,Nat.one_mul,Nat.add_comm]]
   exact this)
  rw [List.flatten_cons,List.map_append,←h0,←hr,List.take_append_drop]
theorem rows_lie {W:World}{n m:Nat}{t t1 e:TypeId}{q:IntKind}{cs:List Value}{ll:List (List Int)}{f:Nat}{p:List MemPlace}{H:Type}{enc:TypeId×Value→H}{sp:TypeId→Bool}{held:Bool}(hu:Tryz.prog.underlying t=some (.array n t1))(hu1:Tryz.prog.underlying t1=some (.array m e))(he:Tryz.prog.underlying e=some (.int q))(hce:Tryz.prog.cellsOf e=1)(hc1:Tryz.prog.cellsOf t1=m)(hct:Tryz.prog.cellsOf t=n*m)
  {d:DataW H} (hde:d= .agg (ll.map fun l=> .agg (l.map fun(x:Int)=> .lit (.int q x)))) (hd:DataW.trod enc Tryz.prog W 0 sp held f t cs=some (d,p)):cs=ll.flatten.map (Value.int q):=by
 subst hde
 obtain⟨xs,k,rfl,hx,hlen,hn,hel⟩:=DataW.trod_array hu hd
 simp only [Prod.mk.injEq,DataW.agg.injEq]at hx
 have hl:ll.length=n:=by
  have:=congrArg List.length hx.1
  simp only [List.length_map]at this
  omega
 refine flat_lie (m:=m) ll cs (by rw [hlen,hct,hl]) (fun i l hi=> ?_)
 have hin:i<n:=by have:=(List.getElem?_eq_some_iff.1 hi).1;omega
 have h0:=hel i hin
 rw [hc1]at h0
 obtain⟨y,hy⟩: ∃y,xs[i]?=some y:=⟨xs[i]'(by omega),List.getElem?_eq_getElem _⟩
 rw [hy]at h0
 have hz:(xs.map (·.1))[i]?=some y.1:=by rw [List.getElem?_map,hy];rfl
 rw [←hx.1,List.getElem?_map,hi]at hz
 simp only [Option.map_some,Option.some.injEq]at hz
 exact ints_lie hu1 he hce hc1 (d:=y.1) (p:=y.2) hz.symm h0
theorem var_lie {W:World}{g:Nat}{name:String}{cs:Array Value}{l:List Value}(hg:Tryz.prog.globalNamed name=some g)(hv:W.var? Tryz.prog name=some cs)(h:cs.toList=l): ∃ty fr,W.heap[g]?=some (.cells l.toArray ty fr):=by
 simp only [World.var?,hg,Option.bind_some]at hv
 cases hq:W.heap[g]? with
 |none=>rw [hq]at hv;cases hv
 |some o=>
  cases o with
  |cells c ty fr=>
   rw [hq]at hv
   simp only [Option.some.injEq]at hv
   exact⟨ty,fr,by rw [hv,←h]⟩
  |_=>rw [hq]at hv;cases hv
def tab0:List (List Int):=[[0,0,0,0,1,2,3,4,5,6,4,5],[7,7,7,7,7,7,7,10,10,10,10,10],[8,8,8,8,8,8,8,11,11,11,11,11],[9,9,9,9,9,9,9,11,11,11,11,11]]
theorem gtab0:Tryz.prog.globalNamed "pith/state.moves" =some 0:=by kernel_rfl
theorem ttab0:(Tryz.prog.globals[0]?).map (·.type)=some 194:=by kernel_rfl
theorem ltab0 {H:Type}:(Rows.laid_pith_state_moves:DataW H)= .agg (tab0.map fun l=> .agg (l.map fun(x:Int)=> .lit (.int .i64 x))):=rfl
def Tab (w:World):Prop:=(∃ty fr,w.heap[0]?=some (.cells (tab0.flatten.map (Value.int .i64)).toArray ty fr))
theorem tab_keep {w w':World}(h:Tab w)(hc:Chg (fun _=>False) w w'):Tab w':=by
 obtain⟨y0,r0,h0⟩:=h
 exact⟨y0,r0,blk_keep h0 hc (fun f=>f)⟩
theorem tab_of_laid {W:World}(h:laidMetH Tryz.prog [("pith/state.moves",Rows.laid_pith_state_moves)] W):Tab W:=by
 rw [MakeChecks.laidMetH_plain _ _ _ (by kernel_rfl)]at h
 obtain⟨ps,⟨g0,t0,cs0,f0,p0,q0,hg0,ht0,hv0,hd0,_⟩,_,_⟩:=h
 obtain rfl:=Option.some.inj (gtab0.symm.trans hg0)
 obtain rfl:=Option.some.inj (ttab0.symm.trans ht0)
 exact var_lie gtab0 hv0 (rows_lie Tryz.underlying194 Tryz.underlying193 Tryz.underlying3 (by kernel_rfl) (by kernel_rfl) (by kernel_rfl) ltab0 hd0)
theorem tab_all: ∀(k:Fin 4) (n:Fin 12),tab0.flatten[(fun k n:Nat=>k*12+n) k.val n.val]?=some (St12.mvd (n.val:Int) ((k.val:Int)+1)):=by decide+kernel
theorem tab_move {w:World}(h:Tab w){k n:Nat}(hk:k<4)(hn:n<12):w.cell? ⟨0,k*12+n,none⟩=some (.int .i64 (St12.mvd (n:Int) ((k:Int)+1))):=by
 obtain⟨ty,fr,hb⟩:=h
 have h1:=tab_all ⟨k,hk⟩ ⟨n,hn⟩
 simp only at h1
 simp only [World.cell?,hb]
 rw [List.getElem?_toArray,List.getElem?_map,h1]
 rfl
end Go.Proofs.YthideplpcnhncaaGreatDoor
namespace Go.Proofs.YthideplpcnhncaaGreatDoor
open Go.RowKit
open St12
set_option linter.unusedVariables false
set_option linter.unusedSimpArgs false
theorem pow_int (k:Nat):(2:Int)^k=((2^k:Nat):Int):=by simp
end Go.Proofs.YthideplpcnhncaaGreatDoor
namespace Go.Proofs.YthideplpcnhncaaGreatDoor
open Go.RowKit
open St12
set_option linter.unusedVariables false
set_option linter.unusedSimpArgs false
theorem set_blk {w:World}{g i:Nat}{cs:Array Value}{t:TypeId}(u:Value)(h:w.heap[g]?=some (.cells cs t (0,0))):(w.setCell ⟨g,i,none⟩ u).heap[g]?=some (.cells (cs.setIfInBounds i u) t (0,0)):=by
 have hlt:=lt_of_blk h
 have h':w.heap[g]= .cells cs t (0,0):=by simpa [Array.getElem?_eq_getElem hlt]using h
 show(w.heap.modify g _)[g]?=_
 rw [Array.getElem?_eq_getElem (by simpa using hlt),Array.getElem_modify_self,h']
 rfl
end Go.Proofs.YthideplpcnhncaaGreatDoor
namespace Go.Proofs.YthideplpcnhncaaGreatDoor
open Go.RowKit
open St12
set_option linter.unusedVariables false
set_option linter.unusedSimpArgs false
theorem cells5f {w:World}{a:Nat}{x0 x1 x2 x3 x4:Value}{t:TypeId}(h:w.heap[a]?=some (.cells #[x0,x1,x2,x3,x4] t (0,0))):(w.frozen? ⟨a,0,none⟩=false∧w.frozen? ⟨a,1,none⟩=false∧w.frozen? ⟨a,2,none⟩=false∧w.frozen? ⟨a,3,none⟩=false∧w.frozen? ⟨a,4,none⟩=false):=
 ⟨by simp [World.frozen?,h],by simp [World.frozen?,h],by simp [World.frozen?,h],by simp [World.frozen?,h],by simp [World.frozen?,h]⟩
def repI (s:Stt)(i:Nat):Int:=match i with|0=>s.a|1=>s.b|2=>s.c|_=>s.d
theorem right_iff (s:Stt):right s↔(0≤s.n∧s.n≤11)∧ ∀i,i<4→okR (repI s i):=by
 unfold right
 constructor
 ·rintro⟨h,a,b,c,d⟩
  refine⟨h,fun i hi=> ?_⟩
  rcases i with _|_|_|_|i
  ·exact a
  ·exact b
  ·exact c
  ·exact d
  ·omega
 ·rintro⟨h,f⟩
  exact⟨h,f 0 (by omega),f 1 (by omega),f 2 (by omega),f 3 (by omega)⟩
end Go.Proofs.YthideplpcnhncaaGreatDoor
namespace Go.Proofs.YthideplpcnhncaaGreatDoor
open Go.RowKit
open St12
set_option linter.unusedVariables false
set_option linter.unusedSimpArgs false
theorem isdist_q (d:Int)(w:World):Calls Tryz.prog 151 #[.int .i64 d] w fun e w'=>e= .returned (.bool (decide (okR d)))∧w'=w:=by
 by_cases h0:1≤d
 ·have d0:decide (1≤d)=true:=decide_eq_true h0
  have e:decide (okR d)=decide (d≤4294967295):=by unfold okR;simp [h0]
  rw [e]
  go_enter Tryz.func151,Tryz.ntmps151
  go_wp2
  go_ret
  exact⟨rfl,rfl⟩
 ·have d0:decide (1≤d)=false:=decide_eq_false h0
  have e:decide (okR d)=false:=decide_eq_false (fun h=>h0 h.1)
  rw [e]
  go_enter Tryz.func151,Tryz.ntmps151
  go_wp2
  go_ret
  exact⟨rfl,rfl⟩
theorem islen_q (n:Int)(w:World):Calls Tryz.prog 152 #[.int .i64 n] w fun e w'=>e= .returned (.bool (decide (2≤n∧n≤273)))∧w'=w:=by
 by_cases h0:2≤n
 ·have d0:decide (2≤n)=true:=decide_eq_true h0
  have e:decide (2≤n∧n≤273)=decide (n≤273):=by simp [h0]
  rw [e]
  go_enter Tryz.func152,Tryz.ntmps152
  go_wp2
  go_ret
  exact⟨rfl,rfl⟩
 ·have d0:decide (2≤n)=false:=decide_eq_false h0
  have e:decide (2≤n∧n≤273)=false:=decide_eq_false (fun h=>h0 h.1)
  rw [e]
  go_enter Tryz.func152,Tryz.ntmps152
  go_wp2
  go_ret
  exact⟨rfl,rfl⟩
theorem known_q (n:Int)(w:World):Calls Tryz.prog 115 #[.int .i64 n] w fun e w'=>e= .returned (.bool (decide (1≤n∧n≤4)))∧w'=w:=by
 by_cases h0:1≤n
 ·have d0:decide (1≤n)=true:=decide_eq_true h0
  have e:decide (1≤n∧n≤4)=decide (n≤4):=by simp [h0]
  rw [e]
  go_enter Tryz.func115,Tryz.ntmps115
  go_wp2
  go_ret
  exact⟨rfl,rfl⟩
 ·have d0:decide (1≤n)=false:=decide_eq_false h0
  have e:decide (1≤n∧n≤4)=false:=decide_eq_false (fun h=>h0 h.1)
  rw [e]
  go_enter Tryz.func115,Tryz.ntmps115
  go_wp2
  go_ret
  exact⟨rfl,rfl⟩
theorem tlit_q (s:Stt)(hs:s.I)(w:World):Calls Tryz.prog 121 #[stv s] w fun e w'=>e= .returned (.bool (St12.lit s.n))∧Chg (fun _=>False) w w':=by
 have cB:=chg_one w (.cells #[.int .i64 s.n,.int .i64 s.a,.int .i64 s.b,.int .i64 s.c,.int .i64 s.d] 88)
 obtain⟨k0,k1,k2,k3,k4⟩:=cells5 (heap_alloc_last w (.cells #[.int .i64 s.n,.int .i64 s.a,.int .i64 s.b,.int .i64 s.c,.int .i64 s.d] 88))
 unfold stv
 by_cases h0:0≤s.n
 ·have d0:decide (0≤s.n)=true:=decide_eq_true h0
  have e:St12.lit s.n=decide (s.n<7):=by
   unfold St12.lit;rw [d0,Bool.true_and]
   exact decide_eq_decide.2 ⟨fun h=>by omega,fun h=>by omega⟩
  rw [e]
  go_enter Tryz.func121,Tryz.ntmps121
  go_wp2
  go_ret
  exact⟨rfl,cB⟩
 ·have d0:decide (0≤s.n)=false:=decide_eq_false h0
  have e:St12.lit s.n=false:=by unfold St12.lit;rw [d0,Bool.false_and]
  rw [e]
  go_enter Tryz.func121,Tryz.ntmps121
  go_wp2
  go_ret
  exact⟨rfl,cB⟩
theorem tnew_q (w:World):Calls Tryz.prog 33 #[] w fun e w'=>e= .returned (stv st0)∧Chg (fun _=>False) w w':=by
 have cB:=chg_one w (.cells #[.int .i64 0,.int .i64 1,.int .i64 1,.int .i64 1,.int .i64 1] 88)
 obtain⟨k0,k1,k2,k3,k4⟩:=cells5 (heap_alloc_last w (.cells #[.int .i64 0,.int .i64 1,.int .i64 1,.int .i64 1,.int .i64 1] 88))
 go_enter Tryz.func33,Tryz.ntmps33
 go_wp2
 refine bodyPost_ret (v:=stv st0) (by simp [results,Tryz.results33,go_sem,k0,k1,k2,k3,k4,stv,st0]) rfl ?_
 exact⟨rfl,cB⟩
end Go.Proofs.YthideplpcnhncaaGreatDoor
namespace Go.Proofs.YthideplpcnhncaaGreatDoor
open Go.RowKit
open St12
set_option linter.unusedVariables false
set_option linter.unusedSimpArgs false
set_option maxHeartbeats 2000000 in
theorem tallowed_q (lc lp pb:Int)(i1:I64 lc)(i2:I64 lp)(i3:I64 pb)(w:World):Calls Tryz.prog 112 #[.agg #[.int .i64 lc,.int .i64 lp,.int .i64 pb]] w fun e w'=>e= .returned (.bool (decide (allow ⟨lc,lp,pb⟩)))∧Chg (fun _=>False) w w':=by
 have j1:lc≤9223372036854775807:=i1.2
 by_cases h0:0≤lc
 ·have d0:decide (0≤lc)=true:=decide_eq_true h0
  by_cases h1:0≤lp
  ·have d1:decide (0≤lp)=true:=decide_eq_true h1
   by_cases h2:0≤pb
   ·have d2:decide (0≤pb)=true:=decide_eq_true h2
    by_cases h3:lp≤4-lc
    ·have d3:decide (lp≤4-lc)=true:=decide_eq_true h3
     by_cases h4:pb≤4
     ·have d4:decide (pb≤4)=true:=decide_eq_true h4
      have hA:decide (allow ⟨lc,lp,pb⟩)=true:=decide_eq_true (by unfold allow;simp only;omega)
      rw [hA]
      clear hA
      go_enter Tryz.func112,Tryz.ntmps112
      go_wp2
      go_ret
      exact⟨rfl,chg_one _ _⟩
     ·have d4:decide (pb≤4)=false:=decide_eq_false h4
      have hA:decide (allow ⟨lc,lp,pb⟩)=false:=decide_eq_false (by unfold allow;simp only;omega)
      rw [hA]
      clear hA h4
      go_enter Tryz.func112,Tryz.ntmps112
      go_wp2
      go_ret
      exact⟨rfl,chg_one _ _⟩
    ·have d3:decide (lp≤4-lc)=false:=decide_eq_false h3
     have hA:decide (allow ⟨lc,lp,pb⟩)=false:=decide_eq_false (by unfold allow;simp only;omega)
     rw [hA]
     clear hA h3
     go_enter Tryz.func112,Tryz.ntmps112
     go_wp2
     go_ret
     exact⟨rfl,chg_one _ _⟩
   ·have d2:decide (0≤pb)=false:=decide_eq_false h2
    have hA:decide (allow ⟨lc,lp,pb⟩)=false:=decide_eq_false (by unfold allow;simp only;omega)
    rw [hA]
    clear hA h2
    go_enter Tryz.func112,Tryz.ntmps112
    go_wp2
    go_ret
    exact⟨rfl,chg_one _ _⟩
  ·have d1:decide (0≤lp)=false:=decide_eq_false h1
   have hA:decide (allow ⟨lc,lp,pb⟩)=false:=decide_eq_false (by unfold allow;simp only;omega)
   rw [hA]
   clear hA h1
   go_enter Tryz.func112,Tryz.ntmps112
   go_wp2
   go_ret
   exact⟨rfl,chg_one _ _⟩
 ·have d0:decide (0≤lc)=false:=decide_eq_false h0
  have hA:decide (allow ⟨lc,lp,pb⟩)=false:=decide_eq_false (by unfold allow;simp only;omega)
  rw [hA]
  clear hA h0
  go_enter Tryz.func112,Tryz.ntmps112
  go_wp2
  go_ret
  exact⟨rfl,chg_one _ _⟩
theorem cells3c {w:World}{a:Nat}{x y z:Value}{t:TypeId}(h:w.heap[a]?=some (.cells #[x,y,z] t (0,0))):w.cell? ⟨a,0,none⟩=some x∧w.cell? ⟨a,1,none⟩=some y∧w.cell? ⟨a,2,none⟩=some z:=
 ⟨by simp [World.cell?,h],by simp [World.cell?,h],by simp [World.cell?,h]⟩
set_option maxHeartbeats 1000000 in
theorem tpb_q (lc lp pb:Int)(i1:I64 lc)(i2:I64 lp)(i3:I64 pb)(w:World):Calls Tryz.prog 65 #[.agg #[.int .i64 lc,.int .i64 lp,.int .i64 pb]] w fun e w'=>e= .returned (.tuple #[.int .i64 (byteP ⟨lc,lp,pb⟩).1,.int .i64 (byteP ⟨lc,lp,pb⟩).2])∧Chg (fun _=>False) w w':=by
 have cB:=chg_one w (.cells #[.int .i64 lc,.int .i64 lp,.int .i64 pb] 23)
 have hbk:=heap_alloc_last w (.cells #[.int .i64 lc,.int .i64 lp,.int .i64 pb] 23)
 have HA:Hid _:=tallowed_q lc lp pb i1 i2 i3 (w.alloc (.cells #[.int .i64 lc,.int .i64 lp,.int .i64 pb] 23))
 by_cases h:allow ⟨lc,lp,pb⟩
 ·have e:byteP ⟨lc,lp,pb⟩=((pb*5+lp)*9+lc,0):=by unfold byteP;rw [if_pos h,Int.mul_comm pb 5]
  rw [e]
  rw [decide_eq_true h]at HA
  obtain⟨⟨b1,b2,b3⟩,b4,b5⟩:=h
  simp only at b1 b2 b3 b4 b5
  have b6:lc≤4:=by omega
  have b7:lp≤4:=by omega
  clear e
  go_enter Tryz.func65,Tryz.ntmps65
  go_wp2_with fail
  refine Calls.mono HA.out ?_
  rintro z w2 ⟨rfl,c2⟩
  obtain⟨k0,k1,k2⟩:=cells3c (blk_keep hbk c2 (fun f=>f))
  have HC:Hid (Chg (fun _=>False) w w2):=chg_then cB c2
  clear HA c2 hbk cB
  go_wp2
  go_ret2
  exact⟨by go_num,HC.out⟩
 ·have e:byteP ⟨lc,lp,pb⟩=(0,6):=by unfold byteP;rw [if_neg h]
  rw [e]
  rw [decide_eq_false h]at HA
  clear e
  go_enter Tryz.func65,Tryz.ntmps65
  go_wp2_with fail
  refine Calls.mono HA.out ?_
  rintro z w2 ⟨rfl,c2⟩
  have HC:Hid (Chg (fun _=>False) w w2):=chg_then cB c2
  clear HA c2 hbk cB
  go_wp2
  go_ret2
  exact⟨rfl,HC.out⟩
end Go.Proofs.YthideplpcnhncaaGreatDoor
namespace Go.Proofs.YthideplpcnhncaaGreatDoor
set_option linter.unusedVariables false
namespace St12
theorem least_closed: ∀i,4≤i→least i=(2+i% 2)*2^(i/2-1)+1
 |0,h=>by omega
 |i+1,h=>by
  by_cases e:i=3
  ·subst e
   decide
  ·have ih:=least_closed i (by omega)
   show least i+2^bitsN i=_
   have hb:bitsN i=i/2-1:=by unfold bitsN;rw [if_neg (by omega)]
   rw [hb,ih]
   by_cases p:i% 2=0
   ·have h1:(i+1)% 2=1:=by omega
    have h2:(i+1)/2=i/2:=by omega
    rw [h1,h2,p]
    generalize 2^(i/2-1)=P
    omega
   ·have h0:i% 2=1:=by omega
    have h1:(i+1)% 2=0:=by omega
    have h2:(i+1)/2-1=(i/2-1)+1:=by omega
    rw [h0,h1,h2,Nat.pow_succ]
    generalize 2^(i/2-1)=P
    omega
theorem slot_small {x:Nat}(h:x<4):slotN (x+1)=x:=by
 rcases x with _|_|_|_|x
 ·decide+kernel
 ·decide+kernel
 ·decide+kernel
 ·decide+kernel
 ·omega
theorem slot_digits {x k:Nat}(hk:2≤k)(hk2:k≤31)(h1:2^k≤x)(h2:x<2^(k+1)):slotN (x+1)=2*k+x/2^(k-1)% 2:=by
 obtain⟨j,rfl⟩: ∃j,k=j+1:=⟨k-1,by omega⟩
 rw [Nat.add_sub_cancel]
 have hP:0<2^j:=Nat.two_pow_pos j
 have e1:2^(j+1)=2*2^j:=by rw [Nat.pow_succ,Nat.mul_comm]
 have e2:2^(j+1+1)=4*2^j:=by rw [Nat.pow_succ,e1];omega
 rw [e1]at h1
 rw [e2]at h2
 have hq1:2≤x/2^j:=(Nat.le_div_iff_mul_le hP).2 h1
 have hq2:x/2^j<4:=(Nat.div_lt_iff_lt_mul hP).2 h2
 have hm:=Nat.div_add_mod x (2^j)
 have hr:=Nat.mod_lt x hP
 obtain⟨q,hq⟩: ∃q,x/2^j=q:=⟨_,rfl⟩
 rw [hq]at hq1 hq2 hm⊢
 have hi:2*(j+1)+q% 2<64:=by omega
 have hc:=least_closed (2*(j+1)+q% 2) (by omega)
 have a1:(2*(j+1)+q% 2)% 2=q% 2:=by omega
 have a2:(2*(j+1)+q% 2)/2-1=j:=by omega
 rw [a1,a2]at hc
 have hb:bitsN (2*(j+1)+q% 2)=j:=by unfold bitsN;rw [if_neg (by omega)];omega
 have hqq:2+q% 2=q:=by omega
 rw [hqq]at hc
 refine slotN_is hi ?_ ?_
 ·rw [hc,Nat.mul_comm]
  omega
 ·show x+1<least (2*(j+1)+q% 2)+2^bitsN (2*(j+1)+q% 2)
  rw [hb,hc,Nat.mul_comm]
  omega
theorem slot_shift {x k:Nat}(hk:2≤k)(hk2:k≤31)(h1:2^k≤x)(h2:x<2^(k+1)):slotN (x+1)=2*k+((x>>>(k-1))&&&1):=by
 rw [slot_digits hk hk2 h1 h2,Nat.shiftRight_eq_div_pow,Nat.and_one_is_mod]
theorem digits {x:Nat}(h:4≤x)(hm:x<4294967296): ∃k,2≤k∧k≤31∧2^k≤x∧x<2^(k+1):=by
 refine⟨Nat.log2 x,?_,?_,Nat.log2_self_le (by omega),Nat.lt_log2_self⟩
 ·have:=(Nat.le_log2 (n:=x) (k:=2) (by omega)).2 (by omega)
  exact this
 ·have:Nat.log2 x<32:=(Nat.log2_lt (by omega)).2 (by simpa using hm)
  omega
end St12
end Go.Proofs.YthideplpcnhncaaGreatDoor
namespace Go.Proofs.YthideplpcnhncaaGreatDoor
open Go.RowKit
open St12
set_option linter.unusedVariables false
set_option linter.unusedSimpArgs false
theorem wrap_low (n : Nat) {bt : Nat} (hb : bt ≤ 30) : wrap64 ((2 + (n : Int) % 2) * 2 ^ bt) = (((2 + n % 2) * 2 ^ bt : Nat) : Int) := by
  have hp : 2 ^ bt ≤ 1073741824 := by
    have := Nat.pow_le_pow_right (n := 2) (by omega) hb
    simpa using this
  rw [pow_int]
  generalize 2 ^ bt = P at *
  have h2 : (n : Int) % 2 = ((n % 2 : Nat) : Int) := by omega
  rw [h2]
  have h3 : n % 2 < 2 := Nat.mod_lt _ (by omega)
  generalize n % 2 = c at *
  have h4 : (2 + (c : Int)) * (P : Int) = (((2 + c) * P : Nat) : Int) := by simp
  have h5 : (2 + c) * P ≤ 3 * P := Nat.mul_le_mul_right _ (by omega)
  rw [h4]
  generalize (2 + c) * P = Q at *
  unfold wrap64
  omega
theorem low_q (n L B : Nat) (hn : n < 64) (hL : L + 1 = least n) (hB : B = bitsN n) (w : World) : Calls Tryz.prog 155 #[.int .i64 (n : Int)] w fun e w' => e = .returned (.tuple #[.int .i64 (L : Int), .int .i64 (B : Int)]) ∧ w' = w := by
  have hni : (n : Int) < 64 := by omega
  by_cases h4 : n < 4
  · have d2 : decide ((n : Int) < 4) = true := by simp; omega
    have d2' : decide (n < 4) = true := decide_eq_true h4
    have HL : Hid (L = n ∧ B = 0) := by
      show _ ∧ _
      rw [hB]
      rcases n with _ | _ | _ | _ | n
      · exact ⟨by have : least 0 = 1 := by decide
                  omega, by decide⟩
      · exact ⟨by have : least (0 + 1) = 2 := by decide
                  omega, by decide⟩
      · exact ⟨by have : least (0 + 1 + 1) = 3 := by decide
                  omega, by decide⟩
      · exact ⟨by have : least (0 + 1 + 1 + 1) = 4 := by decide
                  omega, by decide⟩
      · omega
    clear hL hB
    go_enter Tryz.func155, Tryz.ntmps155
    go_wp2
    go_ret2
    exact ⟨by rw [HL.out.1, HL.out.2]; rfl, rfl⟩
  · have d2 : decide ((n : Int) < 4) = false := by simp; omega
    have d2' : decide (n < 4) = false := decide_eq_false h4
    have hb : bitsN n = n / 2 - 1 := by unfold bitsN; rw [if_neg h4]
    have hl := least_closed n (by omega)
    rw [← hb, ← hB] at hl
    have hb30 := bitsN_le hn
    rw [← hB] at hb30 hb
    have hbi : (n : Int) / 2 - 1 = (B : Int) := by omega
    have HB : Hid (L = (2 + n % 2) * 2 ^ B) := by show _ = _; omega
    have H30 : Hid (B ≤ 30) := hb30
    clear hL hB hb hl
    go_enter Tryz.func155, Tryz.ntmps155
    go_wp2
    go_ret2
    exact ⟨by rw [HB.out, ← wrap_low n H30.out]; rfl, rfl⟩
theorem trange_q (i : Int) (hi : I64 i) (w : World) : Calls Tryz.prog 124 #[.int .i64 i] w fun e w' => e = .returned (.tuple #[.int .i64 (rangeA i).1, .int .i64 (rangeA i).2.1, .int .i64 (rangeA i).2.2]) ∧ Chg (fun _ => False) w w' := by
  have HC : Hid (Chg (fun _ => False) w w) := Chg.refl _ _
  by_cases h0 : i < 0
  · have d0 : decide (i < 0) = true := decide_eq_true h0
    have HF : Hid (rangeA i = (0, 0, 7)) := by show rangeA i = _; unfold rangeA; rw [if_neg (by omega)]
    go_enter Tryz.func124, Tryz.ntmps124
    go_wp2
    go_ret3
    exact ⟨by rw [HF.out]; rfl, HC.out⟩
  have d0 : decide (i < 0) = false := decide_eq_false h0
  by_cases h1 : 64 ≤ i
  · have d1 : decide (64 ≤ i) = true := decide_eq_true h1
    have HF : Hid (rangeA i = (0, 0, 7)) := by show rangeA i = _; unfold rangeA; rw [if_neg (by omega)]
    go_enter Tryz.func124, Tryz.ntmps124
    go_wp2
    go_ret3
    exact ⟨by rw [HF.out]; rfl, HC.out⟩
  have d1 : decide (64 ≤ i) = false := decide_eq_false h1
  obtain ⟨n, rfl⟩ : ∃ n : Nat, i = (n : Int) := ⟨i.toNat, by omega⟩
  have hn : n < 64 := by omega
  obtain ⟨L, hL⟩ : ∃ L, L + 1 = least n := ⟨least n - 1, by have := least_mono (Nat.zero_le n); have : least 0 = 1 := rfl; omega⟩
  have hle := least_le hn
  have hLi : (L : Int) ≤ 3221225473 := by omega
  have HF : Hid (rangeA (n : Int) = ((L : Int) + 1, (bitsN n : Int), 0)) := by show rangeA _ = _; unfold rangeA; rw [if_pos (by omega), Int.toNat_natCast, ← hL]; simp
  have HQ : Hid _ := low_q n L (bitsN n) hn hL rfl w
  clear hL hle
  go_enter Tryz.func124, Tryz.ntmps124
  go_wp2_with fail
  refine Calls.mono HQ.out ?_
  rintro z w2 ⟨rfl, rfl⟩
  clear HQ
  go_wp2
  go_ret3
  exact ⟨by rw [HF.out]; rfl, HC.out⟩
end Go.Proofs.YthideplpcnhncaaGreatDoor
