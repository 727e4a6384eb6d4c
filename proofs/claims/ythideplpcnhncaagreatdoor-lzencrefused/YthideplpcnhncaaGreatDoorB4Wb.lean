/- Of no statement by itself: Wb, Sm, Ym, Prob, Lm, Num, Set (without blanks and remarks). -/
import Derived.Test.YthideplpcnhncaaGreatDoorB1LastQ
import Derived.Test.YthideplpcnhncaaGreatDoorWm
import Derived.Test.YthideplpcnhncaaGreatDoorB0Base
import Derived.BigQuiet
import Derived.Deep.QuietTactic
import Derived.Laws.AppendOwnNone
import Derived.Deep.DeepCutAuto
namespace Go.Proofs.YthideplpcnhncaaGreatDoor
open Go.RowKit
set_option linter.unusedVariables false
def I64 (p:Int):Prop:= -9223372036854775808≤p∧p≤9223372036854775807
def nums (l:List Nat):List Int:=l.map fun(n:Nat)=>(n:Int)
theorem nums_len (l:List Nat):(nums l).length=l.length:=by simp [nums]
theorem infoU8:(Tryz.prog.info? 5).map (fun i=>(i.zero,i.size,i.bytes))=some (some (.int .u8 0),1,1):=by kernel_rfl
theorem own_from {w:World}{B:Nat}{e:TypeId}{ad:Option Addr}{c n:Nat}{xs:List Value}(h:w.ownsRow B e 1 (.slice ad n c) n xs):From w ad n c 1 xs:=by
 refine⟨h.1,?_⟩
 rcases h.2 with⟨e0,e1⟩|⟨g,cap,cur,e0,_⟩
 ·simp only [Value.slice.injEq]at e0
  exact .inl ⟨e0.1,e1,e0.2.2⟩
 ·simp only [Value.slice.injEq,true_and]at e0
  obtain⟨rfl,rfl⟩:=e0
  exact .inr ⟨_,rfl,fun j u hu=>h.cells (g:=g) rfl j u hu⟩
theorem From.keep {w w':World}{ad:Option Addr}{m c size:Nat}{news:List Value}(h:From w ad m c size news)(hc:Chg (fun _=>False) w w'):From w' ad m c size news:=by
 refine⟨h.1,?_⟩
 rcases h.2 with e|⟨x,rfl,hx⟩
 ·exact .inl e
 ·exact .inr ⟨x,rfl,fun j u hu=>cell_chg (hx j u hu) hc⟩
theorem own_empty (w:World)(t:TypeId):(w.alloc (.cells #[] t)).ownsRow w.heap.size t 1 (.slice (some ⟨w.heap.size,0,none⟩) 0 0) 0 []:=
 ⟨rfl,.inr ⟨w.heap.size,0,#[],rfl,Nat.le_refl _,heap_alloc_last w _,Nat.le_refl _,by unfold maxLen;omega,rfl,rfl⟩⟩
theorem step_append_moved {P:Program}{ops:Array Oper}{o:Oper}{a:Act}{w:World}{K:Act→World→Prop}{Q:Exit→Act→World→Prop}{E:Prop}(hgd:o.guard=none)(s x:Operand)(t:TypeId)
  (ho:o.op= .call {callee:= .builtin .append,args:= #[s,x],argTypes:= #[t,t]})
  (B:Nat) (e:TypeId) (i:TypeInfo) (z:Value) (size bytes:Nat) (ht:P.underlying t=some (.slice e)) (hi:P.info? e=some i) (hz:i.zero=some z)
  (hsize:i.size=size) (hby:i.bytes=bytes) (hzs:z.cells.size=size) (hsz:0<size)
  (v:Value) (n:Nat) (xs:List Value) (hs:a.eval s=v) (ad:Option Addr) (m c:Nat) (hx:a.eval x= .slice ad m c) (news:List Value)
  (hown:w.ownsRow B e size v n xs) (hsrc:From w ad m c size news) (h1: ∀u∈news,u.oneCell'=true)
  (h63:n+m≤maxLen) (hbytes:(n+m)*bytes≤140737488355328) (hB:B≤w.heap.size)
  (h: ∀v' w',w'.ownsRow B e size v' (n+m) (xs++news)→w.grownBy w' v.ownBlock→Moved w v v'→K (a.put o.dst v') w'):
  if Region.wanted o (yielded ops a.tmps)=true then Oper.wp P o a w K Q else E:=by
 have hw:Region.wanted o (yielded ops a.tmps)=true:=by simp [Region.wanted,hgd]
 rw [if_pos hw]
 obtain⟨v',w',hr,h2,h3,h4⟩:=run_append_moved (P:=P) w B t o.type e i z size bytes ht hi hz hsize hby hzs hsz v n xs hown ad m c news hsrc h1 h63 hbytes hB
 unfold Oper.wp
 simp [execOp,ho,resolve,invoke,builtin,hs,hx,hr,Result.andThen]
 exact h v' w' h2 h3 h4
theorem row8_own {w:World}{B:Nat}{ad:Option Addr}{c n:Nat}{xs:List Int}(h:w.ownsRow B 5 1 (.slice ad n c) n (ins .u8 xs)):Row8 w ad n c xs:=by
 have hl:n=xs.length:=by have:=h.1;simp [ins]at this;omega
 refine⟨hl.symm,?_⟩
 rcases h.2 with⟨e0,e1⟩|⟨g,cap,cur,e0,_⟩
 ·simp only [Value.slice.injEq]at e0
  exact .inl ⟨e0.1,e1,e0.2.2⟩
 ·simp only [Value.slice.injEq,true_and]at e0
  obtain⟨rfl,rfl⟩:=e0
  exact .inr ⟨_,rfl,fun j u hu=>h.cells (g:=g) rfl j u hu⟩
theorem conv_own {w:World}{B:Nat}{ad:Option Addr}{c n:Nat}{xs:List Int}(h:w.ownsRow B 5 1 (.slice ad n c) n (ins .u8 xs)):
  (convert 38 9 (.slice ad n c)).run Tryz.prog w= .ok (.string (strOfNums xs)) w:=Bk.conv8_here (row8_own h)
theorem form1 {w:World}{B:Nat}{t:TypeId}{lv:Value}{n:Nat}{xs:List Value}(h:w.ownsRow B t 1 lv n xs): ∃a c,lv= .slice a n c:=by
 rcases h.2 with⟨rfl,rfl⟩|⟨g,cap,cur,rfl,_⟩
 ·exact⟨none,0,rfl⟩
 ·exact⟨_,cap,rfl⟩
theorem wr64 {p:Int}(h:0≤p)(h2:p≤4611686018427387904):IntKind.i64.wrap p=p:=by simp [IntKind.wrap,IntKind.signed,IntKind.bits];omega
theorem quiet_of {P:Program}{f:FuncId}{args:Array Value}{X:Ending}{w:World}{k:Nat}(h:Calls P f args (w.drewN k) fun e w'=>e=X∧w.drewN k=w'):Calls P f args (w.drewN k) fun e w''=>e=X∧ ∃m,w''=w.drewN m:=
 h.mono fun _ _ ⟨h1,h2⟩=>⟨h1,k,h2.symm⟩
theorem moved_from {w w1:World}{v v2:Value}(hs:w.heap.size≤w1.heap.size)(hm:Moved w1 v v2):Moved w v v2:=fun g e=>by
 rcases hm g e with e|e
 ·exact .inl e
 ·exact .inr (by omega)
theorem nums_append (a b:List Nat):nums (a++b)=nums a++nums b:=by simp [nums]
theorem ins_append (a b:List Int):ins .u8 (a++b)=ins .u8 a++ins .u8 b:=by simp [ins]
theorem ins_map (a:List Int):ins .u8 a=a.map (Value.int .u8):=rfl
theorem cell00 {w:World}{a:Nat}{x:Value}{t:TypeId}(h:w.heap[a]?=some (.cells #[x] t (0,0))):w.cell? ⟨a,0,none⟩=some x:=by simp [World.cell?,h]
theorem addr_add (x:Addr)(i j:Nat):(x.add i).add j=x.add (i+j):=by
 unfold Addr.add
 by_cases hi:i=0<;>by_cases hj:j=0<;>simp [hi,hj,Nat.add_assoc]
theorem row8_cut {w:World}{ad:Option Addr}{m c:Nat}{xs:List Int}(h:Row8 w ad m c xs)(hmc:m≤c)(lo n c':Nat)(hn:lo+n≤m)(hc':c=0→c'=0):
  Row8 w (if c=lo then ad else ad.map (·.add lo)) n c' ((xs.drop lo).take n):=by
 have hl:=h.1
 refine⟨by simp;omega,?_⟩
 rcases h.2 with⟨rfl,rfl,rfl⟩|⟨x,rfl,hx⟩
 ·refine .inl ⟨by simp,by omega,hc' rfl⟩
 ·by_cases e:c=lo
  ·rw [if_pos e]
   have hn0:n=0:=by omega
   subst hn0
   exact .inr ⟨x,rfl,fun j u hu=>by simp at hu⟩
  ·rw [if_neg e]
   refine .inr ⟨_,rfl,fun j u hu=> ?_⟩
   rw [List.map_take,List.map_drop,List.getElem?_take]at hu
   split at hu
   ·rw [List.getElem?_drop]at hu
    have:=hx (lo+j) u hu
    rw [addr_add]
    exact this
   ·cases hu
theorem own_cap {w:World}{B:Nat}{e:TypeId}{ad:Option Addr}{c n:Nat}{xs:List Value}(h:w.ownsRow B e 1 (.slice ad n c) n xs):n≤c:=by
 rcases h.2 with⟨e0,e1⟩|⟨g,cap,cur,e0,_,_,hc,_⟩
 ·omega
 ·simp only [Value.slice.injEq,true_and]at e0
  omega
theorem nums_cut (bs:List Nat)(lo n:Nat):((nums bs).drop lo).take n=nums ((bs.drop lo).take n):=by simp [nums,List.map_take,List.map_drop]
end Go.Proofs.YthideplpcnhncaaGreatDoor
namespace Go.Proofs.YthideplpcnhncaaGreatDoor
set_option linter.unusedVariables false
structure Stt where
 n:Int
 a:Int
 b:Int
 c:Int
 d:Int
structure Sym where
 k:Int
 y:Int
 l:Int
 d:Int
structure Prp where
 lc:Int
 lp:Int
 pb:Int
namespace St12
def st0:Stt:=⟨0,1,1,1,1⟩
def zero:Stt:=⟨0,0,0,0,0⟩
def okR (x:Int):Prop:=1≤x∧x≤4294967295
instance (x:Int):Decidable (okR x):=by unfold okR;exact inferInstance
def right (s:Stt):Prop:=(0≤s.n∧s.n≤11)∧okR s.a∧okR s.b∧okR s.c∧okR s.d
instance (s:Stt):Decidable (right s):=by unfold right;exact inferInstance
def formed (y:Sym):Int:=
 if y.k=1∨y.k=4 then 0
 else if y.k=2 then(if(2≤y.l∧y.l≤273)∧1≤y.d∧y.d≤4294967295 then 0 else 7)
 else if y.k=3 then(if(2≤y.l∧y.l≤273)∧0≤y.d∧y.d≤3 then 0 else 7)
 else 6
def mvd (n k:Int):Int:=
 if k=1 then(if n<4 then 0 else if n<10 then n-3 else n-6)
 else if 7≤n then(if k=2 then 10 else 11)
 else if k=2 then 7 else if k=3 then 8 else 9
def reps (s:Stt)(y:Sym):Int×Int×Int×Int:=
 if y.k=2 then(y.d,s.a,s.b,s.c)
 else if y.k=3 then(if y.d=1 then(s.b,s.a,s.c,s.d)else if y.d=2 then(s.c,s.a,s.b,s.d)else if y.d=3 then(s.d,s.a,s.b,s.c)else(s.a,s.b,s.c,s.d))
 else(s.a,s.b,s.c,s.d)
def nxt (s:Stt)(y:Sym):Stt×Int:=
 if¬right s then(zero,7)
 else if formed y≠0 then(zero,formed y)
 else(⟨mvd s.n y.k,(reps s y).1,(reps s y).2.1,(reps s y).2.2.1,(reps s y).2.2.2⟩,0)
def lit (n:Int):Bool:=decide (0≤n)&&decide (n≤6)
theorem formed_vals (y:Sym):formed y=0∨formed y=6∨formed y=7:=by
 unfold formed
 split
 ·exact .inl rfl
 ·split
  ·split
   ·exact .inl rfl
   ·exact .inr (.inr rfl)
  ·split
   ·split
    ·exact .inl rfl
    ·exact .inr (.inr rfl)
   ·exact .inr (.inl rfl)
theorem formed_kind {y:Sym}(h:formed y=0):y.k=1∨(y.k=2∧2≤y.l∧y.l≤273∧1≤y.d∧y.d≤4294967295)∨(y.k=3∧2≤y.l∧y.l≤273∧0≤y.d∧y.d≤3)∨y.k=4:=by
 unfold formed at h
 split at h
 ·next h1=>rcases h1 with h1|h1<;>simp [h1]
 ·split at h
  ·next h2=>
   split at h
   ·next h3=>exact .inr (.inl ⟨h2,h3.1.1,h3.1.2,h3.2.1,h3.2.2⟩)
   ·simp at h
  ·split at h
   ·next h2=>
    split at h
    ·next h3=>exact .inr (.inr (.inl ⟨h2,h3.1.1,h3.1.2,h3.2.1,h3.2.2⟩))
    ·simp at h
   ·simp at h
theorem nxt_right {s:Stt}{y:Sym}(h:right s)(hf:formed y=0):(nxt s y).2=0∧right (nxt s y).1:=by
 have hk:=formed_kind hf
 obtain⟨⟨h1,h2⟩,ha,hb,hc,hd⟩:=h
 unfold nxt
 rw [if_neg (by simp;exact⟨⟨h1,h2⟩,ha,hb,hc,hd⟩),if_neg (by simp [hf])]
 refine⟨rfl,?_⟩
 have hm:0≤mvd s.n y.k∧mvd s.n y.k≤11:=by
  unfold mvd
  split
  ·split
   ·omega
   ·split<;>omega
  ·split
   ·split<;>omega
   ·split
    ·omega
    ·split<;>omega
 refine⟨hm,?_⟩
 unfold reps
 split
 ·next e=>
  have:okR y.d:=by
   rcases hk with k|k|k|k
   ·omega
   ·exact⟨k.2.2.2.1,k.2.2.2.2⟩
   ·omega
   ·omega
  exact⟨this,ha,hb,hc⟩
 ·split
  ·split
   ·exact⟨hb,ha,hc,hd⟩
   ·split
    ·exact⟨hc,ha,hb,hd⟩
    ·split
     ·exact⟨hd,ha,hb,hc⟩
     ·exact⟨ha,hb,hc,hd⟩
  ·exact⟨ha,hb,hc,hd⟩
def bitsN (i:Nat):Nat:=if i<4 then 0 else i/2-1
def least:Nat→Nat
 |0=>1
 |i+1=>least i+2^bitsN i
def slotK (d:Nat):Nat→Nat
 |0=>0
 |k+1=>if least k≤d then k else slotK d k
def slotN (d:Nat):Nat:=slotK d 64
theorem least_lt (i:Nat):least i<least (i+1):=by
 show least i<least i+2^bitsN i
 have:=Nat.two_pow_pos (bitsN i)
 omega
theorem least_mono {i j:Nat}(h:i≤j):least i≤least j:=by
 induction h with
 |refl=>exact Nat.le_refl _
 |step _ ih=>exact Nat.le_trans ih (Nat.le_of_lt (least_lt _))
theorem slotK_spec {d:Nat}(hd:1≤d): ∀k,0<k→slotK d k<k∧least (slotK d k)≤d∧ ∀j,slotK d k<j→j<k→d<least j
 |0,h=>by omega
 |k+1,_=>by
  unfold slotK
  split
  ·next h=>exact⟨by omega,h,fun j h1 h2=>by omega⟩
  ·next h=>
   rcases Nat.eq_zero_or_pos k with e|e
   ·subst e
    exact absurd hd (by simpa [least]using h)
   ·obtain⟨h1,h2,h3⟩:=slotK_spec hd k e
    refine⟨by omega,h2,fun j g1 g2=> ?_⟩
    by_cases ej:j=k
    ·subst ej;omega
    ·exact h3 j g1 (by omega)
theorem slotN_lt {d:Nat}(hd:1≤d):slotN d<64:=(slotK_spec hd 64 (by omega)).1
theorem slotN_le {d:Nat}(hd:1≤d):least (slotN d)≤d:=(slotK_spec hd 64 (by omega)).2.1
theorem least64:least 64=4294967297:=by decide+kernel
theorem slotN_top {d:Nat}(hd:1≤d)(hm:d≤4294967295):d<least (slotN d)+2^bitsN (slotN d):=by
 obtain⟨h1,_,h3⟩:=slotK_spec hd 64 (by omega)
 show d<least (slotN d+1)
 by_cases e:slotN d+1<64
 ·exact h3 _ (by show slotN d<slotN d+1;omega) e
 ·have:slotN d+1=64:=by have:=slotN_lt hd;omega
  rw [this,least64]
  omega
theorem slotN_is {d i:Nat}(hi:i<64)(h1:least i≤d)(h2:d<least (i+1)):slotN d=i:=by
 have hd:1≤d:=Nat.le_trans (least_mono (Nat.zero_le i)) h1
 have a1:=slotN_le hd
 have a2:=slotN_lt hd
 have a3:=(slotK_spec hd 64 (by omega)).2.2
 by_cases e:slotN d<i
 ·have:=a3 i e hi
  omega
 ·by_cases e2:i<slotN d
  ·have:=least_mono (i:=i+1) (j:=slotN d) e2
   omega
  ·omega
theorem bitsN_le {i:Nat}(hi:i<64):bitsN i≤30:=by unfold bitsN;split<;>omega
theorem least_le {i:Nat}(hi:i<64):least i≤3221225473:=by
 have:=least_mono (i:=i) (j:=63) (by omega)
 have e:least 63=3221225473:=by decide+kernel
 omega
def slotA (d:Int):Int×Int:=if 1≤d∧d≤4294967295 then((slotN d.toNat:Int),0)else(0,7)
def rangeA (i:Int):Int×Int×Int:=if 0≤i∧i≤63 then((least i.toNat:Int),(bitsN i.toNat:Int),0)else(0,0,7)
def allow (p:Prp):Prop:=(0≤p.lc∧0≤p.lp∧0≤p.pb)∧p.lc+p.lp≤4∧p.pb≤4
instance (p:Prp):Decidable (allow p):=by unfold allow;exact inferInstance
def byteP (p:Prp):Int×Int:=if allow p then((5*p.pb+p.lp)*9+p.lc,0)else(0,6)
def told (b:Int):Prp:=⟨b% 9,b/9% 5,b/45⟩
end St12
end Go.Proofs.YthideplpcnhncaaGreatDoor
namespace Go.Proofs.YthideplpcnhncaaGreatDoor
set_option linter.unusedVariables false
open St12
namespace Sy13
def rep4 (s:Stt)(i:Int):Int:=if i=1 then s.b else if i=2 then s.c else if i=3 then s.d else s.a
def distS (s:Stt)(y:Sym):Int:=if y.k=2 then y.d else if y.k=3 then rep4 s y.d else s.a
def sizeA (y:Sym):Int:=if formed y≠0 then 0 else if y.k=2∨y.k=3 then y.l else 1
def inwD (n:Nat)(bs:List Nat)(d:Int):Prop:=0<d∧d≤((fullN n bs:Nat):Int)
instance (n:Nat) (bs:List Nat) (d:Int):Decidable (inwD n bs d):=by unfold inwD;exact inferInstance
def app (n:Nat)(bs:List Nat)(s:Stt)(y:Sym):List Nat×Stt×Int:=
 if(nxt s y).2≠0 then([],zero,(nxt s y).2)
 else if y.k=1 then([y.y.toNat],(nxt s y).1,0)
 else if inwD n bs (distS s y)then(copyL (distS s y).toNat bs (sizeA y).toNat,(nxt s y).1,0)
 else([],zero,7)
theorem nxt_err {s:Stt}{y:Sym}(h:(nxt s y).2=0):right s∧formed y=0:=by
 unfold nxt at h
 split at h
 ·simp at h
 ·next h1=>
  split at h
  ·next h2=>exact absurd h h2
  ·next h2=>exact⟨Decidable.of_not_not h1,Decidable.of_not_not h2⟩
theorem nxt_ok {s:Stt}{y:Sym}(h:right s)(hf:formed y=0):(nxt s y).2=0:=(nxt_right h hf).1
theorem app_refused {n:Nat}{bs:List Nat}{s:Stt}{y:Sym}(h:(app n bs s y).2.2≠0):(app n bs s y).1=[]∧(app n bs s y).2.1=zero:=by
 unfold app at h⊢
 split
 ·exact⟨rfl,rfl⟩
 ·next h1=>
  rw [if_neg h1]at h
  split
  ·next h2=>rw [if_pos h2]at h;exact absurd rfl h
  ·next h2=>
   rw [if_neg h2]at h
   split
   ·next h3=>rw [if_pos h3]at h;exact absurd rfl h
   ·exact⟨rfl,rfl⟩
theorem app_next {n:Nat}{bs:List Nat}{s:Stt}{y:Sym}(h:(app n bs s y).2.2=0):(nxt s y).2=0∧(app n bs s y).2.1=(nxt s y).1:=by
 unfold app at h⊢
 split
 ·next h1=>rw [if_pos h1]at h;exact absurd h h1
 ·next h1=>
  refine⟨Decidable.of_not_not h1,?_⟩
  rw [if_neg h1]at h
  split
  ·rfl
  ·next h2=>
   rw [if_neg h2]at h
   split
   ·rfl
   ·next h3=>rw [if_neg h3]at h;simp at h
theorem app_right {n:Nat}{bs:List Nat}{s:Stt}{y:Sym}(h:(app n bs s y).2.2=0):right (app n bs s y).2.1:=by
 obtain⟨h1,h2⟩:=app_next h
 obtain⟨h3,h4⟩:=nxt_err h1
 rw [h2]
 exact(nxt_right h3 h4).2
theorem sizeA_in {y:Sym}(hf:formed y=0):1≤sizeA y∧sizeA y≤273:=by
 have hk:=formed_kind hf
 unfold sizeA
 rw [if_neg (by simp [hf])]
 split
 ·omega
 ·omega
theorem sizeA_le (y:Sym):0≤sizeA y∧sizeA y≤273:=by
 by_cases hf:formed y=0
 ·have:=sizeA_in hf;omega
 ·unfold sizeA;rw [if_pos hf];omega
theorem app_len {n:Nat}{bs:List Nat}{s:Stt}{y:Sym}(h:(app n bs s y).2.2=0):(app n bs s y).1.length=(sizeA y).toNat∧1≤(sizeA y).toNat:=by
 obtain⟨h3,h4⟩:=nxt_err (app_next h).1
 have hs:=sizeA_in h4
 unfold app at h⊢
 rw [if_neg (by simp [nxt_ok h3 h4])]at h⊢
 split
 ·next h2=>
  have:sizeA y=1:=by unfold sizeA;rw [if_neg (by simp [h4]),if_neg (by omega)]
  rw [this]
  exact⟨rfl,by decide⟩
 ·next h2=>
  rw [if_neg h2]at h
  split
  ·exact⟨copyL_len _ _ _,by omega⟩
  ·next h3=>rw [if_neg h3]at h;simp at h
theorem app_len_le (n:Nat)(bs:List Nat)(s:Stt)(y:Sym):(app n bs s y).1.length≤273:=by
 by_cases h:(app n bs s y).2.2=0
 ·rw [(app_len h).1]
  have:=sizeA_le y
  omega
 ·rw [(app_refused h).1];simp
theorem app_err (n:Nat)(bs:List Nat)(s:Stt)(y:Sym):(app n bs s y).2.2=0∨(app n bs s y).2.2=6∨(app n bs s y).2.2=7:=by
 have hn:(nxt s y).2=0∨(nxt s y).2=6∨(nxt s y).2=7:=by
  unfold nxt
  split
  ·exact .inr (.inr rfl)
  ·split
   ·exact formed_vals y
   ·exact .inl rfl
 unfold app
 split
 ·exact hn
 ·split
  ·exact .inl rfl
  ·split
   ·exact .inl rfl
   ·exact .inr (.inr rfl)
theorem formed_lit (k:Int)(b l d:Int)(h:k=1):formed ⟨k,b,l,d⟩=0:=by subst h;unfold formed;simp
theorem app_lit {n:Nat}{bs:List Nat}{s:Stt}(h:right s)(b l d:Int):(app n bs s ⟨1,b,l,d⟩).1=[b.toNat]∧(app n bs s ⟨1,b,l,d⟩).2.2=0:=by
 have:=nxt_ok h (formed_lit 1 b l d rfl)
 unfold app
 rw [if_neg (by simp [this]),if_pos rfl]
 exact⟨rfl,rfl⟩
end Sy13
end Go.Proofs.YthideplpcnhncaaGreatDoor
namespace Go.Proofs.YthideplpcnhncaaGreatDoor.Prob
def cl (p:Int):Int:=if p<0 then 0 else if 2047<p then 2047 else p
theorem cl_lo (p:Int):0≤cl p:=by unfold cl;split<;>(try split)<;>omega
theorem cl_hi (p:Int):cl p≤2047:=by unfold cl;split<;>(try split)<;>omega
theorem cl_id {p:Int}(h:0≤p)(h2:p≤2047):cl p=p:=by unfold cl;split<;>(try split)<;>omega
def up (p:Int):Int:=p+(2048-p)/32
def dn (p:Int):Int:=p-p/32
def nx (p b:Int):Int:=if b=0 then up (cl p)else dn (cl p)
theorem nx0 {p:Int}(h:0≤p)(h2:p≤2047):nx p 0=up p:=by unfold nx;rw [if_pos rfl,cl_id h h2]
theorem nx1 {p b:Int}(hb:b≠0)(h:0≤p)(h2:p≤2047):nx p b=dn p:=by unfold nx;rw [if_neg hb,cl_id h h2]
theorem up_lo {p:Int}(h:31≤p)(h2:p≤2017):31≤up p∧up p≤2017:=by unfold up;omega
theorem dn_lo {p:Int}(h:31≤p)(h2:p≤2017):31≤dn p∧dn p≤2017:=by unfold dn;omega
theorem nx_lo {p b:Int}(h:31≤p)(h2:p≤2017):31≤nx p b∧nx p b≤2017:=by
 by_cases hb:b=0
 ·subst hb;rw [nx0 (by omega) (by omega)];exact up_lo h h2
 ·rw [nx1 hb (by omega) (by omega)];exact dn_lo h h2
theorem nx_in (p b:Int):0≤nx p b∧nx p b≤2047:=by
 have h1:=cl_lo p
 have h2:=cl_hi p
 unfold nx up dn
 split<;>omega
def halve:Nat→Int→Int→Int×Int
 |0,w,c=>(w,c)
 |n+1,w,c=>if 65536≤w then halve n (w/2) (c+1)else(w,c)
theorem halve_end (n:Nat)(w c:Int)(h:w<65536):halve n w c=(w,c):=by
 cases n with
 |zero=>rfl
 |succ n=>unfold halve;rw [if_neg (by omega)]
theorem halve_step (n:Nat)(w c:Int)(h:65536≤w):halve (n+1) w c=halve n (w/2) (c+1):=by
 conv=>lhs;unfold halve
 rw [if_pos h]
def big:Nat→Int
 |0=>65536
 |n+1=>2*big n
def cap:Nat→Int
 |0=>0
 |n+1=>2*cap n+16
theorem cap_le: ∀k,k<5→cap k≤240:=by decide+kernel
theorem big_le: ∀k,k<17→big k≤4294967296:=by decide+kernel
def rest:Nat→Int→Int→Int
 |0,_,c=>c
 |n+1,w,c=>rest n (halve 16 (w*w) (2*c)).1 (halve 16 (w*w) (2*c)).2
def cost (p:Int):Int:=161-rest 4 (16*(p/16)+8) 0
def costs (k:Nat):Int:=161-rest 4 (16*(k:Int)+8) 0
theorem cost_at (p:Int)(h:0≤p):cost p=costs (p.toNat/16):=by
 unfold cost costs
 rw [show((p.toNat/16:Nat):Int)=p/16 by omega]
theorem costs_in: ∀k,k<127→1≤k→1≤costs k∧costs k≤103:=by decide+kernel
theorem cost_in {p:Int}(h:31≤p)(h2:p≤2017):1≤cost p∧cost p≤103:=by
 rw [cost_at p (by omega)]
 exact costs_in _ (by omega) (by omega)
theorem cost_in2 {p:Int}(h:16≤p)(h2:p≤2031):1≤cost p∧cost p≤103:=by
 rw [cost_at p (by omega)]
 exact costs_in _ (by omega) (by omega)
def co (p b:Int):Int:=if b=0 then cost (cl p)else cost (2047-cl p)
theorem co0 {p:Int}(h:0≤p)(h2:p≤2047):co p 0=cost p:=by unfold co;rw [if_pos rfl,cl_id h h2]
theorem co1 {p b:Int}(hb:b≠0)(h:0≤p)(h2:p≤2047):co p b=cost (2047-p):=by unfold co;rw [if_neg hb,cl_id h h2]
def bo (r p:Int):Int:=r/2048*cl p
theorem mul_le {a p q:Int}(ha:0≤a)(h:p≤q):a*p≤a*q:=Int.mul_le_mul_of_nonneg_left h ha
theorem bo_in (r p:Int)(hr:0≤r):0≤bo r p∧bo r p≤r:=by
 unfold bo
 have h1:=cl_lo p
 have h2:=cl_hi p
 have e1:=mul_le (a:=r/2048) (by omega) h1
 have e2:=mul_le (a:=r/2048) (by omega) h2
 omega
end Go.Proofs.YthideplpcnhncaaGreatDoor.Prob
namespace Go.Proofs.YthideplpcnhncaaGreatDoor
set_option linter.unusedVariables false
set_option linter.unusedSimpArgs false
open St12 Sy13
structure Nm where
 t:Nat
 a:Nat
 b:Nat
theorem Nm.ext' {x y:Nm}(h:x.t=y.t)(i:x.a=y.a)(j:x.b=y.b):x=y:=by
 cases x;cases y
 simp only at h i j
 subst h;subst i;subst j
 rfl
instance : DecidableEq Nm:=fun x y=>
 if h:x.t=y.t∧x.a=y.a∧x.b=y.b then .isTrue (Nm.ext' h.1 h.2.1 h.2.2)else .isFalse (fun e=>h (by subst e;exact⟨rfl,rfl,rfl⟩))
structure Bt where
 nm:Option Nm
 i:Nat
 b:Nat
structure Cd where
 pr:Nm→Nat→Int
 e:Rc.E
structure Lz where
 p:Prp
 n:Nat
 bs:List Nat
 s:Stt
 c:Cd
namespace Lz14
def nIsMatch (n ps:Nat):Nm:=⟨0,n,ps⟩
def nIsRep (n:Nat):Nm:=⟨1,n,0⟩
def nIsRep0 (n:Nat):Nm:=⟨2,n,0⟩
def nIsRep1 (n:Nat):Nm:=⟨3,n,0⟩
def nIsRep2 (n:Nat):Nm:=⟨4,n,0⟩
def nIsLong (n ps:Nat):Nm:=⟨5,n,ps⟩
def nLit (c:Nat):Nm:=⟨6,c,0⟩
def nChoice (k:Nat):Nm:=⟨7,k,0⟩
def nChoice2 (k:Nat):Nm:=⟨8,k,0⟩
def nLow (k ps:Nat):Nm:=⟨9,k,ps⟩
def nMid (k ps:Nat):Nm:=⟨10,k,ps⟩
def nHigh (k:Nat):Nm:=⟨11,k,0⟩
def nSlot (k:Nat):Nm:=⟨12,k,0⟩
def nRest (s:Nat):Nm:=⟨13,s,0⟩
def nAlign:Nm:=⟨14,0,0⟩
def tw (nm:Nm)(v:Nat):Nat→Nat→List Bt
 |0,_=>[]
 |i+1,m=>⟨some nm,m,v/2^i% 2⟩::tw nm v i (2*m+v/2^i% 2)
def treeB (nm:Nm)(n v:Nat):List Bt:=tw nm v n 1
def bw (nm:Nm):Nat→Nat→Nat→List Bt
 |0,_,_=>[]
 |i+1,v,m=>⟨some nm,m,v% 2⟩::bw nm i (v/2) (2*m+v% 2)
def wayB (nm:Nm)(n v:Nat):List Bt:=bw nm n v 1
def rawB (x:Nat):Nat→List Bt
 |0=>[]
 |i+1=>⟨none,0,x/2^i% 2⟩::rawB x i
def mw (nm:Nm)(b t:Nat):Nat→Nat→Bool→List Bt
 |0,_,_=>[]
 |i+1,m,al=>⟨some nm,if al=true then 256*(1+t/2^i% 2)+m else m,b/2^i% 2⟩::mw nm b t i (2*m+b/2^i% 2) (al&&decide (b/2^i% 2=t/2^i% 2))
def psA (X:Lz):Nat:=X.bs.length% 2^X.p.pb.toNat
def litC (X:Lz):Nat:=X.bs.length% 2^X.p.lp.toNat*2^X.p.lc.toNat+backB X.bs 1/2^(8-X.p.lc.toNat)
def litB (X:Lz)(b:Nat):List Bt:=if X.s.n<7 then treeB (nLit (litC X)) 8 b else mw (nLit (litC X)) b (backB X.bs X.s.a.toNat) 8 1 true
def lenB (k ps l:Nat):List Bt:=
 if l-2<8 then⟨some (nChoice k),0,0⟩::treeB (nLow k ps) 3 (l-2)
 else if l-2<16 then⟨some (nChoice k),0,1⟩::⟨some (nChoice2 k),0,0⟩::treeB (nMid k ps) 3 (l-2-8)
 else⟨some (nChoice k),0,1⟩::⟨some (nChoice2 k),0,1⟩::treeB (nHigh k) 8 (l-2-16)
def farB (s r:Nat):List Bt:=
 if s<4 then []else if s<14 then wayB (nRest s) (bitsN s) r
 else rawB (r/16) (bitsN s-4)++wayB nAlign 4 (r% 16)
def distB (l d:Nat):List Bt:=treeB (nSlot (min (l-2) 3)) 6 (slotN d)++farB (slotN d) (d-least (slotN d))
def repB (n:Nat)(i:Int):List Bt:=
 ⟨some (nIsRep n),0,1⟩::(if i=0 then [⟨some (nIsRep0 n),0,0⟩]
 else if i=1 then [⟨some (nIsRep0 n),0,1⟩,⟨some (nIsRep1 n),0,0⟩]
 else if i=2 then [⟨some (nIsRep0 n),0,1⟩,⟨some (nIsRep1 n),0,1⟩,⟨some (nIsRep2 n),0,0⟩]
 else [⟨some (nIsRep0 n),0,1⟩,⟨some (nIsRep1 n),0,1⟩,⟨some (nIsRep2 n),0,1⟩])
def symB (X:Lz)(y:Sym):List Bt:=
 if y.k=1 then⟨some (nIsMatch X.s.n.toNat (psA X)),0,0⟩::litB X y.y.toNat
 else if y.k=2 then⟨some (nIsMatch X.s.n.toNat (psA X)),0,1⟩::⟨some (nIsRep X.s.n.toNat),0,0⟩::(lenB 0 (psA X) y.l.toNat++distB y.l.toNat y.d.toNat)
 else if y.k=4 then⟨some (nIsMatch X.s.n.toNat (psA X)),0,1⟩::(repB X.s.n.toNat 0++[⟨some (nIsLong X.s.n.toNat (psA X)),0,0⟩])
 else⟨some (nIsMatch X.s.n.toNat (psA X)),0,1⟩::((repB X.s.n.toNat y.d++if y.d=0 then [⟨some (nIsLong X.s.n.toNat (psA X)),0,1⟩]else [])++lenB 1 (psA X) y.l.toNat)
def upd (pr:Nm→Nat→Int)(nm:Nm)(i:Nat)(x:Int):Nm→Nat→Int:=fun m j=>if m=nm∧j=i then x else pr m j
def code1 (c:Cd)(t:Bt):Cd:=
 match t.nm with
 |some nm=>⟨upd c.pr nm t.i (Prob.nx (c.pr nm t.i) t.b),Rc.cut c.e (c.e.R/2048*(c.pr nm t.i).toNat) (decide ((t.b:Int)≠0))⟩
 |none=>⟨c.pr,Rc.half c.e (decide (t.b% 2=1))⟩
def codeL (c:Cd)(l:List Bt):Cd:=l.foldl code1 c
def cost1 (pr:Nm→Nat→Int)(t:Bt):Int:=
 match t.nm with
 |some nm=>Prob.co (pr nm t.i) t.b
 |none=>16
def costL (pr:Nm→Nat→Int):List Bt→Int
 | []=>0
 |t::l=>cost1 pr t+costL pr l
def fresh:Nm→Nat→Int:=fun _ _=>1024
def newA (p:Prp)(n:Nat):Lz:=⟨p,n,[],st0,⟨fresh,Rc.start⟩⟩
def errA (X:Lz)(y:Sym):Int:=(app X.n X.bs X.s y).2.2
def putA (X:Lz)(y:Sym):Lz:=if errA X y≠0 then X else⟨X.p,X.n,X.bs++(app X.n X.bs X.s y).1,(app X.n X.bs X.s y).2.1,codeL X.c (symB X y)⟩
def costA (X:Lz)(y:Sym):Int:=if errA X y≠0 then 0 else costL X.c.pr (symB X y)
def cutA (X:Lz):Lz:=⟨X.p,X.n,X.bs,X.s,⟨X.c.pr,Rc.start⟩⟩
def resetA (X:Lz)(p:Prp):Lz:=if allow p then⟨p,X.n,X.bs,st0,⟨fresh,X.c.e⟩⟩else X
def resetE (p:Prp):Int:=if allow p then 0 else 6
def clearA (X:Lz):Lz:=⟨X.p,X.n,[],st0,⟨fresh,X.c.e⟩⟩
structure In (c:Cd):Prop where
 pr: ∀nm i,31≤c.pr nm i∧c.pr nm i≤2017
 ok:Rc.Ok c.e
structure I (X:Lz):Prop where
 al:allow X.p
 n1:1≤X.n
 n2:X.n≤4294967295
 rt:right X.s
 dig:Rc.Dig X.bs
 far:7≤X.s.n→inwD X.n X.bs X.s.a
 c:In X.c
theorem in_fresh {e:Rc.E}(h:Rc.Ok e):In ⟨fresh,e⟩:=⟨fun _ _=>by simp [fresh],h⟩
theorem code1_in {c:Cd}(h:In c)(t:Bt):In (code1 c t):=by
 obtain⟨nm,i,b⟩:=t
 cases nm with
 |none=>exact⟨h.pr,Rc.half_ok h.ok _⟩
 |some nm=>
  refine⟨fun m j=> ?_,?_⟩
  ·show 31≤upd _ _ _ _ m j∧upd _ _ _ _ m j≤2017
   unfold upd
   split
   ·exact Prob.nx_lo (h.pr nm i).1 (h.pr nm i).2
   ·exact h.pr m j
  ·have h1:=h.pr nm i
   have h2:=Rc.bound_in (p:=(c.pr nm i).toNat) h.ok.lo (by omega) (by omega)
   exact Rc.cut_ok h.ok h2.1 h2.2 _
theorem codeL_in: ∀(l:List Bt) {c:Cd},In c→In (codeL c l)
 | [],_,h=>h
 |t::l,_,h=>codeL_in l (code1_in h t)
theorem codeL_app (c:Cd)(a b:List Bt):codeL c (a++b)=codeL (codeL c a) b:=List.foldl_append ..
theorem costL_app (pr:Nm→Nat→Int): ∀a b:List Bt,costL pr (a++b)=costL pr a+costL pr b
 | [],b=>by simp [costL]
 |t::a,b=>by simp [costL,costL_app pr a b];omega
def Pot (e f:Rc.E)(c:Nat):Prop:=256^f.k*e.R≤256^e.k*f.R*2^c
theorem Pot.refl (e:Rc.E):Pot e e 0:=by unfold Pot;simp
theorem Pot.trans {e f g:Rc.E}{c d:Nat}(hf:0<f.R)(h:Pot e f c)(i:Pot f g d):Pot e g (c+d):=by
 unfold Pot at*
 apply Nat.le_of_mul_le_mul_right (c:=256^f.k*f.R) _ (Nat.mul_pos (Nat.pow_pos (by omega)) hf)
 have:=Nat.mul_le_mul h i
 rw [Nat.pow_add]
 calc 256^g.k*e.R*(256^f.k*f.R)=256^f.k*e.R*(256^g.k*f.R):=by ac_rfl
  _≤256^e.k*f.R*2^c*(256^f.k*g.R*2^d):=this
  _=256^e.k*g.R*(2^c*2^d)*(256^f.k*f.R):=by ac_rfl
theorem Pot.widen {e f:Rc.E}{c:Nat}(h:Pot e f c):Pot e (Rc.widen f) c:=by
 unfold Pot Rc.widen at*
 split
 ·show 256^(f.k+1)*e.R≤256^e.k*(256*f.R)*2^c
  rw [Nat.pow_succ]
  calc 256^f.k*256*e.R=256*(256^f.k*e.R):=by ac_rfl
   _≤256*(256^e.k*f.R*2^c):=Nat.mul_le_mul_left _ h
   _=256^e.k*(256*f.R)*2^c:=by ac_rfl
 ·exact h
def wt1 (t:Bt):Nat:=match t.nm with
 |some _=>7
 |none=>2
def wt:List Bt→Nat
 | []=>0
 |t::l=>wt1 t+wt l
theorem pot_same {e f:Rc.E}{c:Nat}(hk:f.k=e.k)(h:e.R≤f.R*2^c):Pot e f c:=by
 unfold Pot
 rw [hk,Nat.mul_assoc]
 exact Nat.mul_le_mul_left _ h
theorem code1_pot {c:Cd}(h:In c)(t:Bt):Pot c.e (code1 c t).e (wt1 t):=by
 obtain⟨nm,i,b⟩:=t
 cases nm with
 |none=>
  have:=h.ok.lo
  refine Pot.widen (pot_same ?_ ?_)
  ·unfold Rc.hpart;split<;>rfl
  ·have e:(Rc.hpart c.e (decide (b% 2=1))).R=c.e.R/2:=by unfold Rc.hpart;split<;>rfl
   rw [e]
   show c.e.R≤c.e.R/2*4
   omega
 |some nm=>
  have h1:=h.pr nm i
  have h3:=h.ok.lo
  obtain⟨p,hp⟩: ∃p,(c.pr nm i).toNat=p:=⟨_,rfl⟩
  have hp1:31≤p:=by omega
  have hp2:p≤2017:=by omega
  obtain⟨q,hq⟩: ∃q,c.e.R/2048=q:=⟨_,rfl⟩
  have m1:q*31≤q*p:=Nat.mul_le_mul_left _ hp1
  have m2:q*p≤q*2017:=Nat.mul_le_mul_left _ hp2
  refine Pot.widen (pot_same ?_ ?_)
  ·unfold Rc.part;split<;>rfl
  ·show c.e.R≤(Rc.part c.e (c.e.R/2048*(c.pr nm i).toNat) (decide ((b:Int)≠0))).R*128
   rw [hq,hp]
   unfold Rc.part
   split
   ·show c.e.R≤(c.e.R-q*p)*128
    omega
   ·show c.e.R≤q*p*128
    omega
theorem codeL_pot: ∀(l:List Bt) {c:Cd},In c→Pot c.e (codeL c l).e (wt l)
 | [],c,h=>Pot.refl _
 |t::l,c,h=>by
  have h1:=code1_pot h t
  have h2:=codeL_pot l (code1_in h t)
  exact h1.trans (by have:=(code1_in h t).ok.lo;omega) h2
theorem wt_app: ∀a b:List Bt,wt (a++b)=wt a+wt b
 | [],b=>by simp [wt]
 |t::a,b=>by simp [wt,wt_app a b];omega
theorem wt_tw (nm:Nm)(v:Nat): ∀i m,wt (tw nm v i m)=7*i
 |0,_=>rfl
 |i+1,m=>by simp [tw,wt,wt1,wt_tw nm v i];omega
theorem wt_bw (nm:Nm): ∀i v m,wt (bw nm i v m)=7*i
 |0,_,_=>rfl
 |i+1,v,m=>by simp [bw,wt,wt1,wt_bw nm i];omega
theorem wt_mw (nm:Nm)(b t:Nat): ∀i m al,wt (mw nm b t i m al)=7*i
 |0,_,_=>rfl
 |i+1,m,al=>by simp [mw,wt,wt1,wt_mw nm b t i];omega
theorem wt_raw (x:Nat): ∀i,wt (rawB x i)=2*i
 |0=>rfl
 |i+1=>by simp [rawB,wt,wt1,wt_raw x i];omega
theorem wt_len (k ps l:Nat):wt (lenB k ps l)≤70:=by
 unfold lenB
 split
 ·simp [wt,wt1,treeB,wt_tw]
 ·split
  ·simp [wt,wt1,treeB,wt_tw]
  ·simp [wt,wt1,treeB,wt_tw]
theorem bits_le {s:Nat}(h:s≤63):bitsN s≤30:=by unfold bitsN;split<;>omega
theorem wt_far {s r:Nat}(h:s≤63):wt (farB s r)≤80:=by
 have:=bits_le h
 unfold farB
 split
 ·simp [wt]
 ·split
  ·have:bitsN s≤5:=by unfold bitsN;split<;>omega
   simp [wayB,wt_bw];omega
  ·simp [wt_app,wt_raw,wayB,wt_bw];omega
theorem slotK_le (d:Nat): ∀k,slotK d k≤k-1
 |0=>Nat.le_refl _
 |k+1=>by
  unfold slotK
  split
  ·omega
  ·have:=slotK_le d k;omega
theorem slot_le (d:Nat):slotN d≤63:=slotK_le d 64
theorem wt_dist (l d:Nat):wt (distB l d)≤122:=by
 unfold distB
 have:=wt_far (r:=d-least (slotN d)) (slot_le d)
 rw [wt_app]
 simp [treeB,wt_tw]
 omega
theorem wt_sym (X:Lz)(y:Sym):wt (symB X y)≤206:=by
 unfold symB
 split
 ·unfold litB
  split
  ·simp [wt,wt1,treeB,wt_tw]
  ·simp [wt,wt1,wt_mw]
 ·split
  ·have h1:=wt_len 0 (psA X) y.l.toNat
   have h2:=wt_dist y.l.toNat y.d.toNat
   simp [wt,wt1,wt_app]
   omega
  ·split
   ·simp [wt,wt1,wt_app,repB]
   ·have h1:=wt_len 1 (psA X) y.l.toNat
    have h2:wt (repB X.s.n.toNat y.d)≤28:=by
     unfold repB
     split
     ·simp [wt,wt1]
     ·split
      ·simp [wt,wt1]
      ·split<;>simp [wt,wt1]
    simp only [wt,wt1,wt_app]
    split<;>simp [wt,wt1]<;>omega
theorem pot_k {e:Rc.E}(h:Rc.Ok e){m:Nat}(hp:Pot Rc.start e m):8*e.k≤m:=by
 unfold Pot at hp
 have h1:=h.hi
 have e1:256^e.k*4294967295≤2^m*4294967295:=by
  calc 256^e.k*4294967295≤256^0*e.R*2^m:=hp
   _≤256^0*4294967295*2^m:=Nat.mul_le_mul_right _ (Nat.mul_le_mul_left _ h1)
   _=2^m*4294967295:=by simp [Nat.mul_comm]
 have e2:256^e.k≤2^m:=Nat.le_of_mul_le_mul_right e1 (by omega)
 rw [show(256:Nat)=2^8 from rfl,←Nat.pow_mul]at e2
 exact(Nat.pow_le_pow_iff_right (by omega)).1 e2
theorem cost1_in {c:Cd}(h:In c)(t:Bt):1≤cost1 c.pr t∧cost1 c.pr t≤103:=by
 obtain⟨nm,i,b⟩:=t
 cases nm with
 |none=>exact⟨by show(1:Int)≤16;decide,by show(16:Int)≤103;decide⟩
 |some nm=>
  have h1:=h.pr nm i
  show 1≤Prob.co (c.pr nm i) b∧Prob.co (c.pr nm i) b≤103
  by_cases hb:(b:Int)=0
  ·rw [hb,Prob.co0 (by omega) (by omega)]
   exact Prob.cost_in h1.1 h1.2
  ·rw [Prob.co1 hb (by omega) (by omega)]
   exact Prob.cost_in2 (by omega) (by omega)
theorem costL_lo {c:Cd}(h:In c): ∀l:List Bt,(l.length:Int)≤costL c.pr l
 | []=>by simp [costL]
 |t::l=>by
  have h1:=cost1_in h t
  have h2:=costL_lo h l
  simp only [costL,List.length_cons]
  omega
theorem sym_ne (X:Lz)(y:Sym):1≤(symB X y).length:=by
 unfold symB
 split
 ·simp
 ·split
  ·simp
  ·split<;>simp
theorem cost_pos {X:Lz}(h:I X){y:Sym}(he:errA X y=0):1≤costA X y:=by
 unfold costA
 rw [if_neg (by simp [he])]
 have h1:=costL_lo h.c (symB X y)
 have h2:=sym_ne X y
 omega
theorem full_app (n:Nat)(bs xs:List Nat):fullN n bs≤fullN n (bs++xs):=by unfold fullN;rw [List.length_append];omega
theorem inw_app {n:Nat}{bs xs:List Nat}{d:Int}(h:inwD n bs d):inwD n (bs++xs) d:=by
 have:=full_app n bs xs
 obtain⟨h1,h2⟩:=h
 exact⟨h1,by omega⟩
theorem new_I {p:Prp}{n:Nat}(hp:allow p)(h1:1≤n)(h2:n≤4294967295):I (newA p n):=
 ⟨hp,h1,h2,by show right st0;decide,fun x hx=>(nomatch hx),fun h=>absurd h (by show¬(7:Int)≤0;decide),in_fresh Rc.start_ok⟩
theorem cut_I {X:Lz}(h:I X):I (cutA X):=⟨h.al,h.n1,h.n2,h.rt,h.dig,h.far,⟨h.c.pr,Rc.start_ok⟩⟩
theorem clear_I {X:Lz}(h:I X):I (clearA X):=⟨h.al,h.n1,h.n2,by show right st0;decide,fun x hx=>(nomatch hx),fun h=>absurd h (by show¬(7:Int)≤0;decide),in_fresh h.c.ok⟩
theorem mvd_lit {n:Int}(h:0≤n∧n≤11):mvd n 1<7:=by
 unfold mvd
 rw [if_pos rfl]
 split
 ·omega
 ·split<;>omega
theorem app_far' {n:Nat}{bs:List Nat}{s:Stt}{y:Sym}(h:(app n bs s y).2.2=0)(hk:y.k≠1):inwD n bs (distS s y)∧(app n bs s y).2.1.a=distS s y∧(app n bs s y).1=copyL (distS s y).toNat bs (sizeA y).toNat:=by
 obtain⟨h1,h2⟩:=app_next h
 obtain⟨h3,h4⟩:=nxt_err h1
 have e:app n bs s y=if inwD n bs (distS s y)then(copyL (distS s y).toNat bs (sizeA y).toNat,(nxt s y).1,0)else([],zero,7):=by
  unfold app
  rw [if_neg (by simp [h1]),if_neg hk]
 have hi:inwD n bs (distS s y):=by
  by_cases hi:inwD n bs (distS s y)
  ·exact hi
  ·rw [e,if_neg hi]at h
   simp at h
 refine⟨hi,?_,by rw [e,if_pos hi]⟩
 rw [h2]
 unfold nxt
 rw [if_neg (by simp [h3]),if_neg (by simp [h4])]
 show(reps s y).1=distS s y
 have hf:=formed_kind h4
 unfold reps distS rep4
 rcases hf with k|⟨k,_⟩|⟨k,_,_,k3,k4⟩|k
 ·exact absurd k hk
 ·rw [if_pos k,if_pos k]
 ·have hd:y.d=0∨y.d=1∨y.d=2∨y.d=3:=by omega
  rcases hd with hd|hd|hd|hd<;>simp [k,hd]
 ·rw [if_neg (by omega),if_neg (by omega),if_neg (by omega),if_neg (by omega)]
theorem app_dig {n:Nat}{bs:List Nat}{s:Stt}{y:Sym}(h:(app n bs s y).2.2=0)(hb:Rc.Dig bs)(hy:0≤y.y∧y.y≤255):Rc.Dig (app n bs s y).1:=by
 by_cases hk:y.k=1
 ·have h1:=(app_next h).1
  have e:(app n bs s y).1=[y.y.toNat]:=by
   unfold app
   rw [if_neg (by simp [h1]),if_pos hk]
  rw [e]
  intro x hx
  simp only [List.mem_singleton]at hx
  omega
 ·obtain⟨h1,_,e⟩:=app_far' h hk
  rw [e]
  obtain⟨h2,h3⟩:=h1
  have:fullN n bs≤bs.length:=by unfold fullN;omega
  exact copyL_dig (by omega) _ (by omega) hb
theorem put_I {X:Lz}(h:I X){y:Sym}(hy:0≤y.y∧y.y≤255):I (putA X y):=by
 unfold putA
 split
 ·exact h
 ·next he=>
  have he':(app X.n X.bs X.s y).2.2=0:=Decidable.of_not_not he
  refine⟨h.al,h.n1,h.n2,app_right he',?_,?_,codeL_in _ h.c⟩
  ·intro x hx
   rcases List.mem_append.1 hx with k|k
   ·exact h.dig x k
   ·exact app_dig he' h.dig hy x k
  ·show 7≤(app X.n X.bs X.s y).2.1.n→inwD X.n (X.bs++(app X.n X.bs X.s y).1) (app X.n X.bs X.s y).2.1.a
   intro h7
   by_cases hk:y.k=1
   ·exfalso
    have h2:=app_next he'
    obtain⟨h3,h4⟩:=nxt_err h2.1
    rw [h2.2]at h7
    unfold nxt at h7
    rw [if_neg (by simp [h3]),if_neg (by simp [h4])]at h7
    have h8:7≤mvd X.s.n y.k:=h7
    rw [hk]at h8
    have:=mvd_lit h3.1
    omega
   ·obtain⟨h1,h2,_⟩:=app_far' he' hk
    rw [h2]
    exact inw_app h1
theorem put_len (X:Lz)(y:Sym):(putA X y).bs.length≤X.bs.length+273:=by
 unfold putA
 split
 ·omega
 ·show(X.bs++_).length≤_
  rw [List.length_append]
  have:=app_len_le X.n X.bs X.s y
  omega
theorem put_pot {X:Lz}(h:I X)(y:Sym):Pot X.c.e (putA X y).c.e 206:=by
 unfold putA
 split
 ·have:=Pot.refl X.c.e
  unfold Pot at*
  refine Nat.le_trans this ?_
  exact Nat.mul_le_mul_left _ (Nat.pow_le_pow_right (by omega) (by omega))
 ·have h1:=codeL_pot (symB X y) h.c
  have h2:=wt_sym X y
  unfold Pot at*
  refine Nat.le_trans h1 ?_
  exact Nat.mul_le_mul_left _ (Nat.pow_le_pow_right (by omega) h2)
theorem cut_k (e:Rc.E)(b:Nat)(one:Bool):e.k≤(Rc.cut e b one).k∧(Rc.cut e b one).k≤e.k+1:=by
 unfold Rc.cut Rc.widen
 have:(Rc.part e b one).k=e.k:=by unfold Rc.part;split<;>rfl
 split
 ·exact⟨by show e.k≤_+1;omega,by show _+1≤_;omega⟩
 ·omega
theorem half_k' (e:Rc.E)(one:Bool):e.k≤(Rc.half e one).k∧(Rc.half e one).k≤e.k+1:=by rw [Rc.half_k];split<;>omega
theorem code1_k (c:Cd)(t:Bt):c.e.k≤(code1 c t).e.k∧(code1 c t).e.k≤c.e.k+1:=by
 obtain⟨nm,i,b⟩:=t
 cases nm with
 |none=>exact half_k' _ _
 |some nm=>exact cut_k _ _ _
theorem codeL_k: ∀(l:List Bt) (c:Cd),c.e.k≤(codeL c l).e.k∧(codeL c l).e.k≤c.e.k+l.length
 | [],c=>⟨Nat.le_refl _,Nat.le_refl _⟩
 |t::l,c=>by
  have h1:=code1_k c t
  have h2:=codeL_k l (code1 c t)
  show c.e.k≤(codeL (code1 c t) l).e.k∧(codeL (code1 c t) l).e.k≤c.e.k+(l.length+1)
  omega
theorem len_wt: ∀l:List Bt,2*l.length≤wt l
 | []=>Nat.le_refl _
 |⟨none,i,b⟩::l=>by have:=len_wt l;simp only [wt,wt1,List.length_cons];omega
 |⟨some nm,i,b⟩::l=>by have:=len_wt l;simp only [wt,wt1,List.length_cons];omega
theorem put_k (X:Lz)(y:Sym):X.c.e.k≤(putA X y).c.e.k∧(putA X y).c.e.k≤X.c.e.k+103:=by
 unfold putA
 split
 ·omega
 ·have h1:=codeL_k (symB X y) X.c
  have h2:=len_wt (symB X y)
  have h3:=wt_sym X y
  show X.c.e.k≤(codeL X.c (symB X y)).e.k∧(codeL X.c (symB X y)).e.k≤X.c.e.k+103
  omega
theorem err_vals (X:Lz)(y:Sym):errA X y=0∨errA X y=6∨errA X y=7:=app_err _ _ _ _
theorem put_no {X:Lz}{y:Sym}(h:errA X y≠0):putA X y=X:=by unfold putA;rw [if_pos h]
theorem err_lit {X:Lz}(h:I X){y:Sym}(hk:y.k=1):errA X y=0:=by
 unfold errA
 obtain⟨k,b,l,d⟩:=y
 simp only at hk
 subst hk
 exact(app_lit h.rt b l d).2
end Lz14
end Go.Proofs.YthideplpcnhncaaGreatDoor
namespace Go.Proofs.YthideplpcnhncaaGreatDoor
open Go.RowKit
set_option linter.unusedVariables false
theorem within_any (p:Int)(w:World)(hp:I64 p):Calls Tryz.prog 173 #[.int .i64 p] w fun e w'=>e= .returned (.int .i64 (Prob.cl p))∧w=w':=by
 have h1:=hp.1
 have h2:=hp.2
 go_enter Tryz.func173,Tryz.ntmps173
 go_wp2
 all_goals
  go_ret
  refine⟨?_,rfl⟩
  unfold Prob.cl
  congr 2
  repeat' split
  all_goals first|rfl|(exfalso;rename_i hh _;revert hh;split<;>omega)|omega
theorem next_any (p b:Int)(w:World)(hp:I64 p):Calls Tryz.prog 175 #[.int .i64 p,.int .i64 b] w fun e w'=>e= .returned (.int .i64 (Prob.nx p b))∧w=w':=by
 have l:=Prob.cl_lo p
 have r:=Prob.cl_hi p
 have HN:Hid (Prob.nx p b=if b=0 then Prob.cl p+(2048-Prob.cl p)/32 else Prob.cl p-Prob.cl p/32):=rfl
 go_enter Tryz.func175,Tryz.ntmps175
 go_wp2_with fail
 refine(within_any p _ hp).mono ?_
 rintro e w1 ⟨rfl,rfl⟩
 generalize Prob.cl p=q at*
 by_cases hb:b=0
 ·go_wp2
  go_ret
  exact⟨by rw [HN.out,if_pos hb];rfl,rfl⟩
 ·go_wp2
  go_ret
  exact⟨by rw [HN.out,if_neg hb];rfl,rfl⟩
def U32 (r:Int):Prop:=0≤r∧r≤4294967295
theorem bound_any (r p:Int)(w:World)(hr:U32 r)(hp:I64 p):Calls Tryz.prog 163 #[.int .u32 r,.int .i64 p] w fun e w'=>e= .returned (.int .u32 (Prob.bo r p))∧w=w':=by
 have l:=Prob.cl_lo p
 have h:=Prob.cl_hi p
 have h1:=hr.1
 have h2:=hr.2
 have HN:Hid (Prob.bo r p=r/2048*Prob.cl p):=rfl
 have b1:=(Prob.bo_in r p h1).1
 have b2:=(Prob.bo_in r p h1).2
 rw [HN.out]at b1 b2
 go_enter Tryz.func163,Tryz.ntmps163
 go_wp2_with fail
 refine(within_any p _ hp).mono ?_
 rintro e w1 ⟨rfl,rfl⟩
 generalize Prob.cl p=q at*
 generalize hm:r/2048*q=m at*
 go_wp2
 go_ret
 exact⟨by rw [HN.out];rfl,rfl⟩
theorem sq_in {W:Int}(h:0≤W)(h2:W<65536):0≤W*W∧W*W<4294967296:=by
 have e:W*W≤65535*65535:=Int.mul_le_mul (by omega) (by omega) h (by omega)
 have e0:0≤W*W:=Int.mul_nonneg h h
 omega
set_option maxHeartbeats 1000000 in
theorem costOfZero_any (p:Int)(w:World)(h0:0≤p)(h1:p≤2047):Calls Tryz.prog 230 #[.int .i64 p] w fun e w'=>e= .returned (.int .i64 (Prob.cost p))∧w=w':=by
 obtain⟨R,hR⟩: ∃R,Prob.rest 4 (16*(p/16)+8) 0=R:=⟨_,rfl⟩
 have HR:Hid (Prob.rest 4 (16*(p/16)+8) 0=R):=hR
 have HC:Hid (Prob.cost p=161-R):=by show _=_;unfold Prob.cost;rw [hR]
 have hlo:0≤16*(p/16)+8∧16*(p/16)+8<65536:=by omega
 clear hR
 go_enter Tryz.func230,Tryz.ntmps230
 go_wp2
 go_loop [10,3,4] (fun i z c=> ∃(k:Nat) (W C:Int),k≤4∧i= .int .i64 k∧z= .int .u32 W∧c= .int .i64 C∧0≤W∧W<65536∧0≤C∧C≤Prob.cap k∧Hid (Prob.rest (4-k) W C=R)) (fun i _ _=>4-(intOf i).toNat)
 case atStart=>exact⟨0,_,0,by omega,rfl,rfl,rfl,by omega,by omega,by omega,Int.le_refl _,by show _=_;rw [Int.mul_comm];exact HR.out⟩
 case round=>
  obtain⟨k,W,C,hk,rfl,rfl,rfl,hW0,hW1,hC0,hC1,HRk⟩:=hrel
  have hcl:=Prob.cap_le k (by omega)
  by_cases hlt:k<4
  ·have hS:=sq_in hW0 hW1
   have HK:Hid (Prob.cap (k+1)=2*Prob.cap k+16):=rfl
   have HRn:Hid (Prob.rest (4-(k+1)) (Prob.halve 16 (W*W) (2*C)).1 (Prob.halve 16 (W*W) (2*C)).2=R):=by
    have e:4-k=4-(k+1)+1:=by omega
    have h:=HRk.out
    rw [e]at h
    exact h
   clear HRk
   have hs1:=hS.1
   have hs2:=hS.2
   clear hS
   generalize Prob.cap k=cp at*
   generalize hS:W*W=SS at*
   go_wp2
   go_loop [3,4] (fun z c=> ∃(n:Nat) (W2 C2:Int),n≤16∧z= .int .u32 W2∧c= .int .i64 C2∧0≤W2∧W2<Prob.big n∧2*C≤C2∧C2≤2*C+16-n∧Hid (Prob.halve 16 SS (2*C)=Prob.halve n W2 C2)) (fun z _=>(intOf z).toNat)
   case atStart=>exact⟨16,_,_,by omega,rfl,rfl,hs1,hs2,by omega,by omega,by show _=_;rw [Int.mul_comm 2 C]⟩
   case round=>
    obtain⟨n,W2,C2,hn,rfl,rfl,h20,h21,hc0,hc1,Hh⟩:=hrel
    have hbl:=Prob.big_le n (by omega)
    by_cases hge:65536≤W2
    ·cases n with
     |zero=>exact absurd h21 (by show¬W2<65536;omega)
     |succ n=>
      have HB:Hid (Prob.big (n+1)=2*Prob.big n):=rfl
      have HT:=Prob.halve_step n W2 C2 hge
      go_wp2
      go_round
      case rel=>exact⟨n,_,_,by omega,rfl,rfl,by omega,by have:=HB.out;omega,by omega,by omega,Hh.out.trans HT⟩
      case measure=>simp [intOf];omega
    ·have HE:=Prob.halve_end n W2 C2 (by omega)
     go_wp2
     go_round
     case rel=>exact⟨k+1,W2,C2,by omega,by go_num,rfl,rfl,h20,by omega,by omega,by have:=HK.out;omega,by show _=_;rw [←HRn.out,Hh.out,HE]⟩
     case measure=>simp [intOf];omega
  ·obtain rfl:k=4:=by omega
   have HE:C=R:=HRk.out
   go_wp2
   go_ret
   exact⟨by rw [HC.out];rfl,rfl⟩
theorem cost_any (p b:Int)(w:World)(hp:I64 p):Calls Tryz.prog 228 #[.int .i64 p,.int .i64 b] w fun e w'=>e= .returned (.int .i64 (Prob.co p b))∧w=w':=by
 have l:=Prob.cl_lo p
 have r:=Prob.cl_hi p
 have HN:Hid (Prob.co p b=if b=0 then Prob.cost (Prob.cl p)else Prob.cost (2047-Prob.cl p)):=rfl
 go_enter Tryz.func228,Tryz.ntmps228
 go_wp2_with fail
 refine(within_any p _ hp).mono ?_
 rintro e w1 ⟨rfl,rfl⟩
 generalize Prob.cl p=q at*
 by_cases hb:b=0
 ·go_wp2_with fail
  refine(costOfZero_any q _ l r).mono ?_
  rintro e w1 ⟨rfl,rfl⟩
  go_wp2
  go_ret
  exact⟨by rw [HN.out,if_pos hb];rfl,rfl⟩
 ·go_wp2_with fail
  refine(costOfZero_any (2047-q) _ (by omega) (by omega)).mono ?_
  rintro e w1 ⟨rfl,rfl⟩
  go_wp2
  go_ret
  exact⟨by rw [HN.out,if_neg hb];rfl,rfl⟩
end Go.Proofs.YthideplpcnhncaaGreatDoor
namespace Go.Proofs.YthideplpcnhncaaGreatDoor
open Go.RowKit
set_option linter.unusedVariables false
theorem plen_any (B a:Nat)(v:Value)(xs:List Int)(w:World)(h:St w B a v xs):Calls Tryz.prog 222 #[.pointer (some ⟨a,0,none⟩)] w fun e w'=>e= .returned (.int .i64 (xs.length:Int))∧w=w':=by
 obtain⟨ad,cap,rfl,_⟩:=own_any h.own
 have hc:=cell00 h.blk
 generalize xs.length=n at*
 clear h
 go_enter Tryz.func222,Tryz.ntmps222
 go_wp2
 go_ret
 exact⟨rfl,rfl⟩
theorem has_in (B a:Nat)(v:Value)(xs:List Int)(j:Nat)(w:World)(h:St w B a v xs)(hj:j<xs.length):Calls Tryz.prog 172 #[.pointer (some ⟨a,0,none⟩),.int .i64 j] w fun e w'=>e= .returned (.bool true)∧w=w':=by
 obtain⟨ad,cap,rfl,_⟩:=own_any h.own
 have hc:=cell00 h.blk
 generalize xs.length=n at*
 clear h
 go_enter Tryz.func172,Tryz.ntmps172
 go_wp2
 go_ret
 exact⟨rfl,rfl⟩
theorem at_in (B a:Nat)(v:Value)(xs:List Int)(j:Nat)(w:World)(h:St w B a v xs)(hI:In xs)(hj:j<xs.length):Calls Tryz.prog 159 #[.pointer (some ⟨a,0,none⟩),.int .i64 j] w fun e w'=>e= .returned (.tuple #[.int .i64 xs[j],.int .i64 0])∧w=w':=by
 obtain⟨g,cap,rfl,hnc,_,_,_,_,hcell⟩:=own_some h.own (by omega)
 have hc:=cell00 h.blk
 have hx:=hcell j _ (ins_at .u16 xs j hj)
 have hI1:=(hI.at j hj).1
 have hI2:=(hI.at j hj).2
 have HH:Hid (∀w2,w2=w→Calls Tryz.prog 172 #[.pointer (some ⟨a,0,none⟩),.int .i64 j] w2 fun e w'=>e= .returned (.bool true)∧w2=w'):=fun w2 e=>by subst e;exact has_in B a _ xs j w2 h hj
 clear h hcell hI
 generalize xs[j]=p at*
 generalize xs.length=n at*
 go_enter Tryz.func159,Tryz.ntmps159
 go_wp2_with fail
 refine(HH.out _ rfl).mono ?_
 rintro e w1 ⟨rfl,rfl⟩
 go_wp2
 go_ret2
 exact⟨rfl,rfl⟩
theorem wrap_i64 {p:Int}(h:0≤p)(h2:p≤2047):IntKind.i64.wrap p=p:=by simp [IntKind.wrap,IntKind.signed,IntKind.bits];omega
theorem wrap_u16 {p:Int}(h:0≤p)(h2:p≤2047):IntKind.u16.wrap p=p:=by simp [IntKind.wrap,IntKind.signed,IntKind.bits];omega
set_option maxHeartbeats 1000000 in
set_option maxRecDepth 100000 in
theorem turn_in (B a:Nat)(v:Value)(xs:List Int)(j:Nat)(b:Int)(w0:World)(h:St w0 B a v xs)(hI:In xs)(hj:j<xs.length):Calls Tryz.prog 165 #[.pointer (some ⟨a,0,none⟩),.int .i64 j,.int .i64 b] w0 fun e w'=>e= .returned (.int .i64 0)∧St w' B a v (xs.set j (Prob.nx xs[j] b))∧Chg (fun k=>v.ownBlock=some k) w0 w':=by
 obtain⟨g,cap,rfl,hnc,_,hg,_,hfz,hcell⟩:=own_some h.own (by omega)
 have hca:=cell00 h.blk
 have hx:=hcell j _ (ins_at .u16 xs j hj)
 have hz:=hfz j
 have hI1:=(hI.at j hj).1
 have hI2:=(hI.at j hj).2
 have hn1:=(Prob.nx_in xs[j] b).1
 have hn2:=(Prob.nx_in xs[j] b).2
 have HH:Hid (∀w2,w2=w0→Calls Tryz.prog 172 #[.pointer (some ⟨a,0,none⟩),.int .i64 j] w2 fun e w'=>e= .returned (.bool true)∧w2=w'):=fun w2 e=>by subst e;exact has_in B a _ xs j w2 h hj
 have HX:Hid (∀w2,Calls Tryz.prog 175 #[.int .i64 xs[j],.int .i64 b] w2 fun e w'=>e= .returned (.int .i64 (Prob.nx xs[j] b))∧w2=w'):=fun w2=>next_any _ _ _ ⟨by omega,by omega⟩
 have HF:Hid (∀w2,Chg (fun _=>False) w0 w2→w2.frozen? ⟨g,j,none⟩=false):=fun w2 c0=>by
  obtain⟨cur,hcur⟩:=owns_blk h.own (g:=g) rfl
  simp [World.frozen?,blk_keep hcur c0 (fun f=>f)]
 have HE:Hid (∀w2:World,Chg (fun _=>False) w0 w2→St (w2.setCell ⟨g,j,none⟩ (.int .u16 (Prob.nx xs[j] b))) B a (Value.slice (some ⟨g,0,none⟩) xs.length cap) (xs.set j (Prob.nx xs[j] b))∧Chg (fun k=>(Value.slice (some ⟨g,0,none⟩) xs.length cap).ownBlock=some k) w0 (w2.setCell ⟨g,j,none⟩ (.int .u16 (Prob.nx xs[j] b)))):=by
  intro w2 c0
  have h2:=h.new c0
  have c1:Chg (fun k=>k=g) w2 (w2.setCell ⟨g,j,none⟩ (.int .u16 (Prob.nx xs[j] b))):=(Chg.refl (fun k=>k=g) w2).setCell (p:=⟨g,j,none⟩) (.inl rfl) _
  refine⟨⟨h2.ha,blk_keep h2.blk c1 (fun e=> ?_),?_⟩,?_⟩
  ·obtain⟨cur,hcur⟩:=owns_blk h2.own (g:=g) rfl
   rw [e]at h2
   exact ty_ne hcur h2.blk (by decide)
  ·have:=own_set h2.own j (.int .u16 (Prob.nx xs[j] b)) hj
   rw [ins_set]at this
   rw [List.length_set]
   exact this
  ·exact(c0.mono (T:=fun k=>(Value.slice (some ⟨g,0,none⟩) xs.length cap).ownBlock=some k) (fun _ f=>f.elim)).trans c1 (fun i e=> .inl (by subst e;rfl))
 clear h hcell hI hfz
 generalize Prob.nx xs[j] b=q at*
 generalize xs[j]=p at*
 generalize xs.length=n at*
 have HW1:Hid (IntKind.i64.wrap p=p):=wrap_i64 hI1 hI2
 have HW2:Hid (IntKind.u16.wrap q=q):=wrap_u16 hn1 hn2
 go_enter Tryz.func165,Tryz.ntmps165
 go_wp2_with fail
 refine(HH.out _ rfl).mono ?_
 rintro e w1 ⟨rfl,rfl⟩
 go_wp2_with fail
 refine wp_region_last (mk:=fun u=> #[_,_,_,_,_,_,_,_,_,_,_,u 11,u 12,u 13,u 14,u 15,u 16,u 17,u 18,u 19,u 20,u 21,u 22,u 23,u 24,u 25,u 26,u 27]) (F:=fun slot vv ww=>(look [(11,.val (.pointer (some ⟨a,0,none⟩))),(12,.val (.pointer (some ⟨a,0,none⟩))),(13,.val (.pointer (some ⟨a,0,none⟩))),(14,.val (.slice (some ⟨g,0,none⟩) n cap)),(15,.val (.int .i64 (j:Int))),(16,.val (.pointer (some ⟨a,0,none⟩))),(17,.val (.pointer (some ⟨a,0,none⟩))),(18,.val (.pointer (some ⟨a,0,none⟩))),(19,.val (.slice (some ⟨g,0,none⟩) n cap)),(20,.val (.int .i64 (j:Int))),(21,.val (.pointer (some ⟨g,j,none⟩))),(22,.val (.int .u16 p)),(23,.val (.int .i64 p)),(24,.val (.int .i64 b)),(25,.val (.int .i64 q)),(26,.val (.int .u16 q)),(27,.val (.pointer (some ⟨g,j,none⟩)))] slot).holds vv ww) (fun _=>undef) rfl (by kernel_rfl) 17 _ rfl rfl (by kernel_rfl) ?_ (fun _ v w w' hc h=>Fact.stays _ v w w' hc h) ?_ ?_
 ·repeat (refine⟨⟨_,rfl,fun _ _=>rfl⟩,?_⟩)
  exact trivial
 ·refine⟨?_,?_,?_,?_,?_,?_,?_,?_,?_,?_,?_,?_,?_,?_,?_,?_,?_,trivial⟩
  ·intro u w hc hd K hK
   clear hd
   go_simp
   exact hK.out (.pointer (some ⟨a,0,none⟩)) w (Chg.refl _ _) rfl
  ·intro u w hc hd K hK
   have h11:(Fact.val (.pointer (some ⟨a,0,none⟩))).holds (u 11) w:=hd.get 0 (by kernel_rfl)
   simp only [Fact.holds]at h11
   clear hd
   simp only [h11]at hK
   go_simp
   exact hK.out (.pointer (some ⟨a,0,none⟩)) w (Chg.refl _ _) rfl
  ·intro u w hc hd K hK
   have h12:(Fact.val (.pointer (some ⟨a,0,none⟩))).holds (u 12) w:=hd.get 1 (by kernel_rfl)
   simp only [Fact.holds]at h12
   clear hd
   simp only [h12]at hK
   go_simp
   exact hK.out (.pointer (some ⟨a,0,none⟩)) w (Chg.refl _ _) rfl
  ·intro u w hc hd K hK
   have h13:(Fact.val (.pointer (some ⟨a,0,none⟩))).holds (u 13) w:=hd.get 2 (by kernel_rfl)
   simp only [Fact.holds]at h13
   clear hd
   simp only [h13]at hK
   have hcell:=cell_chg hca hc
   go_simp
   exact hK.out _ _ (Chg.refl _ _) rfl
  ·intro u w hc hd K hK
   clear hd
   go_simp
   exact hK.out (.int .i64 (j:Int)) w (Chg.refl _ _) rfl
  ·intro u w hc hd K hK
   clear hd
   go_simp
   exact hK.out (.pointer (some ⟨a,0,none⟩)) w (Chg.refl _ _) rfl
  ·intro u w hc hd K hK
   have h16:(Fact.val (.pointer (some ⟨a,0,none⟩))).holds (u 16) w:=hd.get 5 (by kernel_rfl)
   simp only [Fact.holds]at h16
   clear hd
   simp only [h16]at hK
   go_simp
   exact hK.out (.pointer (some ⟨a,0,none⟩)) w (Chg.refl _ _) rfl
  ·intro u w hc hd K hK
   have h17:(Fact.val (.pointer (some ⟨a,0,none⟩))).holds (u 17) w:=hd.get 6 (by kernel_rfl)
   simp only [Fact.holds]at h17
   clear hd
   simp only [h17]at hK
   go_simp
   exact hK.out (.pointer (some ⟨a,0,none⟩)) w (Chg.refl _ _) rfl
  ·intro u w hc hd K hK
   have h18:(Fact.val (.pointer (some ⟨a,0,none⟩))).holds (u 18) w:=hd.get 7 (by kernel_rfl)
   simp only [Fact.holds]at h18
   clear hd
   simp only [h18]at hK
   have hcell:=cell_chg hca hc
   go_simp
   exact hK.out _ _ (Chg.refl _ _) rfl
  ·intro u w hc hd K hK
   clear hd
   go_simp
   exact hK.out (.int .i64 (j:Int)) w (Chg.refl _ _) rfl
  ·intro u w hc hd K hK
   have h19:(Fact.val (.slice (some ⟨g,0,none⟩) n cap)).holds (u 19) w:=hd.get 8 (by kernel_rfl)
   simp only [Fact.holds]at h19
   have h20:(Fact.val (.int .i64 (j:Int))).holds (u 20) w:=hd.get 9 (by kernel_rfl)
   simp only [Fact.holds]at h20
   clear hd
   simp only [h19,h20]at hK
   go_simp
   exact hK.out (.pointer (some ⟨g,j,none⟩)) w (Chg.refl _ _) rfl
  ·intro u w hc hd K hK
   have h21:(Fact.val (.pointer (some ⟨g,j,none⟩))).holds (u 21) w:=hd.get 10 (by kernel_rfl)
   simp only [Fact.holds]at h21
   clear hd
   simp only [h21]at hK
   have hcell:=cell_chg hx hc
   go_simp
   exact hK.out _ _ (Chg.refl _ _) rfl
  ·intro u w hc hd K hK
   have h22:(Fact.val (.int .u16 p)).holds (u 22) w:=hd.get 11 (by kernel_rfl)
   simp only [Fact.holds]at h22
   clear hd
   simp only [h22]at hK
   go_simp
   rw [HW1.out]
   exact hK.out (.int .i64 p) w (Chg.refl _ _) rfl
  ·intro u w hc hd K hK
   clear hd
   go_simp
   exact hK.out (.int .i64 b) w (Chg.refl _ _) rfl
  ·intro u w hc hd K hK
   have h23:(Fact.val (.int .i64 p)).holds (u 23) w:=hd.get 12 (by kernel_rfl)
   simp only [Fact.holds]at h23
   have h24:(Fact.val (.int .i64 b)).holds (u 24) w:=hd.get 13 (by kernel_rfl)
   simp only [Fact.holds]at h24
   clear hd
   simp only [h23,h24]at hK
   go_simp
   go_at_call 175
   refine(HX.out w).mono ?_
   rintro e w2 ⟨rfl,rfl⟩
   exact hK.out _ _ (Chg.refl _ _) rfl
  ·intro u w hc hd K hK
   have h25:(Fact.val (.int .i64 q)).holds (u 25) w:=hd.get 14 (by kernel_rfl)
   simp only [Fact.holds]at h25
   clear hd
   simp only [h25]at hK
   go_simp
   rw [HW2.out]
   exact hK.out (.int .u16 q) w (Chg.refl _ _) rfl
  ·intro u w hc hd K hK
   have h14:(Fact.val (.slice (some ⟨g,0,none⟩) n cap)).holds (u 14) w:=hd.get 3 (by kernel_rfl)
   simp only [Fact.holds]at h14
   have h15:(Fact.val (.int .i64 (j:Int))).holds (u 15) w:=hd.get 4 (by kernel_rfl)
   simp only [Fact.holds]at h15
   clear hd
   simp only [h14,h15]at hK
   go_simp
   exact hK.out (.pointer (some ⟨g,j,none⟩)) w (Chg.refl _ _) rfl
 ·intro u w hc hA K hK
  have a26:=hA.at 26 (by kernel_rfl)
  have a27:=hA.at 27 (by kernel_rfl)
  clear hA
  have e26:u 26= .int .u16 q:=a26
  have e27:u 27= .pointer (some ⟨g,j,none⟩):=a27
  have hx2:=cell_chg hx hc
  have hz2:=HF.out w hc
  have HE2:Hid (St (w.setCell ⟨g,j,none⟩ (.int .u16 q)) B a (Value.slice (some ⟨g,0,none⟩) n cap) (xs.set j q)∧Chg (fun k=>(Value.slice (some ⟨g,0,none⟩) n cap).ownBlock=some k) w0 (w.setCell ⟨g,j,none⟩ (.int .u16 q))):=HE.out w hc
  go_simp
  refine hK.out _ _ ?_
  go_simp
  go_wp2
  go_ret
  exact⟨rfl,HE2.out.1,HE2.out.2⟩
end Go.Proofs.YthideplpcnhncaaGreatDoor
