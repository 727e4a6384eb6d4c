/- Of no statement by itself: Sj, Ls, Th, Pb, Pa, Pc, Dg, Pd, Pe (without blanks and remarks). -/
import Derived.Test.YthideplpcnhncaaGreatDoorSd
import Derived.Test.YthideplpcnhncaaGreatDoorB8Ja
import Derived.Test.YthideplpcnhncaaGreatDoorB4Wb
import Derived.Test.YthideplpcnhncaaGreatDoorB13Vj
import Derived.Test.YthideplpcnhncaaGreatDoorB7EnG
import Derived.Test.YthideplpcnhncaaGreatDoorB1LastQ
import Derived.Laws.BitsAllLaws
import Derived.Laws.IdiomStrings
import Derived.BigQuiet
import Derived.Deep.QuietTactic
import Derived.Deep.DeepCutAuto
import Derived.Defers
import Derived.Recover
namespace Go.Proofs.YthideplpcnhncaaGreatDoor
open Go.RowKit
open St12
set_option linter.unusedVariables false
set_option linter.unusedSimpArgs false
namespace St12
end St12
def SymL (w:World)(a:Option Addr)(l:List Sym):Prop:= ∀(k:Nat) (y:Sym),l[k]?=some y→y.I∧ ∃b off,a=some ⟨b,off,none⟩∧w.cell? ⟨b,off+k*4,none⟩=some (.int .i64 y.k)∧w.cell? ⟨b,off+k*4+1,none⟩=some (.int .u8 y.y)∧w.cell? ⟨b,off+k*4+2,none⟩=some (.int .i64 y.l)∧w.cell? ⟨b,off+k*4+3,none⟩=some (.int .i64 y.d)
theorem SymL.new {w w':World}{a:Option Addr}{l:List Sym}(h:SymL w a l)(hc:Chg (fun _=>False) w w'):SymL w' a l:=fun k y hk=>by
 obtain⟨hI,b,off,e,h0,h1,h2,h3⟩:=h k y hk
 exact⟨hI,b,off,e,cell_chg h0 hc,cell_chg h1 hc,cell_chg h2 hc,cell_chg h3 hc⟩
end Go.Proofs.YthideplpcnhncaaGreatDoor
namespace Go.Proofs.YthideplpcnhncaaGreatDoor
open Go.RowKit
open St12 Sy13 Lz14
set_option linter.unusedVariables false
def Mvd (w:World)(F F':Nat→Prop):Prop:= ∀z,F' z→F z∨w.heap.size≤z
abbrev EncT:Type:=World→Nat→Nat→(Nat→Prop)→Lz→Prop
structure LzSpec (Enc:EncT) (Tb:World→Nat→Prop):Prop where
 tk: ∀ {w w':World} {B:Nat} {S:Nat→Prop},Tb w B→Chg S w w'→(∀z,S z→B≤z)→Tb w' B
 lt: ∀ {w B a F X},Enc w B a F X→ ∀z,F z→B≤z∧z<w.heap.size
 keep: ∀ {w w' B a F X} {S:Nat→Prop},Enc w B a F X→Chg S w w'→(∀z,F z→ ¬S z)→Enc w' B a F X
 down: ∀ {w B B' a F X},Enc w B a F X→B'≤B→Enc w B' a F X
 newP: ∀(B:Nat) (p:Prp) (n:Int) (w:World),Tb w B→B≤w.heap.size→p.I→I64 n→ ¬allow p→Calls Tryz.prog 7 #[prv p,.int .i64 n] w fun e w'=>e= .returned (.tuple #[.pointer none,.int .i64 6])∧Chg (fun _=>False) w w'
 newN: ∀(B:Nat) (p:Prp) (n:Int) (w:World),Tb w B→B≤w.heap.size→p.I→I64 n→allow p→n<1∨4294967295<n→Calls Tryz.prog 7 #[prv p,.int .i64 n] w fun e w'=>e= .returned (.tuple #[.pointer none,.int .i64 7])∧Chg (fun _=>False) w w'
 newIn: ∀(B:Nat) (p:Prp) (n:Nat) (w:World),Tb w B→B≤w.heap.size→p.I→allow p→1≤n→n≤4294967295→Calls Tryz.prog 7 #[prv p,.int .i64 (n:Int)] w fun e w'=> ∃a F,e= .returned (.tuple #[.pointer (some ⟨a,0,none⟩),.int .i64 0])∧Enc w' w.heap.size a F (newA p n)∧Chg (fun _=>False) w w'
 put: ∀(B a:Nat) (F:Nat→Prop) (X:Lz) (y:Sym) (w:World),Enc w B a F X→Tb w B→B≤w.heap.size→I X→y.I→X.bs.length+273≤1152921504606846976→X.c.e.k+104≤140737488355328→Calls Tryz.prog 11 #[.pointer (some ⟨a,0,none⟩),syv y] w fun e w'=>e= .returned (.int .i64 (errA X y))∧ ∃F',Enc w' B a F' (putA X y)∧Chg F w w'∧Mvd w F F'
 cost: ∀(B a:Nat) (F:Nat→Prop) (X:Lz) (y:Sym) (w:World),Enc w B a F X→Tb w B→B≤w.heap.size→I X→y.I→X.bs.length+273≤1152921504606846976→Calls Tryz.prog 15 #[.pointer (some ⟨a,0,none⟩),syv y] w fun e w'=>e= .returned (.tuple #[.int .i64 (costA X y),.int .i64 (errA X y)])∧ ∃F',Enc w' B a F' X∧Chg F w w'∧Mvd w F F'
 size: ∀(B a:Nat) (F:Nat→Prop) (X:Lz) (w:World),Enc w B a F X→X.c.e.k≤140737488355328→Calls Tryz.prog 10 #[.pointer (some ⟨a,0,none⟩)] w fun e w'=>e= .returned (.int .i64 ((X.c.e.k+5:Nat):Int))∧Chg (fun _=>False) w w'
 cut: ∀(B a:Nat) (F:Nat→Prop) (X:Lz) (w:World),Enc w B a F X→B≤w.heap.size→I X→X.c.e.k+5≤140737488355328→Calls Tryz.prog 13 #[.pointer (some ⟨a,0,none⟩)] w fun e w'=> ∃ov F',e= .returned ov∧Enc w' B a F' (cutA X)∧w'.ownsRow w.heap.size 5 1 ov (X.c.e.k+5) (ins .u8 (nums (Rc.by_ X.c.e)))∧(∀g,ov.ownBlock=some g→ ¬F' g)∧Chg F w w'∧Mvd w F F'
 reset: ∀(B a:Nat) (F:Nat→Prop) (X:Lz) (p:Prp) (w:World),Enc w B a F X→Tb w B→B≤w.heap.size→I X→p.I→Calls Tryz.prog 12 #[.pointer (some ⟨a,0,none⟩),prv p] w fun e w'=>e= .returned (.int .i64 (resetE p))∧ ∃F',Enc w' B a F' (resetA X p)∧Chg F w w'∧Mvd w F F'
 clear: ∀(B a:Nat) (F:Nat→Prop) (X:Lz) (w:World),Enc w B a F X→Tb w B→B≤w.heap.size→I X→Calls Tryz.prog 16 #[.pointer (some ⟨a,0,none⟩)] w fun e w'=>e= .returned (.tuple #[])∧ ∃F',Enc w' B a F' (clearA X)∧Chg F w w'∧Mvd w F F'
 fork: ∀(B a:Nat) (F:Nat→Prop) (X:Lz) (w:World),Enc w B a F X→I X→X.c.e.k+5≤140737488355328→Calls Tryz.prog 14 #[.pointer (some ⟨a,0,none⟩)] w fun e w'=> ∃a' F',e= .returned (.pointer (some ⟨a',0,none⟩))∧Enc w' w.heap.size a' F' X∧Chg (fun _=>False) w w'
variable {Enc:EncT} {Tb:World→Nat→Prop}
theorem LzSpec.new (S:LzSpec Enc Tb){w w':World}{B a:Nat}{F:Nat→Prop}{X:Lz}(h:Enc w B a F X)(hc:Chg (fun _=>False) w w'):Enc w' B a F X:=S.keep h hc (fun _ _ f=>f)
theorem LzSpec.tn (S:LzSpec Enc Tb){w w':World}{B:Nat}(h:Tb w B)(hc:Chg (fun _=>False) w w'):Tb w' B:=S.tk h hc (fun _ f=>f.elim)
theorem Mvd.refl (w:World)(F:Nat→Prop):Mvd w F F:=fun _ h=> .inl h
theorem Mvd.trans {w w':World}{F G H:Nat→Prop}(h:Mvd w F G)(hs:w.heap.size≤w'.heap.size)(i:Mvd w' G H):Mvd w F H:=fun z k=>by
 rcases i z k with k|k
 ·exact h z k
 ·exact .inr (by omega)
def Apt (F G:Nat→Prop):Prop:= ∀z,F z→ ¬G z
theorem Apt.symm {F G:Nat→Prop}(h:Apt F G):Apt G F:=fun z k i=>h z i k
theorem Apt.move {w:World}{F F' G:Nat→Prop}(h:Apt F G)(hm:Mvd w F F')(hg: ∀z,G z→z<w.heap.size):Apt F' G:=fun z k i=>by
 rcases hm z k with k|k
 ·exact h z k i
 ·have:=hg z i;omega
end Go.Proofs.YthideplpcnhncaaGreatDoor
namespace Go.Proofs.YthideplpcnhncaaGreatDoor
open Go.RowKit
set_option linter.unusedVariables false
theorem bits_num_rev: ∀(l:List Nat),Bits01 l.reverse→ ∀i b,l.reverse[i]?=some b→numF 0 l.reverse/2^(l.reverse.length-1-i)% 2=b
 | [],_,i,b,h=>by simp at h
 |x::l,h01,i,b,h=>by
  rw [List.reverse_cons]at h01 h⊢
  have hx:x≤1:=h01 x (List.mem_append.2 (.inr (List.mem_singleton.2 rfl)))
  have h01':Bits01 l.reverse:=fun y hy=>h01 y (List.mem_append.2 (.inl hy))
  rw [numF_append,List.length_append,List.length_singleton]
  by_cases hi:i<l.reverse.length
  ·rw [List.getElem?_append_left hi]at h
   have ih:=bits_num_rev l h01' i b h
   have e:l.reverse.length+1-1-i=(l.reverse.length-1-i)+1:=by omega
   have e2:2^((l.reverse.length-1-i)+1)=2*2^(l.reverse.length-1-i):=by rw [Nat.pow_succ,Nat.mul_comm]
   rw [e,e2,←Nat.div_div_eq_div_mul,show(2*numF 0 l.reverse+x)/2=numF 0 l.reverse by omega]
   exact ih
  ·have hl:i<(l.reverse++[x]).length:=(List.getElem?_eq_some_iff.1 h).1
   rw [List.length_append,List.length_singleton]at hl
   have hie:i=l.reverse.length:=by omega
   subst hie
   rw [List.getElem?_append_right (Nat.le_refl _),Nat.sub_self]at h
   simp at h
   subst h
   rw [show l.reverse.length+1-1-l.reverse.length=0 by omega,Nat.pow_zero,Nat.div_one]
   omega
theorem bits_num {l:List Nat}(h01:Bits01 l):bitsOf false l.length (numF 0 l)=l:=by
 have key: ∀i b,l[i]?=some b→numF 0 l/2^(l.length-1-i)% 2=b:=by
  have h:=bits_num_rev l.reverse
  rw [List.reverse_reverse]at h
  exact h h01
 apply List.ext_getElem?
 intro i
 by_cases hi:i<l.length
 ·rw [bitsOf_at hi,List.getElem?_eq_getElem hi]
  congr 1
  unfold bitAt
  rw [if_neg (by decide)]
  exact key i _ (List.getElem?_eq_getElem hi)
 ·rw [List.getElem?_eq_none (by rw [bitsOf_len];omega),List.getElem?_eq_none (by omega)]
def turnedN (n v:Nat):Nat:=numF 0 (bitsOf true n v)
theorem turned_bits (n v:Nat):bitsOf false n (turnedN n v)=bitsOf true n v:=by
 have h:=bits_num (bitsOf_01 true n v)
 rw [bitsOf_len]at h
 exact h
theorem turned_lt (n v:Nat):turnedN n v<2^n:=by
 have:=numF_le (bitsOf true n v) 0 (bitsOf_01 true n v)
 rw [bitsOf_len]at this
 unfold turnedN
 omega
theorem and_1t (n:Int):bits .and .i64 n 1=n% 2:=by
 have h1:(BitVec.ofInt 64 1).toNat=2^1-1:=by decide
 have key:(BitVec.ofInt 64 n&&&BitVec.ofInt 64 1).toNat=(n% ((2^64:Nat):Int)).toNat% 2^1:=by
  rw [BitVec.toNat_and,BitVec.toNat_ofInt,h1,Nat.and_two_pow_sub_one_eq_mod]
 show IntKind.i64.wrap ((BitVec.ofInt 64 n&&&BitVec.ofInt 64 1).toNat:Nat)=n% 2
 rw [key,IntKind.wrap_i64]
 omega
end Go.Proofs.YthideplpcnhncaaGreatDoor
namespace Go.Proofs.YthideplpcnhncaaGreatDoor
open Go.RowKit
set_option linter.unusedVariables false
theorem bitsOf_succ (n v:Nat):bitsOf true (n+1) v=bitsOf true n v++[v/2^n% 2]:=by
 unfold bitsOf
 rw [List.range_succ,List.map_append,List.map_singleton]
 congr 1
theorem rev_up {n v:Nat}(h:v<2^n):turnedN (n+1) v=2*turnedN n v:=by
 unfold turnedN
 rw [bitsOf_succ,numF_append,Nat.div_eq_of_lt h]
 rfl
theorem rev_more {n v:Nat}(h:v<2^n): ∀k,turnedN (n+k) v=2^k*turnedN n v
 |0=>by simp
 |k+1=>by
  rw [←Nat.add_assoc,rev_up (Nat.lt_of_lt_of_le h (Nat.pow_le_pow_right (by decide) (by omega))),rev_more h k,Nat.pow_succ,Nat.mul_comm (2^k) 2,Nat.mul_assoc]
theorem numF_acc: ∀(l:List Nat) (a:Nat),numF a l=a*2^l.length+numF 0 l
 | [],a=>by simp [numF]
 |b::l,a=>by
  rw [show numF a (b::l)=numF (2*a+b) l from rfl,show numF 0 (b::l)=numF (2*0+b) l from rfl,numF_acc l (2*a+b),numF_acc l (2*0+b),List.length_cons,Nat.pow_succ,Nat.add_mul,Nat.mul_zero,Nat.zero_add,Nat.mul_comm 2 a,Nat.mul_assoc,Nat.mul_comm 2 (2^l.length)]
  omega
theorem numF_two (l k:List Nat)(a:Nat):numF a (l++k)=numF (numF a l) k:=by
 induction l generalizing a with
 |nil=>rfl
 |cons b l ih=>exact ih (2*a+b)
theorem bitsOf_two (n k v:Nat):bitsOf true (n+k) v=bitsOf true n (v% 2^n)++bitsOf true k (v/2^n):=by
 apply List.ext_getElem?
 intro i
 by_cases hi:i<n+k
 ·rw [bitsOf_at hi]
  by_cases h1:i<n
  ·rw [List.getElem?_append_left (by rw [bitsOf_len];exact h1),bitsOf_at h1]
   unfold bitAt
   rw [if_pos rfl,if_pos rfl]
   congr 1
   have e:2^n=2^i*(2*2^(n-i-1)):=by rw [←Nat.mul_assoc,←Nat.pow_succ,←Nat.pow_add];congr 1;omega
   rw [e,Nat.mod_mul_right_div_self,Nat.mod_mul_right_mod]
  ·rw [List.getElem?_append_right (by rw [bitsOf_len];omega),bitsOf_len,bitsOf_at (by omega)]
   unfold bitAt
   rw [if_pos rfl,if_pos rfl,Nat.div_div_eq_div_mul,←Nat.pow_add,show n+(i-n)=i by omega]
 ·rw [List.getElem?_eq_none (by rw [bitsOf_len];omega),List.getElem?_eq_none (by rw [List.length_append,bitsOf_len,bitsOf_len];omega)]
theorem rev_16 (x:Nat):turnedN 16 x=turnedN 8 (x% 256)*256+turnedN 8 (x/256):=by
 unfold turnedN
 rw [show(16:Nat)=8+8 from rfl,bitsOf_two,numF_two,numF_acc,bitsOf_len]
theorem rev8_lt (y:Nat):turnedN 8 y<256:=turned_lt 8 y
theorem rev_or {a b:Nat}(ha:a<256):a|||b*256=b*256+a:=by
 rw [Nat.or_comm,Nat.mul_comm b 256]
 exact(Nat.two_pow_add_eq_or_of_lt (i:=8) ha b).symm
theorem rev_down {n v:Nat}(hn:n≤16)(h:v<2^n):turnedN 16 v/2^(16-n)=turnedN n v:=by
 have e:=rev_more h (16-n)
 rw [show n+(16-n)=16 by omega]at e
 rw [e,Nat.mul_div_cancel_left _ (Nat.pow_pos (by decide))]
theorem run_rev8 (s:ByteArray)(hs:((List.range 256).all fun y=>s.data[y]?==some (UInt8.ofNat (turnedN 8 y)))=true)(y:Nat)(hy:y<256)(w:World):(Instr.index 9 (.string s) (.int .u16 (y:Int))).run Tryz.prog w= .ok (.int .u8 (turnedN 8 y:Nat)) w:=by
 have h:=List.all_eq_true.1 hs y (List.mem_range.2 hy)
 rw [beq_iff_eq]at h
 have hsz:y<s.size:=(Array.getElem?_eq_some_iff.1 h).1
 have hv:s[y]=UInt8.ofNat (turnedN 8 y):=(Array.getElem?_eq_some_iff.1 h).2
 have hl:=rev8_lt y
 rw [run_index_string w 9 s .u16 (y:Int) Tryz.underlying9,dif_pos ⟨by omega,by omega⟩]
 simp only [Int.toNat_natCast,hv,UInt8.toNat_ofNat']
 congr 3
 omega
theorem step_rev8 {ops:Array Oper}{o:Oper}{a:Act}{w:World}{K:Act→World→Prop}{Q:Exit→Act→World→Prop}{E:Prop}(hgd:o.guard=none)(s:ByteArray)(x:Operand)
  (ho:o.op= .index 9 (.const (.string s)) x) (hs:((List.range 256).all fun y=>s.data[y]?==some (UInt8.ofNat (turnedN 8 y)))=true) (y:Nat) (hx:a.eval x= .int .u16 (y:Int)) (hy:y<256)
  (h:K (a.put o.dst (.int .u8 (turnedN 8 y:Nat))) w):if Region.wanted o (yielded ops a.tmps)=true then Oper.wp Tryz.prog o a w K Q else E:=by
 have hw:Region.wanted o (yielded ops a.tmps)=true:=by simp [Region.wanted,hgd]
 rw [if_pos hw]
 unfold Oper.wp execOp
 simp only [ho,hx,show a.eval (.const (.string s))= .string s from rfl,run_rev8 s hs y hy,Sem.run_bind,Sem.run_pure,Result.andThen]
 exact h
set_option maxHeartbeats 4000000 in
set_option maxRecDepth 100000 in
theorem rev16_any (X Z:Nat)(hX:X<65536)(hz:Z=turnedN 16 X)(w0:World):Calls Tryz.prog 219 #[.int .u16 (X:Int)] w0 fun e w'=>e= .returned (.int .u16 (Z:Int))∧Chg (fun _=>False) w0 w':=by
 obtain⟨A,hA0⟩: ∃A,A=X/256:=⟨_,rfl⟩
 obtain⟨C,hC0⟩: ∃C,C=X% 256:=⟨_,rfl⟩
 obtain⟨R1,h1⟩: ∃R,R=turnedN 8 A:=⟨_,rfl⟩
 obtain⟨R2,h2⟩: ∃R,R=turnedN 8 C:=⟨_,rfl⟩
 have l1:=rev8_lt A
 have l2:=rev8_lt C
 rw [←h1]at l1
 rw [←h2]at l2
 have H1:Hid (R1=turnedN 8 A):=h1
 have H2:Hid (R2=turnedN 8 C):=h2
 have HA:Hid (A<256):=by show _<_;omega
 have HC:Hid (C<256):=by show _<_;omega
 obtain⟨T,hT0⟩: ∃T,T=R2*256:=⟨_,rfl⟩
 have hA:(X:Int)/256=(A:Int):=by omega
 have hC:bits .and .u16 (X:Int) 255=(C:Int):=by
  have e:=u16_and_nat X 255 (by omega) (by decide)
  rw [show((255:Nat):Int)=255 from rfl]at e
  rw [e,hC0]
  congr 1
  exact Nat.and_two_pow_sub_one_eq_mod X 8
 have hT:IntKind.u16.wrap ((R2:Int)*256)=(T:Int):=by simp [IntKind.wrap,IntKind.signed,IntKind.bits];omega
 have hr1:IntKind.u16.wrap (R1:Int)=(R1:Int):=by simp [IntKind.wrap,IntKind.signed,IntKind.bits];omega
 have hr2:IntKind.u16.wrap (R2:Int)=(R2:Int):=by simp [IntKind.wrap,IntKind.signed,IntKind.bits];omega
 have hZ:bits .or .u16 (R1:Int) (T:Int)=(Z:Int):=by
  have e:=u16_or_nat R1 T (by omega) (by omega)
  rw [e,hT0,rev_or l1,hz,rev_16,←hA0,←hC0,←h1,←h2]
 clear h1 h2 hA0 hC0 hT0 hz
 go_enter Tryz.func219,Tryz.ntmps219
 go_wp2_with fail
 refine wp_region_phaseQ (mk:=fun u=> #[_,_,_,u 3,u 4,u 5,u 6,u 7,u 8,u 9,u 10,u 11,u 12]) (G:=lookG [(3,.int .u16 (X:Int)),(4,.int .u16 (A:Int)),(5,.int .u8 (R1:Int)),(6,.int .u16 (R1:Int)),(7,.int .u16 (X:Int)),(8,.int .u16 (C:Int)),(9,.int .u8 (R2:Int)),(10,.int .u16 (R2:Int)),(11,.int .u16 (T:Int)),(12,.int .u16 (Z:Int))]) (J:=fun _ _ w=>Chg (fun _=>False) w0 w) [] (fun i=>0) ([]) (fun _=>undef) rfl (by kernel_rfl) 10 _ rfl rfl (by kernel_rfl) (by kernel_rfl) (by kernel_rfl) (by decide) ?_ ?_ ?_ (by kernel_rfl) ?_ ?_
 ·repeat (refine⟨fun _ _=>rfl,?_⟩)
  exact trivial
 ·exact fun q u u2 w _ h=>h
 ·exact(Chg.refl _ _).drew
 ·refine⟨?_,?_,?_,?_,?_,?_,?_,?_,?_,?_,trivial⟩
  ·show StepRQ _ _ _ _ _ _ _ _ _
   unfold StepRQ
   intro q hq u w hj hd K hK
   clear hd
   go_simp
   exact hK.out (.int .u16 (X:Int)) rfl
  ·show StepRQ _ _ _ _ _ _ _ _ _
   unfold StepRQ
   intro q hq u w hj hd K hK
   have h3:u 3= .int .u16 (X:Int):=hd.get 0 (by kernel_rfl)
   clear hd
   simp only [h3]at hK
   go_simp
   first|exact hK.out (.int .u16 (A:Int)) rfl|(rw [hA];exact hK.out (.int .u16 (A:Int)) rfl)
  ·show StepRQ _ _ _ _ _ _ _ _ _
   unfold StepRQ
   intro q hq u w hj hd K hK
   have h4:u 4= .int .u16 (A:Int):=hd.get 1 (by kernel_rfl)
   clear hd
   rw [show R1=turnedN 8 A from H1.out]at hK
   refine step_rev8 (a:=⟨_,[]⟩) ?g _ (.tmp 4) rfl ?t A ?v HA.out ?k
   case g=>rfl
   case t=>decide+kernel
   case v=>exact h4
   case k=>exact hK.out _ rfl
  ·show StepRQ _ _ _ _ _ _ _ _ _
   unfold StepRQ
   intro q hq u w hj hd K hK
   have h5:u 5= .int .u8 (R1:Int):=hd.get 2 (by kernel_rfl)
   clear hd
   simp only [h5]at hK
   go_simp
   first|exact hK.out (.int .u16 (R1:Int)) rfl|(rw [hr1];exact hK.out (.int .u16 (R1:Int)) rfl)
  ·show StepRQ _ _ _ _ _ _ _ _ _
   unfold StepRQ
   intro q hq u w hj hd K hK
   clear hd
   go_simp
   exact hK.out (.int .u16 (X:Int)) rfl
  ·show StepRQ _ _ _ _ _ _ _ _ _
   unfold StepRQ
   intro q hq u w hj hd K hK
   have h7:u 7= .int .u16 (X:Int):=hd.get 4 (by kernel_rfl)
   clear hd
   simp only [h7]at hK
   go_simp
   first|exact hK.out (.int .u16 (C:Int)) rfl|(rw [hC];exact hK.out (.int .u16 (C:Int)) rfl)
  ·show StepRQ _ _ _ _ _ _ _ _ _
   unfold StepRQ
   intro q hq u w hj hd K hK
   have h8:u 8= .int .u16 (C:Int):=hd.get 5 (by kernel_rfl)
   clear hd
   rw [show R2=turnedN 8 C from H2.out]at hK
   refine step_rev8 (a:=⟨_,[]⟩) ?g _ (.tmp 8) rfl ?t C ?v HC.out ?k
   case g=>rfl
   case t=>decide+kernel
   case v=>exact h8
   case k=>exact hK.out _ rfl
  ·show StepRQ _ _ _ _ _ _ _ _ _
   unfold StepRQ
   intro q hq u w hj hd K hK
   have h9:u 9= .int .u8 (R2:Int):=hd.get 6 (by kernel_rfl)
   clear hd
   simp only [h9]at hK
   go_simp
   first|exact hK.out (.int .u16 (R2:Int)) rfl|(rw [hr2];exact hK.out (.int .u16 (R2:Int)) rfl)
  ·show StepRQ _ _ _ _ _ _ _ _ _
   unfold StepRQ
   intro q hq u w hj hd K hK
   have h10:u 10= .int .u16 (R2:Int):=hd.get 7 (by kernel_rfl)
   clear hd
   simp only [h10]at hK
   go_simp
   first|exact hK.out (.int .u16 (T:Int)) rfl|(rw [hT];exact hK.out (.int .u16 (T:Int)) rfl)
  ·show StepRQ _ _ _ _ _ _ _ _ _
   unfold StepRQ
   intro q hq u w hj hd K hK
   have h6:u 6= .int .u16 (R1:Int):=hd.get 3 (by kernel_rfl)
   have h11:u 11= .int .u16 (T:Int):=hd.get 8 (by kernel_rfl)
   clear hd
   simp only [h6,h11]at hK
   go_simp
   first|exact hK.out (.int .u16 (Z:Int)) rfl|(rw [hZ];exact hK.out (.int .u16 (Z:Int)) rfl)
 ·intro u w hj hA K hK
  have e12:u 12= .int .u16 (Z:Int):=hA.at 12 (by kernel_rfl)
  clear hA
  have HCJ:Hid (Chg (fun _=>False) w0 w):=hj
  go_simp
  refine hK.out _ _ ?_
  go_wp2
  go_ret
  exact⟨rfl,HCJ.out⟩
set_option maxHeartbeats 4000000 in
set_option maxRecDepth 100000 in
theorem pturned_any (N V Z:Nat)(hN:N≤16)(hV:V<2^N)(hz:Z=turnedN N V)(w0:World):Calls Tryz.prog 213 #[.int .i64 (N:Int),.int .i64 (V:Int)] w0 fun e w'=>e= .returned (.int .i64 (Z:Int))∧Chg (fun _=>False) w0 w':=by
 have hV16:V<65536:=Nat.lt_of_lt_of_le hV (pow16 hN)
 obtain⟨X,hX⟩: ∃X,X=turnedN 16 V:=⟨_,rfl⟩
 have HCALL:Hid (∀w,Calls Tryz.prog 219 #[.int .u16 (V:Int)] w fun e w'=>e= .returned (.int .u16 (X:Int))∧Chg (fun _=>False) w w'):=rev16_any V X hV16 hX
 obtain⟨M,hM⟩: ∃M,M=16-N:=⟨_,rfl⟩
 have hsub:(16:Int)-(N:Int)=(M:Int):=by omega
 have hM16:(M:Int)≤16:=by omega
 have hz16:(Z:Int)<65536:=by have:=turned_lt N V;have:=pow16 hN;omega
 have hx16:(X:Int)<65536:=by have:=turned_lt 16 V;omega
 have hq:(X:Int)/2^M=(Z:Int):=by
  have e:=rev_down hN hV
  rw [←hX,←hM,←hz]at e
  rw [←e]
  simp
 have hw:IntKind.u16.wrap (V:Int)=(V:Int):=by simp [IntKind.wrap,IntKind.signed,IntKind.bits];omega
 clear hV hz hX hM
 go_enter Tryz.func213,Tryz.ntmps213
 go_wp2_with fail
 refine(HCALL.out _).mono ?_
 rintro z w1 ⟨rfl,c1⟩
 have HC:Hid (Chg (fun _=>False) w0 w1):=c1
 clear c1
 go_wp2
 go_ret
 exact⟨rfl,HC.out⟩
end Go.Proofs.YthideplpcnhncaaGreatDoor
namespace Go.Proofs.YthideplpcnhncaaGreatDoor
open Go.RowKit
set_option linter.unusedVariables false
set_option maxHeartbeats 4000000 in
set_option maxRecDepth 100000 in
theorem pthere_any (B s:Nat)(p n:Int)(v:Value)(xs:List Int)(w0:World)(h:St w0 B s v xs)(hlen:xs.length≤1048576)(hp:I64 p)(hn:I64 n):Calls Tryz.prog 218 #[.pointer (some ⟨s,0,none⟩),.int .i64 p,.int .i64 n] w0 fun e w'=>e= .returned (.bool (decide (Stands xs.length p n)))∧Chg (fun _=>False) w0 w':=by
 obtain⟨len,hl⟩: ∃len,xs.length=len:=⟨_,rfl⟩
 have HLEN:Hid (∀w,St w B s v xs→Calls Tryz.prog 222 #[.pointer (some ⟨s,0,none⟩)] w fun e w'=>e= .returned (.int .i64 (len:Int))∧w=w'):=fun w h=>by
  have:=plen_any B s v xs w h
  rw [hl]at this
  exact this
 have HS:Hid (St w0 B s v xs):=h
 rw [hl]at hlen⊢
 obtain⟨hp1,hp2⟩:=hp
 obtain⟨hn1,hn2⟩:=hn
 have HST:Hid (Stands len p n→0≤n∧n≤16∧0≤p):=fun⟨h1,h2,h3,h4⟩=>⟨h1,h2,h3⟩
 clear h hl
 by_cases c0:0≤n
 rotate_left
 ·have q0:decide (0≤n)=false:=by simp;omega
  have HR:Hid (decide (Stands len p n)=false):=decide_eq_false (fun h=>by obtain⟨h1,h2,h3⟩:=HST.out h;omega)
  clear HST c0
  go_enter Tryz.func218,Tryz.ntmps218
  go_wp2_with fail
  go_quiet (fail)
  go_wp2
  go_ret
  exact⟨by rw [HR.out];rfl,chg_drewN _ _⟩
 by_cases c1:n≤16
 rotate_left
 ·have q0:decide (0≤n)=true:=by simp;omega
  have q1:decide (n≤16)=false:=by simp;omega
  have HR:Hid (decide (Stands len p n)=false):=decide_eq_false (fun h=>by obtain⟨h1,h2,h3⟩:=HST.out h;omega)
  clear HST c0 c1
  go_enter Tryz.func218,Tryz.ntmps218
  go_wp2_with fail
  go_quiet (fail)
  go_wp2
  go_ret
  exact⟨by rw [HR.out];rfl,chg_drewN _ _⟩
 by_cases c2:0≤p
 rotate_left
 ·have q0:decide (0≤n)=true:=by simp;omega
  have q1:decide (n≤16)=true:=by simp;omega
  have q2:decide (0≤p)=false:=by simp;omega
  have HR:Hid (decide (Stands len p n)=false):=decide_eq_false (fun h=>by obtain⟨h1,h2,h3⟩:=HST.out h;omega)
  clear HST c0 c1 c2
  go_enter Tryz.func218,Tryz.ntmps218
  go_wp2_with fail
  go_quiet (fail)
  go_wp2
  go_ret
  exact⟨by rw [HR.out];rfl,chg_drewN _ _⟩
 obtain⟨N,rfl⟩: ∃N:Nat,(N:Int)=n:=⟨n.toNat,by omega⟩
 obtain⟨Y,hY⟩: ∃Y:Nat,Y=2^N:=⟨_,rfl⟩
 have hsh:(2:Int)^N=(Y:Int):=by rw [hY];simp
 have hY3:(Y:Int)≤65536:=by have:=pow16 (n:=N) (by omega);omega
 obtain⟨t,ht⟩: ∃t,t=decide (p≤(len:Int)-(Y:Int)):=⟨_,rfl⟩
 have HT:Hid (decide (p≤(len:Int)-(Y:Int))=t):=ht.symm
 have HR:Hid (decide (Stands len p (N:Int))=t):=by
  show _=_
  rw [ht]
  refine decide_eq_decide.2 ⟨fun⟨h1,h2,h3,h4⟩=> ?_,fun h4=>⟨c0,c1,c2,?_⟩⟩
  ·simp only [Int.toNat_natCast]at h4
   omega
  ·simp only [Int.toNat_natCast]
   omega
 have q0:decide (0≤(N:Int))=true:=by simp
 have q1:decide ((N:Int)≤16)=true:=by simp;omega
 have q2:decide (0≤p)=true:=by simp;omega
 have q3:decide (p≤(len:Int)-(Y:Int))=t:=HT.out
 clear ht HST hY c0
 go_enter Tryz.func218,Tryz.ntmps218
 go_wp2_with fail
 go_quiet (first|(go_at_call 222;exact quiet_of (HLEN.out _ (HS.out.new (chg_drewN _ _)))))
 go_wp2
 go_ret
 exact⟨by rw [HR.out];rfl,chg_drewN _ _⟩
set_option maxHeartbeats 4000000 in
set_option maxRecDepth 100000 in
theorem pfits_any (B s:Nat)(p n x:Int)(v:Value)(xs:List Int)(w0:World)(h:St w0 B s v xs)(hlen:xs.length≤1048576)(hp:I64 p)(hn:I64 n)(hx:I64 x):Calls Tryz.prog 212 #[.pointer (some ⟨s,0,none⟩),.int .i64 p,.int .i64 n,.int .i64 x] w0 fun e w'=>e= .returned (.bool (decide (Fits xs.length p n x)))∧Chg (fun _=>False) w0 w':=by
 have HTH:=pthere_any B s p n v xs w0 h hlen hp hn
 by_cases c0:Stands xs.length p n
 rotate_left
 ·have HR:Hid (decide (Fits xs.length p n x)=false):=decide_eq_false (fun f=>c0 f.1)
  rw [decide_eq_false c0]at HTH
  have HTH2:Hid (Calls Tryz.prog 218 #[.pointer (some ⟨s,0,none⟩),.int .i64 p,.int .i64 n] w0 fun e w'=>e= .returned (.bool false)∧Chg (fun _=>False) w0 w'):=HTH
  clear HTH c0 h
  go_enter Tryz.func212,Tryz.ntmps212
  go_wp2_with fail
  refine HTH2.out.mono ?_
  rintro z w1 ⟨rfl,c1⟩
  have HC:Hid (Chg (fun _=>False) w0 w1):=c1
  clear c1
  go_wp2
  go_ret
  exact⟨by rw [HR.out];rfl,HC.out⟩
 rw [decide_eq_true c0]at HTH
 have HTH2:Hid (Calls Tryz.prog 218 #[.pointer (some ⟨s,0,none⟩),.int .i64 p,.int .i64 n] w0 fun e w'=>e= .returned (.bool true)∧Chg (fun _=>False) w0 w'):=HTH
 have HC0:Hid (Stands xs.length p n):=c0
 obtain⟨hx1,hx2⟩:=hx
 have hn0:=c0.1
 have hn16:=c0.2.1
 clear HTH c0 h
 by_cases c1:0≤x
 rotate_left
 ·have HR:Hid (decide (Fits xs.length p n x)=false):=decide_eq_false (fun f=>c1 f.2.1)
  have q0:decide (0≤x)=false:=by simp;omega
  clear c1
  go_enter Tryz.func212,Tryz.ntmps212
  go_wp2_with fail
  refine HTH2.out.mono ?_
  rintro z w1 ⟨rfl,c1⟩
  have HC:Hid (Chg (fun _=>False) w0 w1):=c1
  clear c1
  go_wp2
  go_ret
  exact⟨by rw [HR.out];rfl,HC.out⟩
 obtain⟨N,rfl⟩: ∃N:Nat,(N:Int)=n:=⟨n.toNat,by omega⟩
 obtain⟨Y,hY⟩: ∃Y:Nat,Y=2^N:=⟨_,rfl⟩
 have hsh:(2:Int)^N=(Y:Int):=by rw [hY];simp
 have hY3:(Y:Int)≤65536:=by have:=pow16 (n:=N) (by omega);omega
 obtain⟨t,ht⟩: ∃t,t=decide (x<(Y:Int)):=⟨_,rfl⟩
 have HR:Hid (decide (Fits xs.length p (N:Int) x)=t):=by
  show _=_
  rw [ht]
  refine decide_eq_decide.2 ⟨fun⟨h1,h2,h3⟩=> ?_,fun h4=>⟨HC0.out,c1,?_⟩⟩
  ·rw [Int.toNat_natCast,hsh]at h3
   exact h3
  ·rw [Int.toNat_natCast,hsh]
   exact h4
 have q0:decide (0≤x)=true:=by simp;omega
 have q3:decide (x<(Y:Int))=t:=ht.symm
 clear ht hY hn0
 go_enter Tryz.func212,Tryz.ntmps212
 go_wp2_with fail
 refine HTH2.out.mono ?_
 rintro z w1 ⟨rfl,c1⟩
 have HC:Hid (Chg (fun _=>False) w0 w1):=c1
 clear c1
 go_wp2
 go_ret
 exact⟨by rw [HR.out];rfl,HC.out⟩
end Go.Proofs.YthideplpcnhncaaGreatDoor
namespace Go.Proofs.YthideplpcnhncaaGreatDoor
open Go.RowKit
set_option linter.unusedVariables false
def BitSays (I:Nat→Nat→World→Prop)(E:Nat→World→Prop)(j m:Nat)(x:Ending)(w':World):Prop:=
 (∃e:Nat,0<e∧x= .returned (.tuple #[.int .i64 0,.int .i64 (e:Int)])∧E e w')∨(∃b:Nat,b≤1∧x= .returned (.tuple #[.int .i64 (b:Int),.int .i64 0])∧I j (2*m+b) w')
set_option maxHeartbeats 4000000 in
set_option maxRecDepth 100000 in
theorem down_any (g:FuncId)(cap:Array Value)(P N:Nat)(I:Nat→Nat→World→Prop)(E:Nat→World→Prop)(hN:N≤16)(hP:P≤1048576)(hg: ∀args w,(callFunc g args).run Tryz.prog w= .ok (.enter g args) w)
  (hstep: ∀j m w,j<N→m<2^(N-j)→I (j+1) m w→Calls Tryz.prog g (#[.int .i64 ((P:Int)+(m:Int)),.int .i64 (j:Int)]++cap) w (BitSays I E j m))
  (w0:World) (h0:I N 1 w0):
  Calls Tryz.prog 216 #[.int .i64 (P:Int),.int .i64 (N:Int),.func (.func g) #[] cap] w0 fun x w'=>
   (∃e:Nat,0<e∧x= .returned (.tuple #[.int .i64 0,.int .i64 (e:Int)])∧E e w')∨(∃z:Nat,z<2^N∧x= .returned (.tuple #[.int .i64 (z:Int),.int .i64 0])∧I 0 (z+2^N) w'):=by
 have HST:Hid _:=hstep
 have H0:Hid (I N 1 w0):=h0
 have hd0:IntKind.i64.wrap ((N:Int)-1)=(N:Int)-1:=by simp [IntKind.wrap,IntKind.signed,IntKind.bits];omega
 clear hstep h0
 go_enter Tryz.func216,Tryz.ntmps216
 go_wp2_with fail
 go_loopw [8,9] (fun nv lv wr=> ∃(j m:Nat) (L:Int),j≤N∧nv= .int .i64 (m:Int)∧lv= .int .i64 L∧L+1=(j:Int)∧Hid (2^(N-j)≤m∧m<2^(N-j+1))∧Hid (I j m wr)) (fun _ lv _=>(intOf lv+1).toNat)
 case atStart=>exact⟨N,1,(N:Int)-1,Nat.le_refl _,rfl,rfl,by omega,by simp [Hid],H0.out⟩
 case round=>
  clear H0
  obtain⟨j,m,L,hj,rfl,rfl,hL,HM,HI⟩:=hrel
  have hm17:m<131072:=Nat.lt_of_lt_of_le HM.out.2 (Nat.pow_le_pow_right (n:=2) (j:=17) (by decide) (by omega))
  cases j with
  |zero=>
   have hL0:L= -1:=by omega
   subst hL0
   obtain⟨Y,hY⟩: ∃Y:Nat,Y=2^N:=⟨_,rfl⟩
   have hsh:(2:Int)^N=(Y:Int):=by rw [hY];simp
   have hY3:(Y:Int)≤65536:=by have:=pow16 (n:=N) (by omega);omega
   obtain⟨z,hz⟩: ∃z:Nat,m=z+Y:=⟨m-Y,by have:=HM.out.1;rw [Nat.sub_zero]at this;omega⟩
   have HZ:Hid (z<2^N∧I 0 (z+2^N) wr):=⟨by have:=HM.out.2;rw [Nat.sub_zero,Nat.pow_succ]at this;omega,by rw [←hY,←hz];exact HI.out⟩
   have hmz:(m:Int)-(Y:Int)=(z:Int):=by omega
   clear hY hz HM HI hL hj
   go_wp2
   go_ret2
   exact .inr ⟨z,HZ.out.1,rfl,HZ.out.2⟩
  |succ j=>
   have hLj:L=(j:Int):=by omega
   subst hLj
   have HC:=HST.out j m wr (by omega) (by have:=HM.out.2;rw [show N-(j+1)+1=N-j by omega]at this;exact this) HI.out
   have HC2:Hid _:=HC
   clear HC HI hL
   go_wp2_with fail
   refine Calls.mono HC2.out ?_
   clear HC2
   rintro x w1 (⟨e,he,rfl,hE⟩|⟨b,hb,rfl,hI⟩)
   ·have HE:Hid (E e w1):=hE
    have hd:decide ((e:Int)=0)=false:=by simp;omega
    have hd2:((e:Int)==0)=false:=by simp;omega
    clear hE
    go_wp2
    go_ret2
    exact .inl ⟨e,he,rfl,HE.out⟩
   ·have HI:Hid (I j (2*m+b) w1):=hI
    have HM2:Hid (2^(N-j)≤2*m+b∧2*m+b<2^(N-j+1)):=by
     have h1:=HM.out.1
     have h2:=HM.out.2
     rw [show N-j=N-(j+1)+1 by omega,Nat.pow_succ,Nat.pow_succ]
     rw [Nat.pow_succ]at h2
     constructor<;>omega
    clear hI HM
    go_wp2_with fail
    go_roundw
    case rel=>exact⟨j,2*m+b,(j:Int)-1,by omega,by go_num,rfl,by omega,HM2.out,HI.out⟩
    case measure=>simp [intOf]
end Go.Proofs.YthideplpcnhncaaGreatDoor
namespace Go.Proofs.YthideplpcnhncaaGreatDoor
open Go.RowKit
set_option linter.unusedVariables false
theorem size1 (w:World)(o:Obj):(w.alloc o).heap.size=w.heap.size+1:=by simp
theorem three (w:World)(c1 c2 c3:Array Value)(t1 t2 t3:TypeId):(((w.alloc (.cells c1 t1)).alloc (.cells c2 t2)).alloc (.cells c3 t3)).heap[w.heap.size]?=some (.cells c1 t1 (0,0))∧(((w.alloc (.cells c1 t1)).alloc (.cells c2 t2)).alloc (.cells c3 t3)).heap[w.heap.size+1]?=some (.cells c2 t2 (0,0))∧(((w.alloc (.cells c1 t1)).alloc (.cells c2 t2)).alloc (.cells c3 t3)).heap[w.heap.size+1+1]?=some (.cells c3 t3 (0,0))∧(((w.alloc (.cells c1 t1)).alloc (.cells c2 t2)).alloc (.cells c3 t3)).heap.size=w.heap.size+3∧Chg (fun _=>False) w (((w.alloc (.cells c1 t1)).alloc (.cells c2 t2)).alloc (.cells c3 t3)):=by
 have h1:=heap_alloc_last w (.cells c1 t1)
 have h2:=heap_alloc_last (w.alloc (.cells c1 t1)) (.cells c2 t2)
 have h3:=heap_alloc_last ((w.alloc (.cells c1 t1)).alloc (.cells c2 t2)) (.cells c3 t3)
 rw [size1]at h2
 rw [size1,size1]at h3
 have k1:=chg_one (w.alloc (.cells c1 t1)) (.cells c2 t2)
 have k2:=chg_one ((w.alloc (.cells c1 t1)).alloc (.cells c2 t2)) (.cells c3 t3)
 exact⟨blk_keep (blk_keep h1 k1 (fun f=>f)) k2 (fun f=>f),blk_keep h2 k2 (fun f=>f),h3,by rw [size1,size1,size1],chg_then (chg_then (chg_one w _) k1) k2⟩
end Go.Proofs.YthideplpcnhncaaGreatDoor
namespace Go.Proofs.YthideplpcnhncaaGreatDoor
open Go.RowKit
set_option linter.unusedVariables false
set_option maxHeartbeats 4000000 in
set_option maxRecDepth 100000 in
theorem putbit_any (B B' a s b5 b6 b9 X j pm b:Nat)(v us:Value)(e:Rc.E)(xs:List Int)(w:World)(hE:Enc w B a v e)(hO:Rc.Ok e)(hk:e.k+1≤140737488355328)(hB:B≤w.heap.size)(hS:St w B' s us xs)(hI:In31 xs)(hpm:pm<xs.length)
  (h5:w.heap[b5]?=some (.cells #[.pointer (some ⟨a,0,none⟩)] 92 (0,0))) (h6:w.heap[b6]?=some (.cells #[.pointer (some ⟨s,0,none⟩)] 78 (0,0))) (h9:w.heap[b9]?=some (.cells #[.int .i64 (X:Int)] 3 (0,0))) (hX:X≤65535) (hj:j≤16) (hb:X/2^j% 2=b):
  Calls Tryz.prog 217 #[.int .i64 (pm:Int),.int .i64 (j:Int),.pointer (some ⟨b9,0,none⟩),.pointer (some ⟨b5,0,none⟩),.pointer (some ⟨b6,0,none⟩)] w fun x w'=>x= .returned (.tuple #[.int .i64 (b:Int),.int .i64 0])∧ ∃v',Enc w' B a v' (coded e xs[pm] (b:Int))∧St w' B' s us (xs.set pm (Prob.nx xs[pm] (b:Int)))∧Chg (Fp a v us) w w'∧Moved w v v':=by
 have HBIT:Hid _:=bit_in B B' a s us v xs pm (b:Int) e w hS hI hpm hE hO hk hB
 have k5:=cell00 h5
 have k6:=cell00 h6
 have k9:=cell00 h9
 have hand:bits .and .i64 ((X:Int)/2^j) 1=(b:Int):=by
  rw [and_1t,←hb]
  simp
 clear hE hO hk hB hS hI h5 h6 h9 hb
 go_enter Tryz.func217,Tryz.ntmps217
 go_wp2_with fail
 refine Calls.mono HBIT.out ?_
 rintro x w1 ⟨rfl,v',h1,h2,h3,h4⟩
 have HR:Hid (Enc w1 B a v' (coded e xs[pm] (b:Int))∧St w1 B' s us (xs.set pm (Prob.nx xs[pm] (b:Int)))∧Chg (Fp a v us) w w1∧Moved w v v'):=⟨h1,h2,h3,h4⟩
 clear h1 h2 h3 h4 k5 k6 k9 HBIT
 go_wp2
 go_ret2
 exact⟨rfl,v',HR.out⟩
structure PutW (w0 w:World) (B B' a s b5 b6 b9 X:Nat) (v0 v us:Value) (e:Rc.E) (xs:List Int):Prop where
 enc:Enc w B a v e
 st:St w B' s us xs
 ok:Rc.Ok e
 inn:In31 xs
 h5:w.heap[b5]?=some (.cells #[.pointer (some ⟨a,0,none⟩)] 92 (0,0))
 h6:w.heap[b6]?=some (.cells #[.pointer (some ⟨s,0,none⟩)] 78 (0,0))
 h9:w.heap[b9]?=some (.cells #[.int .i64 (X:Int)] 3 (0,0))
 chg:Chg (Fp a v0 us) w0 w
 mov:Moved w0 v0 v
theorem fp_ne {w:World}{B B' a s:Nat}{v us:Value}{e:Rc.E}{xs:List Int}(hE:Enc w B a v e)(hS:St w B' s us xs){k:Nat}{cs:Array Value}{t:TypeId}(hk:w.heap[k]?=some (.cells cs t (0,0)))(h1:t≠141)(h2:t≠5)(h3:t≠226): ¬Fp a v us k:=by
 obtain⟨l,hl,_⟩:=hE
 rintro((f|f)|f)
 ·rw [f]at hk
  exact ty_ne hl.blk hk (Ne.symm h1)
 ·obtain⟨c,hc⟩:=owns_blk hl.own f
  exact ty_ne hc hk (Ne.symm h2)
 ·obtain⟨c,hc⟩:=owns_blk hS.own f
  exact ty_ne hc hk (Ne.symm h3)
theorem fp_moved {w0:World}{a:Nat}{v0 v us:Value}(hm:Moved w0 v0 v)(z:Nat)(f:Fp a v us z):Fp a v0 us z∨w0.heap.size≤z:=by
 rcases f with f|f
 ·rcases hm.foot a z f with h|h
  ·exact .inl (.inl h)
  ·exact .inr h
 ·exact .inl (.inr f)
def PutI (w0:World)(B B' a s b5 b6 b9 X P N:Nat)(l:List Nat)(v0 us:Value)(e0:Rc.E)(xs0:List Int)(j m:Nat)(w:World):Prop:=
 ∃v e xs,PutW w0 w B B' a s b5 b6 b9 X v0 v us e xs∧xs.length=xs0.length∧e.k≤e0.k+(N-j)∧m=wayM 1 (l.take (N-j))∧encL (wayQ P 1 l) e0 xs0=encL ((wayQ P 1 l).drop (N-j)) e xs
theorem put_step (w0:World)(B B' a s b5 b6 b9 X P N:Nat)(v0 us:Value)(e0:Rc.E)(xs0:List Int)(hB:B≤w0.heap.size)(hk:e0.k+17≤140737488355328)(hN:N≤16)(hX:X<2^N)(hP:P+2^N≤xs0.length)(j m:Nat)(w:World)(hj:j<N)(h:PutI w0 B B' a s b5 b6 b9 X P N (bitsOf false N X) v0 us e0 xs0 (j+1) m w):
  Calls Tryz.prog 217 (#[.int .i64 ((P:Int)+(m:Int)),.int .i64 (j:Int)]++#[.pointer (some ⟨b9,0,none⟩),.pointer (some ⟨b5,0,none⟩),.pointer (some ⟨b6,0,none⟩)]) w (BitSays (PutI w0 B B' a s b5 b6 b9 X P N (bitsOf false N X) v0 us e0 xs0) (fun _ _=>False) j m):=by
 obtain⟨v,e,xs,hw,hxl,hek,hm,hen⟩:=h
 obtain⟨l,hl⟩: ∃l,bitsOf false N X=l:=⟨_,rfl⟩
 have h01:Bits01 l:=by rw [←hl];exact bitsOf_01 _ _ _
 have hlN:l.length=N:=by rw [←hl];exact bitsOf_len _ _ _
 obtain⟨k,hk2⟩: ∃k,k=N-(j+1):=⟨_,rfl⟩
 have hkN:N-j=k+1:=by omega
 have hb:l[k]?=some (X/2^j% 2):=by
  rw [←hl,bitsOf_at (by omega)]
  unfold bitAt
  rw [if_neg (by decide),show N-1-k=j by omega]
 obtain⟨b,hb2⟩: ∃b,X/2^j% 2=b:=⟨_,rfl⟩
 rw [hb2]at hb
 rw [hl,←hk2]at hm hen
 rw [←hk2]at hek
 have hq:=wayQ_at P l 1 k b hb
 have hqk:=(wayQ_ok1 hP h01 (by omega)) _ (List.mem_of_getElem? hq)
 rw [←hm]at hq hqk
 have hpm:P+m<xs.length:=by
  rw [hxl]
  unfold Q.ok at hqk
  rw [if_neg (fun f=>by cases f)]at hqk
  simp only at hqk
  omega
 have hX65:X≤65535:=by have:=pow16 hN;omega
 have hb1:b≤1:=by omega
 have hc:=putbit_any B B' a s b5 b6 b9 X j (P+m) b v us e xs w hw.enc hw.ok (by omega) (Nat.le_trans hB hw.chg.size) hw.st hw.inn hpm hw.h5 hw.h6 hw.h9 hX65 (by omega) hb2
 rw [show((P+m:Nat):Int)=(P:Int)+(m:Int) by omega]at hc
 refine hc.mono ?_
 rintro x w' ⟨rfl,v',h1,h2,h3,h4⟩
 have hp:=hw.inn.at (P+m) hpm
 refine .inr ⟨b,hb1,rfl,v',_,_,⟨h1,h2,coded_ok hw.ok hp.1 hp.2,hw.inn.set _ _ (Prob.nx_lo hp.1 hp.2),blk_keep hw.h5 h3 (fp_ne hw.enc hw.st hw.h5 (by decide) (by decide) (by decide)),blk_keep hw.h6 h3 (fp_ne hw.enc hw.st hw.h6 (by decide) (by decide) (by decide)),blk_keep hw.h9 h3 (fp_ne hw.enc hw.st hw.h9 (by decide) (by decide) (by decide)),hw.chg.trans h3 (fun z f=>fp_moved hw.mov z f),hw.mov.trans hw.chg.size h4⟩,by rw [List.length_set];exact hxl,?_,?_,?_⟩
 ·have:=coded_k (e:=e) (p:=xs[P+m]) (b:=(b:Int));omega
 ·rw [hl,hkN,List.take_add_one,hb,Option.toList_some,wayM_append,←hm]
 ·have hEN:=enc_bit (e:=e) hpm hb1
  rw [hl,hkN,hen,encL_drop hq e xs (by rw [hxl];exact hqk),hEN.1,hEN.2]
set_option maxHeartbeats 4000000 in
set_option maxRecDepth 100000 in
theorem pput_any (B B' a s:Nat)(v us:Value)(e:Rc.E)(xs:List Int)(p n x:Int)(w0:World)(h:Enc w0 B a v e)(hO:Rc.Ok e)(hk:e.k+17≤140737488355328)(hB:B≤w0.heap.size)(hS:St w0 B' s us xs)(hI:In31 xs)(hlen:xs.length≤1048576)(hp:I64 p)(hn:I64 n)(hx:I64 x):Calls Tryz.prog 211 #[.pointer (some ⟨a,0,none⟩),.pointer (some ⟨s,0,none⟩),.int .i64 p,.int .i64 n,.int .i64 x] w0 fun z w'=>
  (¬Fits xs.length p n x∧z= .returned (.int .i64 7)∧Chg (fun _=>False) w0 w')
  ∨(Fits xs.length p n x∧z= .returned (.int .i64 0)∧ ∃v',Enc w' B a v' (encL (numQ false p n x) e xs).1∧St w' B' s us (encL (numQ false p n x) e xs).2∧Chg (Fp a v us) w0 w'∧Moved w0 v v'):=by
 obtain⟨g5,g6,g9,gs,gc⟩:=three w0 #[.pointer (some ⟨a,0,none⟩)] #[.pointer (some ⟨s,0,none⟩)] #[.int .i64 x] 92 78 3
 have HG:Hid (Chg (fun _=>False) w0 _):=gc
 have k6:=cell00 g6
 have k9:=cell00 g9
 have HFIT:Hid _:=pfits_any B' s p n x us xs _ (hS.new gc) hlen hp hn hx
 have H5:Hid _:=g5
 have H6:Hid _:=g6
 have H9:Hid _:=g9
 have HE:Hid (Enc w0 B a v e):=h
 have HS:Hid (St w0 B' s us xs):=hS
 by_cases hf:Fits xs.length p n x
 rotate_left
 ·rw [decide_eq_false hf]at HFIT
  have HF:Hid (¬Fits xs.length p n x):=hf
  clear hf h hO hk hB hS hI g5 g6 g9 gs gc
  go_enter Tryz.func211,Tryz.ntmps211
  go_wp2_with fail
  refine Calls.mono HFIT.out ?_
  rintro z w1 ⟨rfl,c1⟩
  have HC:Hid (Chg (fun _=>False) w0 w1):=chg_then HG.out c1
  clear c1 k6 k9 HG HFIT H5 H6 H9 HE HS
  go_wp2
  go_ret
  exact .inl ⟨HF.out,rfl,HC.out⟩
 rw [decide_eq_true hf]at HFIT
 have HF:Hid (Fits xs.length p n x):=hf
 obtain⟨f1,f2,f3⟩:=fits_bits hf
 obtain⟨P,hP⟩: ∃P:Nat,(P:Int)=p:=⟨p.toNat,by have:=hf.1.2.2.1;omega⟩
 obtain⟨N,hN⟩: ∃N:Nat,(N:Int)=n:=⟨n.toNat,by have:=hf.1.1;omega⟩
 obtain⟨X,hX⟩: ∃X:Nat,(X:Int)=x:=⟨x.toNat,by have:=hf.2.1;omega⟩
 subst hP hN hX
 unfold numQ
 simp only [Int.toNat_natCast]at f1 f2 f3⊢
 have hP1:P≤1048576:=by omega
 have HSTEP:Hid (∀(b5 b6 b9:Nat) (j m:Nat) (w:World),j<N→m<2^(N-j)→PutI w0 B B' a s b5 b6 b9 X P N (bitsOf false N X) v us e xs (j+1) m w→Calls Tryz.prog 217 (#[.int .i64 ((P:Int)+(m:Int)),.int .i64 (j:Int)]++#[.pointer (some ⟨b9,0,none⟩),.pointer (some ⟨b5,0,none⟩),.pointer (some ⟨b6,0,none⟩)]) w (BitSays (PutI w0 B B' a s b5 b6 b9 X P N (bitsOf false N X) v us e xs) (fun _ _=>False) j m)):=fun b5 b6 b9 j m w h1 _ h2=>put_step w0 B B' a s b5 b6 b9 X P N v us e xs hB hk f2 f3 f1 j m w h1 h2
 have HOK:Hid (Rc.Ok e∧In31 xs):=⟨hO,hI⟩
 have HN16:Hid (N≤16):=f2
 have HLN:Hid ((bitsOf false N X).length=N):=bitsOf_len _ _ _
 have hmf: ∀(fn:Fn) (first cap:Array Value) (w:World),(Instr.makeFunc fn first cap).run Tryz.prog w= .ok (.func fn first cap) w:=fun _ _ _ _=>rfl
 clear hf h hO hk hB hS hI g5 g6 g9 gs gc f1 f2 f3
 go_enter Tryz.func211,Tryz.ntmps211
 go_wp2_with fail
 refine Calls.mono HFIT.out ?_
 rintro z w1 ⟨rfl,c1⟩
 have HW:Hid (PutW w0 w1 B B' a s w0.heap.size (w0.heap.size+1) (w0.heap.size+1+1) X v v us e xs):=by
  have c:=chg_then HG.out c1
  exact⟨HE.out.new c,HS.out.new c,HOK.out.1,HOK.out.2,blk_keep H5.out c1 (fun f=>f),blk_keep H6.out c1 (fun f=>f),blk_keep H9.out c1 (fun f=>f),c.mono (fun _ f=>f.elim),Moved.refl _ _⟩
 clear c1 k6 k9 HG HFIT H5 H6 H9 HE HS HOK
 go_wp2_with fail
 refine Calls.mono (down_any 217 _ P N (PutI w0 B B' a s w0.heap.size (w0.heap.size+1) (w0.heap.size+1+1) X P N (bitsOf false N X) v us e xs) (fun _ _=>False) HN16.out hP1 (by intro args w;simp) (HSTEP.out _ _ _) w1 ⟨v,e,xs,HW.out,rfl,by omega,by rw [Nat.sub_self];rfl,by rw [Nat.sub_self];rfl⟩) ?_
 rintro x w2 (⟨_,_,_,f⟩|⟨z,hz,rfl,hI⟩)
 ·exact f.elim
 have HI:Hid (PutI w0 B B' a s w0.heap.size (w0.heap.size+1) (w0.heap.size+1+1) X P N (bitsOf false N X) v us e xs 0 (z+2^N) w2):=hI
 clear hI hz HW HSTEP
 go_wp2
 go_ret
 obtain⟨v',e',xs',hw,_,_,_,hen⟩:=HI.out
 rw [Nat.sub_zero,List.drop_eq_nil_of_le (by rw [wayQ_len,HLN.out];exact Nat.le_refl _)]at hen
 refine .inr ⟨HF.out,rfl,v',?_,?_,hw.chg,hw.mov⟩
 ·rw [hen];exact hw.enc
 ·rw [hen];exact hw.st
end Go.Proofs.YthideplpcnhncaaGreatDoor
namespace Go.Proofs.YthideplpcnhncaaGreatDoor
open Go.RowKit
set_option linter.unusedVariables false
set_option maxHeartbeats 4000000 in
set_option maxRecDepth 100000 in
theorem costbit_any (B' s b4 b7 b10 X j pm b:Nat)(us:Value)(xs:List Int)(c d:Int)(w0:World)(hS:St w0 B' s us xs)(hI:In31 xs)(hpm:pm<xs.length)
  (h4:w0.heap[b4]?=some (.cells #[.pointer (some ⟨s,0,none⟩)] 78 (0,0))) (h7:w0.heap[b7]?=some (.cells #[.int .i64 (X:Int)] 3 (0,0))) (h10:w0.heap[b10]?=some (.cells #[.int .i64 c] 3 (0,0))) (hne:b7≠b10) (hX:X≤65535) (hj:j≤16) (hb:X/2^j% 2=b) (hc0:0≤c) (hc1:c≤2000) (hd:c+Prob.co (xs.getD pm 1024) (b:Int)=d):
  Calls Tryz.prog 231 #[.int .i64 (pm:Int),.int .i64 (j:Int),.pointer (some ⟨b7,0,none⟩),.pointer (some ⟨b4,0,none⟩),.pointer (some ⟨b10,0,none⟩)] w0 fun x w'=>x= .returned (.tuple #[.int .i64 (b:Int),.int .i64 0])∧w'.heap[b10]?=some (.cells #[.int .i64 d] 3 (0,0))∧Chg (fun z=>z=b10) w0 w':=by
 have hp:=hI.at pm hpm
 obtain⟨p,hpx⟩: ∃p,xs[pm]=p:=⟨_,rfl⟩
 have hget:xs.getD pm 1024=p:=by rw [←hpx,List.getD_eq_getElem?_getD];simp [hpm]
 rw [hpx]at hp
 obtain⟨t,ht⟩: ∃t,Prob.co p (b:Int)=t:=⟨_,rfl⟩
 have hco:=co_in hI pm b
 rw [hget,ht]at hco
 rw [hget,ht]at hd
 have HAT:Hid (Calls Tryz.prog 159 #[.pointer (some ⟨s,0,none⟩),.int .i64 (pm:Int)] w0 fun e w'=>e= .returned (.tuple #[.int .i64 p,.int .i64 0])∧w0=w'):=by
  have h:=at_in B' s us xs pm w0 hS hI.inn hpm
  rw [hpx]at h
  exact h
 have HCO:Hid (∀w,Calls Tryz.prog 228 #[.int .i64 p,.int .i64 (b:Int)] w fun e w'=>e= .returned (.int .i64 t)∧w=w'):=fun w=>by
  have h:=cost_any p (b:Int) w (show I64 _ from⟨by omega,by omega⟩)
  rw [ht]at h
  exact h
 have k4:=cell00 h4
 have k7:=cell00 h7
 have k10:=cell00 h10
 have H10:Hid (w0.heap[b10]?=some (.cells #[.int .i64 c] 3 (0,0))):=h10
 have hand:bits .and .i64 ((X:Int)/2^j) 1=(b:Int):=by
  rw [and_1t,←hb]
  simp
 clear hS hI h4 h7 h10 hb hget hpx ht hp
 go_enter Tryz.func231,Tryz.ntmps231
 go_wp2_with fail
 refine Calls.mono HAT.out ?_
 rintro x w1 ⟨rfl,rfl⟩
 have hd2:IntKind.i64.wrap (c+t)=d:=by rw [hd];simp [IntKind.wrap,IntKind.signed,IntKind.bits];omega
 have HD:Hid (c+t=d):=hd
 clear hd k7 k4
 go_wp2_with fail
 refine wp_region_phaseQ (mk:=fun u=> #[_,_,_,_,_,_,_,_,_,_,_,_,_,_,_,_,_,_,_,_,_,_,u 22,u 23,u 24,u 25,u 26,_,_]) (G:=lookG [(22,.int .i64 c),(23,.int .i64 p),(24,.int .i64 (b:Int)),(25,.int .i64 t),(26,.int .i64 d)]) (J:=fun _ _ w=>Chg (fun _=>False) w0 w) [] (fun i=>0) ([]) (fun _=>undef) rfl (by kernel_rfl) 5 _ rfl rfl (by kernel_rfl) (by kernel_rfl) (by kernel_rfl) (by decide) ?_ ?_ ?_ (by kernel_rfl) ?_ ?_
 ·repeat (refine⟨fun _ _=>rfl,?_⟩)
  exact trivial
 ·exact fun q u u2 w _ h=>h
 ·exact(Chg.refl _ _).drew
 ·refine⟨?_,?_,?_,?_,?_,trivial⟩
  ·show StepRQ _ _ _ _ _ _ _ _ _
   unfold StepRQ
   intro q hq u w hj hd K hK
   clear hd
   have hcell:=cell_chg k10 hj
   go_simp
   exact hK.out _ rfl
  ·show StepRQ _ _ _ _ _ _ _ _ _
   unfold StepRQ
   intro q hq u w hj hd K hK
   clear hd
   go_simp
   exact hK.out (.int .i64 p) rfl
  ·show StepRQ _ _ _ _ _ _ _ _ _
   unfold StepRQ
   intro q hq u w hj hd K hK
   clear hd
   go_simp
   exact hK.out (.int .i64 (b:Int)) rfl
  ·show StepRQ _ _ _ _ _ _ _ _ _
   unfold StepRQ
   intro q hq u w hj hd K hK
   have h23:u 23= .int .i64 p:=hd.get 1 (by kernel_rfl)
   have h24:u 24= .int .i64 (b:Int):=hd.get 2 (by kernel_rfl)
   clear hd
   simp only [h23,h24]at hK
   go_simp
   go_at_call 228
   refine(HCO.out w).mono ?_
   rintro x w2 ⟨rfl,rfl⟩
   exact hK.out _ rfl
  ·show StepRQ _ _ _ _ _ _ _ _ _
   unfold StepRQ
   intro q hq u w hj hd K hK
   have h22:u 22= .int .i64 c:=hd.get 0 (by kernel_rfl)
   have h25:u 25= .int .i64 t:=hd.get 3 (by kernel_rfl)
   clear hd
   simp only [h22,h25]at hK
   go_simp
   first|exact hK.out (.int .i64 d) rfl|(rw [hd2];exact hK.out (.int .i64 d) rfl)
 ·intro u w hj hA K hK
  have e26:u 26= .int .i64 d:=hA.at 26 (by kernel_rfl)
  clear hA
  have g10:=blk_keep H10.out hj (fun f=>f)
  have c10:=cell00 g10
  have z10:w.frozen? ⟨b10,0,none⟩=false:=by simp [World.frozen?,g10]
  have HN:Hid ((w.setCell ⟨b10,0,none⟩ (.int .i64 d)).heap[b10]?=some (.cells #[.int .i64 d] 3 (0,0))):=blk_setk (l:=[.int .i64 c]) g10 0 (.int .i64 d)
  have HC:Hid (Chg (fun z=>z=b10) w0 (w.setCell ⟨b10,0,none⟩ (.int .i64 d))):=Chg.setCell (S:=fun z=>z=b10) (hj.mono (fun _ f=>f.elim)) (p:=⟨b10,0,none⟩) (.inl rfl) _
  clear g10 hj
  go_simp
  refine hK.out _ _ ?_
  go_wp2
  go_ret2
  exact⟨rfl,HN.out,HC.out⟩
structure CostW (w0 w:World) (B' s b4 b7 b10 X:Nat) (us:Value) (xs:List Int) (c:Int):Prop where
 st:St w B' s us xs
 h4:w.heap[b4]?=some (.cells #[.pointer (some ⟨s,0,none⟩)] 78 (0,0))
 h7:w.heap[b7]?=some (.cells #[.int .i64 (X:Int)] 3 (0,0))
 h10:w.heap[b10]?=some (.cells #[.int .i64 c] 3 (0,0))
 chg:Chg (fun _=>False) w0 w
def CostI (w0:World)(B' s b4 b7 b10 X P N:Nat)(l:List Nat)(us:Value)(xs:List Int)(j m:Nat)(w:World):Prop:=
 CostW w0 w B' s b4 b7 b10 X us xs (costW xs P 1 (l.take (N-j)))∧m=wayM 1 (l.take (N-j))
theorem cost_step (w0:World)(B' s b4 b7 b10 X P N:Nat)(us:Value)(xs:List Int)(hI:In31 xs)(hn7:b7≠b10)(hn10:w0.heap.size≤b10)(hN:N≤16)(hX:X<2^N)(hP:P+2^N≤xs.length)(j m:Nat)(w:World)(hj:j<N)(h:CostI w0 B' s b4 b7 b10 X P N (bitsOf false N X) us xs (j+1) m w):
  Calls Tryz.prog 231 (#[.int .i64 ((P:Int)+(m:Int)),.int .i64 (j:Int)]++#[.pointer (some ⟨b7,0,none⟩),.pointer (some ⟨b4,0,none⟩),.pointer (some ⟨b10,0,none⟩)]) w (BitSays (CostI w0 B' s b4 b7 b10 X P N (bitsOf false N X) us xs) (fun _ _=>False) j m):=by
 obtain⟨hw,hm⟩:=h
 obtain⟨l,hl⟩: ∃l,bitsOf false N X=l:=⟨_,rfl⟩
 have h01:Bits01 l:=by rw [←hl];exact bitsOf_01 _ _ _
 have hlN:l.length=N:=by rw [←hl];exact bitsOf_len _ _ _
 obtain⟨k,hk2⟩: ∃k,k=N-(j+1):=⟨_,rfl⟩
 have hkN:N-j=k+1:=by omega
 have hb:l[k]?=some (X/2^j% 2):=by
  rw [←hl,bitsOf_at (by omega)]
  unfold bitAt
  rw [if_neg (by decide),show N-1-k=j by omega]
 obtain⟨b,hb2⟩: ∃b,X/2^j% 2=b:=⟨_,rfl⟩
 rw [hb2]at hb
 rw [hl,←hk2]at hm hw
 have hq:=wayQ_at P l 1 k b hb
 have hqk:=(wayQ_ok1 hP h01 (by omega)) _ (List.mem_of_getElem? hq)
 rw [←hm]at hq hqk
 have hpm:P+m<xs.length:=by
  unfold Q.ok at hqk
  rw [if_neg (fun f=>by cases f)]at hqk
  simp only at hqk
  omega
 have hX65:X≤65535:=by have:=pow16 hN;omega
 have hb1:b≤1:=by omega
 have hcw:=costW_in hI P (l.take k) 1
 have hlk:(l.take k).length≤16:=by rw [List.length_take];omega
 have hnew:costW xs P 1 (l.take k)+Prob.co (xs.getD (P+m) 1024) (b:Int)=costW xs P 1 (l.take (k+1)):=by rw [List.take_add_one,hb,Option.toList_some,costW_append,←hm]
 have hc:=costbit_any B' s b4 b7 b10 X j (P+m) b us xs _ _ w hw.st hI hpm hw.h4 hw.h7 hw.h10 hn7 hX65 (by omega) hb2 hcw.1 (by omega) hnew
 rw [show((P+m:Nat):Int)=(P:Int)+(m:Int) by omega]at hc
 refine hc.mono ?_
 rintro x w' ⟨rfl,h1,h2⟩
 refine .inr ⟨b,hb1,rfl,?_,?_⟩
 ·rw [hl,hkN]
  refine⟨hw.st.keep h2 (fun f=> ?_) (fun g e f=> ?_),blk_keep hw.h4 h2 (fun f=> ?_),blk_keep hw.h7 h2 (fun f=>hn7 f),h1,hw.chg.trans h2 (fun z f=> .inr (by rw [f];exact hn10))⟩
  ·have h8:=hw.st.blk
   rw [f]at h8
   exact ty_ne h8 hw.h10 (by decide)
  ·obtain⟨c8,h8⟩:=owns_blk hw.st.own e
   rw [f]at h8
   exact ty_ne h8 hw.h10 (by decide)
  ·have h8:=hw.h4
   rw [f]at h8
   exact ty_ne h8 hw.h10 (by decide)
 ·rw [hl,hkN,List.take_add_one,hb,Option.toList_some,wayM_append,←hm]
theorem twob (w:World)(c1 c2:Array Value)(t1 t2:TypeId):((w.alloc (.cells c1 t1)).alloc (.cells c2 t2)).heap[w.heap.size]?=some (.cells c1 t1 (0,0))∧((w.alloc (.cells c1 t1)).alloc (.cells c2 t2)).heap[w.heap.size+1]?=some (.cells c2 t2 (0,0))∧((w.alloc (.cells c1 t1)).alloc (.cells c2 t2)).heap.size=w.heap.size+2∧Chg (fun _=>False) w ((w.alloc (.cells c1 t1)).alloc (.cells c2 t2)):=by
 have h1:=heap_alloc_last w (.cells c1 t1)
 have h2:=heap_alloc_last (w.alloc (.cells c1 t1)) (.cells c2 t2)
 rw [size1]at h2
 have k1:=chg_one (w.alloc (.cells c1 t1)) (.cells c2 t2)
 exact⟨blk_keep h1 k1 (fun f=>f),h2,by rw [size1,size1],chg_then (chg_one w _) k1⟩
set_option maxHeartbeats 4000000 in
set_option maxRecDepth 100000 in
theorem pcost_any (B' s:Nat)(us:Value)(xs:List Int)(p n x:Int)(w0:World)(hS:St w0 B' s us xs)(hI:In31 xs)(hlen:xs.length≤1048576)(hp:I64 p)(hn:I64 n)(hx:I64 x):Calls Tryz.prog 229 #[.pointer (some ⟨s,0,none⟩),.int .i64 p,.int .i64 n,.int .i64 x] w0 fun z w'=>
  (¬Fits xs.length p n x∧z= .returned (.tuple #[.int .i64 0,.int .i64 7])∧Chg (fun _=>False) w0 w')
  ∨(Fits xs.length p n x∧z= .returned (.tuple #[.int .i64 (costW xs p.toNat 1 (bitsOf false n.toNat x.toNat)),.int .i64 0])∧Chg (fun _=>False) w0 w'):=by
 obtain⟨g4,g7,gs,gc⟩:=twob w0 #[.pointer (some ⟨s,0,none⟩)] #[.int .i64 x] 78 3
 have HG:Hid (Chg (fun _=>False) w0 _):=gc
 have k4:=cell00 g4
 have k7:=cell00 g7
 have HFIT:Hid _:=pfits_any B' s p n x us xs _ (hS.new gc) hlen hp hn hx
 have H4:Hid _:=g4
 have H7:Hid _:=g7
 have HGS:Hid _:=gs
 have HS:Hid (St w0 B' s us xs):=hS
 by_cases hf:Fits xs.length p n x
 rotate_left
 ·rw [decide_eq_false hf]at HFIT
  have HF:Hid (¬Fits xs.length p n x):=hf
  clear hf hS hI g4 g7 gs gc
  go_enter Tryz.func229,Tryz.ntmps229
  go_wp2_with fail
  refine Calls.mono HFIT.out ?_
  rintro z w1 ⟨rfl,c1⟩
  have HC:Hid (Chg (fun _=>False) w0 w1):=chg_then HG.out c1
  clear c1 k4 k7 HG HFIT H4 H7 HS HGS
  go_wp2
  go_ret2
  exact .inl ⟨HF.out,rfl,HC.out⟩
 rw [decide_eq_true hf]at HFIT
 have HF:Hid (Fits xs.length p n x):=hf
 obtain⟨f1,f2,f3⟩:=fits_bits hf
 obtain⟨P,hP⟩: ∃P:Nat,(P:Int)=p:=⟨p.toNat,by have:=hf.1.2.2.1;omega⟩
 obtain⟨N,hN⟩: ∃N:Nat,(N:Int)=n:=⟨n.toNat,by have:=hf.1.1;omega⟩
 obtain⟨X,hX⟩: ∃X:Nat,(X:Int)=x:=⟨x.toNat,by have:=hf.2.1;omega⟩
 subst hP hN hX
 simp only [Int.toNat_natCast]at f1 f2 f3⊢
 have hP1:P≤1048576:=by omega
 have HSTEP:Hid (∀(b4 b7 b10:Nat),b7≠b10→w0.heap.size≤b10→ ∀(j m:Nat) (w:World),j<N→m<2^(N-j)→CostI w0 B' s b4 b7 b10 X P N (bitsOf false N X) us xs (j+1) m w→Calls Tryz.prog 231 (#[.int .i64 ((P:Int)+(m:Int)),.int .i64 (j:Int)]++#[.pointer (some ⟨b7,0,none⟩),.pointer (some ⟨b4,0,none⟩),.pointer (some ⟨b10,0,none⟩)]) w (BitSays (CostI w0 B' s b4 b7 b10 X P N (bitsOf false N X) us xs) (fun _ _=>False) j m)):=fun b4 b7 b10 hn7 hn10 j m w h1 _ h2=>cost_step w0 B' s b4 b7 b10 X P N us xs hI hn7 hn10 f2 f3 f1 j m w h1 h2
 have HN16:Hid (N≤16):=f2
 have HLN:Hid ((bitsOf false N X).length=N):=bitsOf_len _ _ _
 have hmf: ∀(fn:Fn) (first cap:Array Value) (w:World),(Instr.makeFunc fn first cap).run Tryz.prog w= .ok (.func fn first cap) w:=fun _ _ _ _=>rfl
 clear hf hS hI g4 g7 gs gc f1 f2 f3
 go_enter Tryz.func229,Tryz.ntmps229
 go_wp2_with fail
 refine Calls.mono HFIT.out ?_
 rintro z w1 ⟨rfl,c1⟩
 have HZ:Hid (w0.heap.size+2≤w1.heap.size):=by have:=c1.size;rw [HGS.out]at this;exact this
 have HW:Hid (CostW w0 (w1.alloc (.cells #[.int .i64 0] 3)) B' s w0.heap.size (w0.heap.size+1) w1.heap.size X us xs 0):=by
  have c:=chg_then HG.out c1
  have c2:=chg_one w1 (.cells #[.int .i64 0] 3)
  exact⟨HS.out.new (chg_then c c2),blk_keep (blk_keep H4.out c1 (fun f=>f)) c2 (fun f=>f),blk_keep (blk_keep H7.out c1 (fun f=>f)) c2 (fun f=>f),heap_alloc_last _ _,chg_then c c2⟩
 clear c1 k4 k7 HG HFIT H4 H7 HS HGS
 go_wp2_with fail
 refine Calls.mono (down_any 231 _ P N (CostI w0 B' s w0.heap.size (w0.heap.size+1) w1.heap.size X P N (bitsOf false N X) us xs) (fun _ _=>False) HN16.out hP1 (by intro args w;simp) (HSTEP.out _ _ _ (by have:=HZ.out;omega) (by have:=HZ.out;omega)) _ ⟨by rw [Nat.sub_self];exact HW.out,by rw [Nat.sub_self];rfl⟩) ?_
 rintro x w2 (⟨_,_,_,f⟩|⟨z,hz,rfl,hI⟩)
 ·exact f.elim
 obtain⟨hw,_⟩:=hI
 rw [Nat.sub_zero,List.take_of_length_le (by rw [HLN.out];exact Nat.le_refl _)]at hw
 obtain⟨cc,hcc⟩: ∃cc,cc=costW xs P 1 (bitsOf false N X):=⟨_,rfl⟩
 have HCC:Hid (cc=costW xs P 1 (bitsOf false N X)):=hcc
 rw [←hcc]at hw
 have HC:Hid (Chg (fun _=>False) w0 w2):=hw.chg
 have k10:=cell00 hw.h10
 clear hz HW HSTEP hw hcc
 go_wp2
 go_ret2
 exact .inr ⟨HF.out,by rw [←HCC.out];rfl,HC.out⟩
end Go.Proofs.YthideplpcnhncaaGreatDoor
