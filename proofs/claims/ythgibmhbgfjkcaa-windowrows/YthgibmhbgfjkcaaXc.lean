/- Laws for one operation: a cut of a list of bytes, a copy into a list of one's own; of no statement by themselves. -/
import Derived.Test.YthgibmhbgfjkcaaXb
namespace Go.Proofs.Ythgibmhbgfjkcaa
open Go.RowKit
set_option linter.unusedVariables false

/-- Where a cut begins. -/
def cutA (ad : Option Addr) (c lo : Nat) : Option Addr := if c = lo then ad else ad.map (·.add lo)
theorem cutA_block {ad : Option Addr} {c lo : Nat} {x : Addr} (h : cutA ad c lo = some x) : ∃ y, ad = some y ∧ x.block = y.block := by
  unfold cutA at h
  cases ad with
  | none => split at h <;> cases h
  | some y =>
    refine ⟨y, rfl, ?_⟩
    split at h
    · cases h; rfl
    · simp only [Option.map_some, Option.some.injEq] at h
      subst h
      unfold Addr.add
      split <;> rfl
theorem addr_add0 (x : Addr) : x.add 0 = x := by unfold Addr.add; simp
theorem sizeU8 : (sizeOf 5).run Try.prog = fun w => .ok 1 w := by kernel_rfl
theorem elemU8 : Try.prog.elem 22 = 5 := by kernel_rfl
theorem undB : Try.prog.underlying 22 = some (.slice (Try.prog.elem 22)) := by kernel_rfl
theorem run_cut_lo (ad : Option Addr) (m c k : Nat) (w : World) (hk : k ≤ m) : (Instr.sliceAt 22 (.slice ad m c) (some (.int .i64 (k : Int))) none none).run Try.prog w = .ok (.slice (cutA ad c k) (m - k) (c - k)) w := by
  rw [run_sliceAt_slice w 22 _ _ _ _ undB, run_slice_l w 22 ad m c undB .i64 (k : Int) (by omega) (by omega), elemU8, sizeU8]
  unfold cutA sliced
  simp [Result.andThen]
theorem run_cut_hi (ad : Option Addr) (m c k : Nat) (w : World) (hk : k ≤ c) : (Instr.sliceAt 22 (.slice ad m c) none (some (.int .i64 (k : Int))) none).run Try.prog w = .ok (.slice ad k c) w := by
  rw [run_sliceAt_slice w 22 _ _ _ _ undB, run_slice_h w 22 ad m c undB .i64 (k : Int) (by omega) (by omega), elemU8, sizeU8]
  unfold sliced
  simp [Result.andThen]
  cases ad <;> simp [addr_add0]
theorem step_cut_lo {ops : Array Oper} {o : Oper} {a : Act} {w : World} {K : Act → World → Prop} {Q : Exit → Act → World → Prop} {E : Prop} (hgd : o.guard = none) (x l : Operand) (ho : o.op = .slice 22 x (some l) none none)
    (ad : Option Addr) (m c k : Nat) (hx : a.eval x = .slice ad m c) (hl : a.eval l = .int .i64 (k : Int)) (hk : k ≤ m) (h : K (a.put o.dst (.slice (cutA ad c k) (m - k) (c - k))) w) :
    if Region.wanted o (yielded ops a.tmps) = true then Oper.wp Try.prog o a w K Q else E := by
  have hw : Region.wanted o (yielded ops a.tmps) = true := by simp [Region.wanted, hgd]
  rw [if_pos hw]
  unfold Oper.wp
  simp [execOp, ho, hx, hl, run_cut_lo ad m c k w hk, Result.andThen]
  exact h
theorem step_cut_hi {ops : Array Oper} {o : Oper} {a : Act} {w : World} {K : Act → World → Prop} {Q : Exit → Act → World → Prop} {E : Prop} (hgd : o.guard = none) (x l : Operand) (ho : o.op = .slice 22 x none (some l) none)
    (ad : Option Addr) (m c k : Nat) (hx : a.eval x = .slice ad m c) (hl : a.eval l = .int .i64 (k : Int)) (hk : k ≤ c) (h : K (a.put o.dst (.slice ad k c)) w) :
    if Region.wanted o (yielded ops a.tmps) = true then Oper.wp Try.prog o a w K Q else E := by
  have hw : Region.wanted o (yielded ops a.tmps) = true := by simp [Region.wanted, hgd]
  rw [if_pos hw]
  unfold Oper.wp
  simp [execOp, ho, hx, hl, run_cut_hi ad m c k w hk, Result.andThen]
  exact h
theorem wpList_cut_lo {w : World} {ops : Array Oper} {rest : List Oper} {o : Oper} {a : Act} {Q : Exit → Act → World → Prop} (hgd : o.guard = none) (x l : Operand) (ho : o.op = .slice 22 x (some l) none none)
    (ad : Option Addr) (m c k : Nat) (hx : a.eval x = .slice ad m c) (hl : a.eval l = .int .i64 (k : Int)) (hk : k ≤ m) (h : wpList Try.prog ops Q rest (a.put o.dst (.slice (cutA ad c k) (m - k) (c - k))) w) : wpList Try.prog ops Q (o :: rest) a w := by
  refine wpList_plain hgd fun K hK => ?_
  unfold Oper.wp
  simp [execOp, ho, hx, hl, run_cut_lo ad m c k w hk, Result.andThen]
  exact hK _ _ h

theorem wpList_cut_hi {w : World} {ops : Array Oper} {rest : List Oper} {o : Oper} {a : Act} {Q : Exit → Act → World → Prop} (hgd : o.guard = none) (x l : Operand) (ho : o.op = .slice 22 x none (some l) none)
    (ad : Option Addr) (m c k : Nat) (hx : a.eval x = .slice ad m c) (hl : a.eval l = .int .i64 (k : Int)) (hk : k ≤ c) (h : wpList Try.prog ops Q rest (a.put o.dst (.slice ad k c)) w) : wpList Try.prog ops Q (o :: rest) a w := by
  refine wpList_plain hgd fun K hK => ?_
  unfold Oper.wp
  simp [execOp, ho, hx, hl, run_cut_hi ad m c k w hk, Result.andThen]
  exact hK _ _ h

/-- A copy into a list of one's own, from its place off on. -/
theorem run_copy_own {P : Program} (w : World) (B : Nat) (e dT sT ty : TypeId) (hu : P.underlying dT = some (.slice e)) (hsz : (P.info? e).map (·.size) = some 1) (v : Value) (n : Nat) (xs : List Value) (hown : w.ownsRow B e 1 v n xs)
    (off : Nat) (dp : Option Addr) (dLen dCap : Nat) (sp : Option Addr) (sLen sCap : Nat) (cs : List Value) (hn : cs.length = Nat.min sLen dLen) (hfit : off + cs.length ≤ n) (hdst : 0 < cs.length → ∀ g, v.ownBlock = some g → dp = some ⟨g, off, none⟩)
    (hsrc : 0 < cs.length → ∃ ad, sp = some ad ∧ ∀ j u, cs[j]? = some u → w.cell? (ad.add j) = some u) (h1 : ∀ u ∈ cs, u.oneCell' = true) :
    ∃ w', (Builtin.copy_ #[dT, sT] ty #[.slice dp dLen dCap, .slice sp sLen sCap]).run P w = .ok (goInt cs.length) w' ∧ w'.ownsRow B e 1 v n (splice xs off cs) ∧ Chg (fun z => v.ownBlock = some z) w w' := by
  by_cases h0 : cs.length = 0
  · obtain rfl := List.eq_nil_of_length_eq_zero h0
    exact ⟨w, run_copy_none w dT sT ty e dp sp dLen dCap sLen sCap hu hsz (by simpa using hn.symm), by simpa [splice] using hown, Chg.refl _ _⟩
  · rcases hown.2 with ⟨_, hn0⟩ | ⟨g, cap, cur, rfl, hB, hg, hcap, hmax, hcs, htk⟩
    · omega
    · obtain rfl := hdst (by omega) g rfl
      obtain ⟨ad, rfl, hs⟩ := hsrc (by omega)
      have hl := hown.1
      rw [Nat.mul_one] at hl hcs htk
      have hrun := run_copy_row (P := P) w dT sT ty e g off dLen dCap ad sLen sCap cur e cs hu hsz hg hn hs (by omega) h1
      refine ⟨_, hrun, ⟨?_, .inr ⟨g, cap, _, rfl, hB, setRow_heap _ _ _ _ _ _ hg, hcap, hmax, ?_, ?_⟩⟩, ⟨rfl, rfl, rfl, by simp [World.setRow], fun z _ hz => setRow_other _ _ _ _ (fun e => hz (by rw [e]; rfl))⟩⟩
      · rw [length_splice _ _ _ (by omega), hl, Nat.mul_one]
      · simp
        omega
      · rw [Nat.mul_one]
        have ht : cur.toList.take off = xs.take off := by rw [← htk, List.take_take, Nat.min_eq_left (by omega)]
        have hlen : (cur.toList.take off).length = off := by rw [List.length_take, Array.length_toList]; omega
        simp only [splice, List.append_assoc]
        rw [List.take_append, hlen, List.take_append, ← ht, List.take_of_length_le (by rw [hlen]; omega), List.take_of_length_le (show cs.length ≤ n - off by omega), List.take_drop, ← htk, List.drop_take]
        congr 2
        rw [List.drop_take]
        congr 1
        omega
theorem step_copy_own {P : Program} {ops : Array Oper} {o : Oper} {a : Act} {w : World} {K : Act → World → Prop} {Q : Exit → Act → World → Prop} {E : Prop} (hgd : o.guard = none) (d s : Operand) (dT sT : TypeId)
    (ho : o.op = .call { callee := .builtin .copy, args := #[d, s], argTypes := #[dT, sT] }) (B : Nat) (e : TypeId) (hu : P.underlying dT = some (.slice e)) (hsz : (P.info? e).map (·.size) = some 1) (v : Value) (n : Nat) (xs : List Value) (hown : w.ownsRow B e 1 v n xs)
    (off : Nat) (dp : Option Addr) (dLen dCap : Nat) (hd : a.eval d = .slice dp dLen dCap) (sp : Option Addr) (sLen sCap : Nat) (hs : a.eval s = .slice sp sLen sCap) (cs : List Value) (hn : cs.length = Nat.min sLen dLen) (hfit : off + cs.length ≤ n) (hdst : 0 < cs.length → ∀ g, v.ownBlock = some g → dp = some ⟨g, off, none⟩)
    (hsrc : 0 < cs.length → ∃ ad, sp = some ad ∧ ∀ j u, cs[j]? = some u → w.cell? (ad.add j) = some u) (h1 : ∀ u ∈ cs, u.oneCell' = true)
    (h : ∀ w', w'.ownsRow B e 1 v n (splice xs off cs) → Chg (fun z => v.ownBlock = some z) w w' → K (a.put o.dst (goInt cs.length)) w') :
    if Region.wanted o (yielded ops a.tmps) = true then Oper.wp P o a w K Q else E := by
  have hw : Region.wanted o (yielded ops a.tmps) = true := by simp [Region.wanted, hgd]
  rw [if_pos hw]
  obtain ⟨w', hrun, q1, q2⟩ := run_copy_own (P := P) w B e dT sT o.type hu hsz v n xs hown off dp dLen dCap sp sLen sCap cs hn hfit hdst hsrc h1
  unfold Oper.wp
  simp [execOp, ho, resolve, invoke, builtin, hd, hs, hrun, Result.andThen]
  exact h w' q1 q2
end Go.Proofs.Ythgibmhbgfjkcaa
