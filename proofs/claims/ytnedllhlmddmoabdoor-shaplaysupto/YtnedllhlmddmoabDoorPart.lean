/- Arrays that are parts of a block: loaded, stored, copied into: laws of one operation each; of no statement by themselves. -/
import Derived.Test.YtnedllhlmddmoabDoorPad
import Derived.Deep.RegionLaw
namespace Go.Proofs.YtnedllhlmddmoabDoor
open Go.RowKit

section
variable {P : Program}

theorem run_loadVar_part (w : World) (ad : Addr) (ty : TypeId) (cs : List Value) (d : TypeDesc) (hc : ∀ j v, cs[j]? = some v → w.cell? (ad.add j) = some v)
    (hu : P.underlying ty = some d) (hd : (match d with | .struct _ | .array _ _ => true | _ => false) = true) (hi : (P.info? ty).map (·.size) = some cs.length) :
    (loadVar ty ad).run P w = .ok (.agg cs.toArray) w := by
  have hl : (loadCells ad cs.length).run P w = .ok cs.toArray w := run_loadCells_list (P := P) w ad cs hc
  cases hq : P.info? ty with
  | none => simp [hq] at hi
  | some i =>
    have hs : i.size = cs.length := by simpa [hq] using hi
    have hagg : (isAgg ty).run P w = .ok true w := by
      unfold isAgg
      rw [Sem.run_bind, run_underlying hu w]
      cases d <;> simp_all
    simp [loadVar, Sem.run_bind, hagg, sizeOf, typeInfo, hq, hs, hl]

theorem wp_load_part {o : Oper} {a : Act} {w : World} {K : Act → World → Prop} {Q : Exit → Act → World → Prop} (ty : TypeId) (x : Operand) (ho : o.op = .load ty x)
    (ad : Addr) (hx : a.eval x = .pointer (some ad)) (cs : List Value) (d : TypeDesc) (hc : ∀ j v, cs[j]? = some v → w.cell? (ad.add j) = some v)
    (hu : P.underlying ty = some d) (hd : (match d with | .struct _ | .array _ _ => true | _ => false) = true) (hi : (P.info? ty).map (·.size) = some cs.length)
    (h : K (a.put o.dst (.agg cs.toArray)) w) : o.wp P a w K Q := by
  unfold Oper.wp execOp
  simp only [ho, hx, Instr.loadAt, Instr.sureAddr, Sem.run_bind, Sem.run_pure, Result.andThen_ok, run_loadVar_part w ad ty cs d hc hu hd hi]
  exact h

theorem wpList_load_part {ops : Array Oper} {rest : List Oper} {o : Oper} {a : Act} {w : World} {Q : Exit → Act → World → Prop} (hgd : o.guard = none) (ty : TypeId) (x : Operand) (ho : o.op = .load ty x)
    (ad : Addr) (hx : a.eval x = .pointer (some ad)) (cs : List Value) (d : TypeDesc) (hc : ∀ j v, cs[j]? = some v → w.cell? (ad.add j) = some v)
    (hu : P.underlying ty = some d) (hd : (match d with | .struct _ | .array _ _ => true | _ => false) = true) (hi : (P.info? ty).map (·.size) = some cs.length)
    (h : wpList P ops Q rest (a.put o.dst (.agg cs.toArray)) w) : wpList P ops Q (o :: rest) a w :=
  wpList_plain hgd fun _ hK => wp_load_part ty x ho ad hx cs d hc hu hd hi (hK _ _ h)

theorem run_storeVar_part (w : World) (g off : Nat) (t ty : TypeId) (old : Array Value) (cells : List Value) (hg : w.heap[g]? = some (.cells old t (0, 0))) (hi : (P.info? ty).map (·.size) = some cells.length)
    (ho : off + cells.length ≤ old.size) (h1 : ∀ v ∈ cells, v.oneCell' = true) :
    (storeVar ty ⟨g, off, none⟩ (.agg cells.toArray)).run P w = .ok () (w.setRow g (old.toList.take off ++ cells ++ old.toList.drop (off + cells.length)).toArray) := by
  have := run_storeCells_at P g off t cells 0 old w hg (by simpa using ho) h1
  simp only [Nat.add_zero] at this
  cases hq : P.info? ty with
  | none => simp [hq] at hi
  | some i =>
    have hs : cells.length = i.size := by simp [hq] at hi; omega
    have hs2 : i.size = cells.length := hs.symm
    simp [storeVar, sizeOf, typeInfo, hq, Value.cells, hs2, this]

theorem wp_store_part {o : Oper} {a : Act} {w : World} {K : Act → World → Prop} {Q : Exit → Act → World → Prop} (ty : TypeId) (x y : Operand) (ho : o.op = .store ty x y)
    (g off : Nat) (cells : List Value) (hx : a.eval x = .pointer (some ⟨g, off, none⟩)) (hy : a.eval y = .agg cells.toArray)
    (t : TypeId) (old : Array Value) (hg : w.heap[g]? = some (.cells old t (0, 0))) (hi : (P.info? ty).map (·.size) = some cells.length)
    (hold : off + cells.length ≤ old.size) (h1 : ∀ v ∈ cells, v.oneCell' = true)
    (h : K (a.put o.dst undef) (w.setRow g (old.toList.take off ++ cells ++ old.toList.drop (off + cells.length)).toArray)) : o.wp P a w K Q := by
  unfold Oper.wp execOp
  simp only [ho, hx, hy, Instr.storeAt, Instr.sureAddr, Sem.run_bind, Sem.run_pure, Result.andThen_ok, run_storeVar_part w g off t ty old cells hg hi hold h1]
  exact h

theorem chg_setRow (w : World) (g : Nat) (cs : Array Value) : Chg (fun k => k = g) w (w.setRow g cs) := ⟨rfl, rfl, rfl, by simp, fun _ _ hb => setRow_other _ _ _ _ hb⟩

/-- 'copy' into a block, as one step of a region that draws its order. -/
theorem step_copy_at {ops : Array Oper} {o : Oper} {a : Act} {w : World} {K : Act → World → Prop} {Q : Exit → Act → World → Prop} {E : Prop} (hgd : o.guard = none) (d s : Operand) (dT sT : TypeId)
    (ho : o.op = .call { callee := .builtin .copy, args := #[d, s], argTypes := #[dT, sT] }) (elem : TypeId) (hu : P.underlying dT = some (.slice elem)) (hsz : (P.info? elem).map (·.size) = some 1)
    (g off dLen dCap : Nat) (ad : Addr) (sLen sCap : Nat) (hd : a.eval d = .slice (some ⟨g, off, none⟩) dLen dCap) (hs : a.eval s = .slice (some ad) sLen sCap)
    (cur : List Value) (t : TypeId) (hg : w.heap[g]? = some (.cells cur.toArray t (0, 0))) (cs : List Value) (hn : cs.length = Nat.min sLen dLen)
    (hsrc : ∀ j v, cs[j]? = some v → w.cell? (ad.add j) = some v)
    (hfit : off + cs.length ≤ cur.length) (h1 : ∀ v ∈ cs, v.oneCell' = true)
    (h : ∀ w', Hid (w'.heap[g]? = some (.cells (cur.take off ++ cs ++ cur.drop (off + cs.length)).toArray t (0, 0))) → Hid (Chg (fun k => k = g) w w') → K (a.put o.dst (goInt cs.length)) w') :
    if Region.wanted o (yielded ops a.tmps) = true then Oper.wp P o a w K Q else E := by
  have hw : Region.wanted o (yielded ops a.tmps) = true := by simp [Region.wanted, hgd]
  rw [if_pos hw]
  have hrun := run_copy_row (P := P) w dT sT o.type elem g off dLen dCap ad sLen sCap cur.toArray t cs hu hsz hg hn hsrc (by simpa using hfit) h1
  unfold Oper.wp
  simp [execOp, ho, resolve, invoke, builtin, hd, hs, hrun, Result.andThen]
  exact h _ (show _ = _ by simpa using setRow_heap w g _ _ t _ hg) (chg_setRow _ _ _)
end

/-- A hash's cells. -/
def hcells (s b : List Nat) (n : Nat) : List Value := wds s ++ (byts b ++ [.int .i64 (n : Int)])

/-- A hash in memory: its state, its block, its size. -/
structure Hs (w : World) (a : Nat) (s b : List Nat) (n : Nat) : Prop where
  blk : w.heap[a]? = some (.cells (hcells s b n).toArray 56 (0, 0))
  s8 : s.length = 8
  b64 : b.length = 64

theorem hcells_len {s b : List Nat} {n : Nat} (hs : s.length = 8) (hb : b.length = 64) : (hcells s b n).length = 73 := by simp [hcells, wds, byts, hs, hb]

theorem Hs.keep {w w' : World} {S : Nat → Prop} {a : Nat} {s b : List Nat} {n : Nat} (h : Hs w a s b n) (hc : Chg S w w') (hS : ¬ S a) : Hs w' a s b n := ⟨blk_keep h.blk hc hS, h.s8, h.b64⟩
theorem Hs.new {w w' : World} {a : Nat} {s b : List Nat} {n : Nat} (h : Hs w a s b n) (hc : Chg (fun _ => False) w w') : Hs w' a s b n := h.keep hc (fun f => f)

theorem Hs.size {w : World} {a : Nat} {s b : List Nat} {n : Nat} (h : Hs w a s b n) : w.cell? ⟨a, 72, none⟩ = some (.int .i64 (n : Int)) := by
  rw [cell_of_row _ a 72 _ _ _ h.blk]
  have h1 := h.s8
  have h2 := h.b64
  simp [hcells, wds, byts, h1, h2]

theorem Hs.free {w : World} {a : Nat} {s b : List Nat} {n : Nat} (h : Hs w a s b n) (k : Nat) : w.frozen? ⟨a, k, none⟩ = false := by simp [World.frozen?, h.blk]

theorem addk (a o j : Nat) : (⟨a, o, none⟩ : Addr).add j = ⟨a, o + j, none⟩ := by unfold Addr.add; split <;> simp_all

theorem Hs.state {w : World} {a : Nat} {s b : List Nat} {n : Nat} (h : Hs w a s b n) : ∀ j v, (wds s)[j]? = some v → w.cell? ((⟨a, 0, none⟩ : Addr).add j) = some v := by
  intro j v hv
  rw [addk, Nat.zero_add, cell_of_row _ a j _ _ _ h.blk]
  have hj := (List.getElem?_eq_some_iff.1 hv).1
  simp only [List.getElem?_toArray, hcells]
  rw [List.getElem?_append_left hj]
  exact hv

theorem Hs.block {w : World} {a : Nat} {s b : List Nat} {n : Nat} (h : Hs w a s b n) : ∀ j v, (byts b)[j]? = some v → w.cell? ((⟨a, 8, none⟩ : Addr).add j) = some v := by
  intro j v hv
  rw [addk, cell_of_row _ a (8 + j) _ _ _ h.blk]
  have hj := (List.getElem?_eq_some_iff.1 hv).1
  simp only [List.getElem?_toArray, hcells]
  rw [List.getElem?_append_right (by rw [wds_len, h.s8]; omega), wds_len, h.s8, show 8 + j - 8 = j by omega, List.getElem?_append_left hj]
  exact hv

/-- Another size. -/
theorem hcells_size {s b : List Nat} {n m : Nat} (hs : s.length = 8) (hb : b.length = 64) : (hcells s b n).set 72 (.int .i64 (m : Int)) = hcells s b m := by
  unfold hcells
  rw [List.set_append, if_neg (by rw [wds_len, hs]; omega), wds_len, hs, List.set_append, if_neg (by rw [byts_len, hb]; omega), byts_len, hb]
  rfl

theorem Hs.sized {w : World} {a : Nat} {s b : List Nat} {n : Nat} (h : Hs w a s b n) (m : Nat) : Hs (w.setCell ⟨a, 72, none⟩ (.int .i64 (m : Int))) a s b m :=
  ⟨by rw [blk_setk h.blk, hcells_size h.s8 h.b64], h.s8, h.b64⟩

/-- Another state. -/
theorem hcells_state {s b t : List Nat} {n : Nat} (hs : s.length = 8) (ht : t.length = 8) : (hcells s b n).take 0 ++ wds t ++ (hcells s b n).drop (0 + (wds t).length) = hcells t b n := by
  unfold hcells
  rw [wds_len, ht, List.take_zero, List.nil_append, List.drop_append, wds_len, hs, List.drop_of_length_le (by rw [wds_len, hs]; omega)]
  simp

/-- Bytes laid into the block. -/
theorem hcells_copy {s b xs : List Nat} {n r : Nat} (hs : s.length = 8) (hb : b.length = 64) (hr : r + xs.length ≤ 64) : (hcells s b n).take (8 + r) ++ byts xs ++ (hcells s b n).drop (8 + r + (byts xs).length) = hcells s (b.take r ++ xs ++ b.drop (r + xs.length)) n := by
  unfold hcells
  have e1 : (wds s ++ (byts b ++ [Value.int .i64 (n : Int)])).take (8 + r) = wds s ++ byts (b.take r) := by
    rw [List.take_append, wds_len, hs, List.take_of_length_le (by rw [wds_len, hs]; omega), show 8 + r - 8 = r by omega, List.take_append_of_le_length (by rw [byts_len, hb]; omega)]
    simp [byts, List.map_take]
  have e2 : (wds s ++ (byts b ++ [Value.int .i64 (n : Int)])).drop (8 + r + (byts xs).length) = byts (b.drop (r + xs.length)) ++ [Value.int .i64 (n : Int)] := by
    rw [byts_len, List.drop_append, wds_len, hs, List.drop_of_length_le (by rw [wds_len, hs]; omega), List.nil_append, show 8 + r + xs.length - 8 = r + xs.length by omega, List.drop_append_of_le_length (by rw [byts_len, hb]; omega)]
    simp [byts, List.map_drop]
  rw [e1, e2]
  simp [byts]

theorem wds_ones (l : List Nat) : ∀ v ∈ wds l, v.oneCell' = true := fun v hv => by
  obtain ⟨x, _, rfl⟩ := List.mem_map.1 hv
  rfl
theorem byts_ones (l : List Nat) : ∀ v ∈ byts l, v.oneCell' = true := fun v hv => by
  obtain ⟨x, _, rfl⟩ := List.mem_map.1 hv
  rfl
theorem hcells_one (s b : List Nat) (n : Nat) : (hcells s b n).toArray.all (·.oneCell') = true := by
  rw [Array.all_eq_true_iff_forall_mem]
  intro v hv
  simp only [hcells, List.mem_toArray, List.mem_append, List.mem_singleton] at hv
  rcases hv with h | h | h
  · exact wds_ones _ v h
  · exact byts_ones _ v h
  · subst h; rfl

theorem infoH : (Tryd.prog.info? 56).map (·.size) = some 73 := by kernel_rfl
end Go.Proofs.YtnedllhlmddmoabDoor
