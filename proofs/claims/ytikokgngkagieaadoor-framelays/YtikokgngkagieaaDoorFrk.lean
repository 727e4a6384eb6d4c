/- Arrays of bytes; kinds of checks; the flags of the landed frame; of no statement by themselves. -/
import Derived.Test.YtikokgngkagieaaDoorFrb
import Derived.Deep.WholeRow
import Derived.Deep.MidRow
import Derived.Stop.BytesEq
namespace Go.Proofs.YtikokgngkagieaaDoor
open Go.RowKit
set_option linter.unusedVariables false
set_option linter.unusedSimpArgs false
attribute [local go_sem] Oper.semAt_some
/-- The cells of an array of bytes. -/
def abA (bs : List Nat) : Array Value := ((nums bs).map (Value.int .u8)).toArray
/-- An array of bytes as a value. -/
def ab (bs : List Nat) : Value := .agg (abA bs)
theorem abA_size (bs : List Nat) : (abA bs).size = bs.length := by simp [abA, nums]
theorem abA_list (bs : List Nat) : (abA bs).toList = (nums bs).map (Value.int .u8) := by simp [abA]
theorem abA_one (bs : List Nat) : (abA bs).all (·.oneCell') = true := all_oneCell_toArray (oneB bs)
theorem abA_cell {bs : List Nat} (h : Rc.Dig bs) : abA bs = ((bs.map UInt8.ofNat).map Extern.Stop.cell).toArray := by
  unfold abA nums
  rw [List.map_map, List.map_map]
  congr 1
  refine List.map_congr_left fun x hx => ?_
  have := h x hx
  simp only [Function.comp_apply, Extern.Stop.cell]
  congr 1
  have e : (UInt8.ofNat x).toNat = x := by simp; omega
  rw [e]
  rfl
theorem u8_inj {a b : List Nat} (ha : Rc.Dig a) (hb : Rc.Dig b) : (a.map UInt8.ofNat == b.map UInt8.ofNat) = decide (a = b) := by
  have h : a.map UInt8.ofNat = b.map UInt8.ofNat ↔ a = b := by
    constructor
    · intro h
      have h2 := congrArg (List.map UInt8.toNat) h
      rw [List.map_map, List.map_map] at h2
      have f : ∀ {l : List Nat}, Rc.Dig l → l.map (UInt8.toNat ∘ UInt8.ofNat) = l := fun {l} hl => by
        conv => rhs; rw [← List.map_id l]
        refine List.map_congr_left fun x hx => ?_
        have := hl x hx
        simp
        omega
      rw [f ha, f hb] at h2
      exact h2
    · rintro rfl; rfl
  by_cases e : a = b
  · subst e
    simp
  · rw [decide_eq_false e]
    exact beq_eq_false_iff_ne.2 (fun f => e (h.1 f))
theorem size5f : ∀ w, (sizeOf 5).run Tryd.prog w = .ok 1 w := fun w => by rw [sizeBy]
theorem eql_ab {t n : Nat} (ht : Tryd.prog.underlying t = some (.array n 5)) {a b : List Nat} (ha : Rc.Dig a) (hb : Rc.Dig b) (la : a.length = n) (lb : b.length = n) : ∀ w : World, (Op.equalIn 10000 t (ab a) (ab b)).run Tryd.prog w = .ok (decide (a = b)) w := fun w => by
  unfold ab
  rw [abA_cell ha, abA_cell hb, run_equalIn_bytes w 9998 t 5 n ht Tryd.underlying5 size5f _ _ (by simpa using la) (by simpa using lb), u8_inj ha hb]
theorem neq_ab {t n : Nat} (ht : Tryd.prog.underlying t = some (.array n 5)) {a b : List Nat} (ha : Rc.Dig a) (hb : Rc.Dig b) (la : a.length = n) (lb : b.length = n) : ∀ w : World, (binOp .neq t (ab a) (ab b)).run Tryd.prog w = .ok (.bool (!decide (a = b))) w := fun w => by
  unfold ab
  rw [run_neq_struct, abA_cell ha, abA_cell hb, run_equalIn_bytes w 9998 t 5 n ht Tryd.underlying5 size5f _ _ (by simpa using la) (by simpa using lb), u8_inj ha hb]
  rfl
theorem chg_setRowF {w wr : World} {g : Nat} {cs : Array Value} (hc : Chg (fun _ => False) w wr) (hg : w.heap.size ≤ g) : Chg (fun _ => False) w (wr.setRow g cs) :=
  ⟨hc.os, hc.tape, hc.output, by rw [size_setRow]; exact hc.size, fun k hk hS => by rw [setRow_other _ _ _ _ (by omega)]; exact hc.block k hk hS⟩
theorem info2x : (Tryd.prog.info? 53).map (·.size) = some 2 := by kernel_rfl
theorem info4x : (Tryd.prog.info? 57).map (·.size) = some 4 := by kernel_rfl
theorem info6x : (Tryd.prog.info? 56).map (·.size) = some 6 := by kernel_rfl
/-- An array and a word are given back. -/
theorem res_ab {P : Program} {fn : Func} {p u : Tmp} {ty : TypeId} (h : fn.results = #[.cell p ty, .tmp u]) (tmps : Array Value) (w : World) (g : Nat) (t : TypeId) (cs : Array Value) (fr : Nat × Nat) (d : TypeDesc)
    (hg : w.heap[g]? = some (.cells cs t fr)) (hu : P.underlying ty = some d) (hd : (match d with | .struct _ | .array _ _ => true | _ => false) = true) (hi : (P.info? ty).map (·.size) = some cs.size)
    (hp : tmps.getD p undef = .pointer (some ⟨g, 0, none⟩) := by rfl) : (results fn tmps).run P w = .ok (.tuple #[.agg cs, tmps.getD u undef]) w := by
  have e : tmps[p]?.getD undef = .pointer (some ⟨g, 0, none⟩) := by simpa using hp
  simp only [results, h]
  simp [Sem.run_bind, Result.andThen, e, asAddr, run_loadVar_row w g t ty cs fr d hg hu hd hi]
theorem isKind24_q (n : Int) (w : World) : Calls Tryd.prog 41 #[.int .i64 n] w fun e w' => e = .returned (.bool (decide (0 ≤ n ∧ n < 16))) ∧ w' = w := by
  by_cases h1 : 0 ≤ n
  · have e1 : decide (0 ≤ n) = true := decide_eq_true h1
    by_cases h2 : n < 16
    · have e2 : decide (n < 16) = true := decide_eq_true h2
      have HE : Hid (decide (0 ≤ n ∧ n < 16) = true) := decide_eq_true ⟨h1, h2⟩
      clear h1 h2
      go_enter Tryd.func41, Tryd.ntmps41
      go_wp2
      go_ret
      exact ⟨by rw [HE.out]; rfl, rfl⟩
    · have e2 : decide (n < 16) = false := decide_eq_false h2
      have HE : Hid (decide (0 ≤ n ∧ n < 16) = false) := decide_eq_false (fun f => h2 f.2)
      clear h1 h2
      go_enter Tryd.func41, Tryd.ntmps41
      go_wp2
      go_ret
      exact ⟨by rw [HE.out]; rfl, rfl⟩
  · have e1 : decide (0 ≤ n) = false := decide_eq_false h1
    have HE : Hid (decide (0 ≤ n ∧ n < 16) = false) := decide_eq_false (fun f => h1 f.1)
    clear h1
    go_enter Tryd.func41, Tryd.ntmps41
    go_wp2
    go_ret
    exact ⟨by rw [HE.out]; rfl, rfl⟩
/-- The table of makers. -/
def mk16 : Array Value := #[.func (.func 48) #[] #[], .func (.func 49) #[] #[], .nilFunc, .nilFunc, .func (.func 50) #[] #[], .nilFunc, .nilFunc, .nilFunc, .nilFunc, .nilFunc, .func (.func 51) #[] #[], .nilFunc, .nilFunc, .nilFunc, .nilFunc, .nilFunc]
theorem wpList_store_new {P : Program} {ops : Array Oper} {rest : List Oper} {op : Oper} {a : Act} {w : World} {Q : Exit → Act → World → Prop} (hgd : op.guard = none) (ty : TypeId) (x y : Operand) (ho : op.op = .store ty x y)
    (c cells : Array Value) (hx : a.eval x = .pointer (some ⟨w.heap.size, 0, none⟩)) (hy : a.eval y = .agg cells)
    (hi : (P.info? ty).map (·.size) = some cells.size) (hs : c.size = cells.size) (h1 : cells.all (·.oneCell') = true)
    (h : wpList P ops Q rest (a.put op.dst undef) (w.alloc (.cells cells ty))) : wpList P ops Q (op :: rest) a (w.alloc (.cells c ty)) :=
  wpList_plain hgd fun K hK => by
    unfold Oper.wp execOp
    simp only [ho, hx, hy, Sem.run_bind, Sem.run_pure, Result.andThen_ok, run_storeAt_new w ty c cells hi hs h1]
    exact hK _ _ h
theorem one16 : mk16.all (·.oneCell') = true := by decide +kernel
theorem res16 {P : Program} {fn : Func} {p : Tmp} {ty : TypeId} (h : fn.results = #[.cell p ty]) (tmps : Array Value) (w : World) {ad : Addr} {v : Value} (hp : (loadVar ty ad).run P w = .ok v w) (ha : tmps.getD p undef = .pointer (some ad) := by rfl) : (results fn tmps).run P w = .ok v w := by
  have e : tmps[p]?.getD undef = .pointer (some ad) := by simpa using ha
  simp only [results, h]
  simp [Sem.run_bind, Result.andThen, e, asAddr, hp]
theorem info16 : (Tryd.prog.info? 87).map (·.size) = some mk16.size := by kernel_rfl
set_option maxHeartbeats 4000000 in
set_option maxRecDepth 100000 in
theorem makers24_q (w : World) : Calls Tryd.prog 42 #[] w fun e w' => e = .returned (.agg mk16) ∧ w' = w.alloc (.cells mk16 87) := by
  have hld := run_loadVar_new (P := Tryd.prog) w 87 mk16 16 _ Tryd.underlying87 info16
  go_enter Tryd.func42, Tryd.ntmps42
  go_wp2_with (refine wpList_store_new rfl 87 (.tmp 0) (.tmp 1) rfl _ mk16 rfl rfl info16 rfl one16 ?_)
  go_wp2
  refine bodyPost_ret (v := .agg mk16) (res16 rfl _ _ hld) rfl ?_
  exact ⟨rfl, rfl⟩
theorem ix16 (k : Nat) (hk : k < 16) : ∀ w : World, (Instr.index 87 (.agg mk16) (.int .i64 k)).run Tryd.prog w = .ok (mk16.getD k undef) w := by
  rcases k with _ | _ | _ | _ | _ | _ | _ | _ | _ | _ | _ | _ | _ | _ | _ | _ | k
  all_goals first | omega | (intro _; kernel_rfl)
theorem gd16 (k : Nat) (hk : k < 16) : ∀ w : World, (eqGuard .eql 86 (.tmp 8) (.const .nilFunc) (mk16.getD k undef) .nilFunc).run Tryd.prog w = .ok () w := by
  rcases k with _ | _ | _ | _ | _ | _ | _ | _ | _ | _ | _ | _ | _ | _ | _ | _ | k
  all_goals first | omega | (intro _; kernel_rfl)
def nil16 : Nat → Bool
  | 0 | 1 | 4 | 10 => false
  | _ => true
theorem eq16 (k : Nat) (hk : k < 16) : ∀ w : World, (binOp .eql 86 (mk16.getD k undef) .nilFunc).run Tryd.prog w = .ok (.bool (nil16 k)) w := by
  rcases k with _ | _ | _ | _ | _ | _ | _ | _ | _ | _ | _ | _ | _ | _ | _ | _ | k
  all_goals first | omega | (intro _; kernel_rfl)
theorem nil16_is (k : Nat) (hk : k < 16) : nil16 k = !Fr24.kind (k : Int) := by
  rcases k with _ | _ | _ | _ | _ | _ | _ | _ | _ | _ | _ | _ | _ | _ | _ | _ | k
  all_goals first | omega | decide
set_option maxHeartbeats 8000000 in
set_option maxRecDepth 100000 in
theorem chk24_any (ch : Int) (w : World) : Calls Tryd.prog 33 #[.int .i64 ch] w fun e w' => ∃ r : Int, e = .returned (.int .i64 r) ∧ (r == 0) = Fr24.kind ch ∧ Chg (fun _ => False) w w' := by
  have HI : Hid _ := isKind24_q ch w
  by_cases hk : 0 ≤ ch ∧ ch < 16
  · rw [decide_eq_true hk] at HI
    have HM : Hid _ := makers24_q w
    obtain ⟨k, rfl⟩ : ∃ k : Nat, ch = (k : Int) := ⟨ch.toNat, by omega⟩
    have hki : (k : Int) < 16 := by omega
    have hix := ix16 k (by omega)
    have heq := eq16 k (by omega)
    have hgd := gd16 k (by omega)
    have HB : Hid (nil16 k = !Fr24.kind (k : Int)) := nil16_is k (by omega)
    generalize mk16.getD k undef = V at *
    generalize nil16 k = N at *
    clear hk
    cases N
    all_goals
      go_enter Tryd.func33, Tryd.ntmps33
      go_wp2_with fail
      refine Calls.mono HI.out ?_
      rintro z w1 ⟨rfl, rfl⟩
      go_wp2_with fail
      refine Calls.mono HM.out ?_
      rintro z w1 ⟨rfl, rfl⟩
      go_wp2
      go_ret
      refine ⟨_, rfl, ?_, chg_one _ _⟩
      have hB := HB.out
      revert hB
      generalize Fr24.kind (k : Int) = D
      cases D <;> decide
  · rw [decide_eq_false hk] at HI
    have HN : Hid (Fr24.kind ch = false) := by
      show _ = _
      rw [Bool.eq_false_iff]
      intro f
      have := Fr24.kind_lt f
      omega
    clear hk
    go_enter Tryd.func33, Tryd.ntmps33
    go_wp2_with fail
    refine Calls.mono HI.out ?_
    rintro z w1 ⟨rfl, rfl⟩
    go_wp2
    go_ret
    exact ⟨6, rfl, by rw [HN.out]; rfl, Chg.refl _ _⟩
/-- The flags of a kind that is read here. -/
def flg (k : Int) : List Nat := if Fr24.kind k = true then [0, k.toNat] else [0, 0]
set_option maxHeartbeats 8000000 in
set_option maxRecDepth 100000 in
theorem flagsOf_any (k : Int) (w : World) : Calls Tryd.prog 22 #[.int .i64 k] w fun e w' => e = .returned (.tuple #[ab (flg k), .bool (Fr24.kind k)]) ∧ Chg (fun _ => False) w w' := by
  have c0 := chg_one w (.cells (abA [0, 0]) 53)
  have b0 := heap_alloc_last w (.cells (abA [0, 0]) 53)
  have HC : Hid (Chg (fun _ => False) w (w.alloc (.cells (abA [0, 0]) 53))) := c0
  have HB : Hid ((w.alloc (.cells (abA [0, 0]) 53)).heap[w.heap.size]? = some (.cells (abA [0, 0]) 53 (0, 0))) := b0
  have HK : Hid _ := chk24_any k (w.alloc (.cells (abA [0, 0]) 53))
  clear c0 b0
  by_cases hk : Fr24.kind k = true
  · have HF : Hid (flg k = [0, k.toNat]) := by show _ = _; unfold flg; rw [if_pos hk]
    rw [hk] at HK ⊢
    obtain ⟨n, rfl, hn⟩ : ∃ n : Nat, k = (n : Int) ∧ n ≤ 10 := ⟨k.toNat, by have := Fr24.kind_lt hk; omega, by have := Fr24.kind_lt hk; omega⟩
    have hni : (n : Int) ≤ 10 := by omega
    have HW : Hid (IntKind.u8.wrap (n : Int) = (n : Int)) := wr8 (by omega) (by omega)
    clear hk hn
    go_enter Tryd.func22, Tryd.ntmps22
    go_wp2_with fail
    refine Calls.mono HK.out ?_
    rintro z w1 ⟨r, rfl, hr, c1⟩
    have HC1 : Hid (Chg (fun _ => False) w w1) := chg_then HC.out c1
    have HB1 : Hid (w1.heap[w.heap.size]? = some (.cells (abA [0, 0]) 53 (0, 0))) := blk_keep HB.out c1 (fun f => f)
    clear c1
    go_wp2_with (refine wpList_store_row rfl 53 (.tmp 2) (.tmp 10) rfl w.heap.size (abA [0, n]) rfl rfl 53 _ HB1.out info2x rfl (abA_one _) ?_)
    go_wp2
    refine bodyPost_ret (res_ab rfl _ _ w.heap.size 53 (abA [0, n]) (0, 0) _ (setRow_heap _ _ _ _ _ _ HB1.out) Tryd.underlying53 rfl info2x) rfl ?_
    exact ⟨by rw [HF.out]; rfl, chg_setRowF HC1.out (Nat.le_refl _)⟩
  · have HF : Hid (flg k = [0, 0]) := by show _ = _; unfold flg; rw [if_neg hk]
    rw [Bool.not_eq_true] at hk
    rw [hk] at HK ⊢
    clear hk
    go_enter Tryd.func22, Tryd.ntmps22
    go_wp2_with fail
    refine Calls.mono HK.out ?_
    rintro z w1 ⟨r, rfl, hr, c1⟩
    have HC1 : Hid (Chg (fun _ => False) w w1) := chg_then HC.out c1
    have HB1 : Hid (w1.heap[w.heap.size]? = some (.cells (abA [0, 0]) 53 (0, 0))) := blk_keep HB.out c1 (fun f => f)
    clear c1
    go_wp2_with (refine wpList_store_row rfl 53 (.tmp 2) (.tmp 7) rfl w.heap.size (abA [0, 0]) rfl rfl 53 _ HB1.out info2x rfl (abA_one _) ?_)
    go_wp2
    refine bodyPost_ret (res_ab rfl _ _ w.heap.size 53 (abA [0, 0]) (0, 0) _ (setRow_heap _ _ _ _ _ _ HB1.out) Tryd.underlying53 rfl info2x) rfl ?_
    exact ⟨by rw [HF.out]; rfl, chg_setRowF HC1.out (Nat.le_refl _)⟩
end Go.Proofs.YtikokgngkagieaaDoor
