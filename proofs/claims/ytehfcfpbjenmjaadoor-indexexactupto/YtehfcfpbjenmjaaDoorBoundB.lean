/- Several texts in one, none of a statement by itself: Wm, Wb, Ct, By, Sm. -/
import Derived.Test.YtehfcfpbjenmjaaDoorRc
import Derived.Test.YtehfcfpbjenmjaaDoorBoundA
import Derived.BigQuiet
import Derived.Deep.QuietTactic
import Derived.Laws.AppendOwnNone
/- The mathematics of windows: the last bytes, what is copied; of no statement by itself. -/
namespace Go.Proofs.YtehfcfpbjenmjaaDoor
set_option linter.unusedVariables false

/-- How many bytes a window of that size holds; the byte that came d bytes ago; what is copied. -/
def fullN (size : Nat) (bs : List Nat) : Nat := min bs.length size
def backB (bs : List Nat) (d : Nat) : Nat := bs.getD (bs.length - d) 0
def copyL (d : Nat) : List Nat → Nat → List Nat
  | _, 0 => []
  | bs, n + 1 => backB bs d :: copyL d (bs ++ [backB bs d]) n
theorem copyL_len (d : Nat) : ∀ (n : Nat) (bs : List Nat), (copyL d bs n).length = n
  | 0, _ => rfl
  | n + 1, bs => by simp [copyL, copyL_len d n]
theorem copyL_add (d : Nat) : ∀ (a b : Nat) (bs : List Nat), copyL d bs (a + b) = copyL d bs a ++ copyL d (bs ++ copyL d bs a) b
  | 0, b, bs => by simp [copyL]
  | a + 1, b, bs => by
    rw [show a + 1 + b = (a + b) + 1 by omega]
    simp only [copyL, copyL_add d a b, List.cons_append, List.append_assoc, List.nil_append]
theorem copyL_snoc (d n : Nat) (bs : List Nat) : copyL d bs (n + 1) = copyL d bs n ++ [backB (bs ++ copyL d bs n) d] := by
  rw [copyL_add d n 1 bs]
  rfl
theorem backB_mem {bs : List Nat} {d : Nat} (h1 : 1 ≤ d) (h2 : d ≤ bs.length) : backB bs d ∈ bs := by
  unfold backB
  have h : bs.length - d < bs.length := by omega
  rw [List.getD_eq_getElem?_getD, List.getElem?_eq_getElem h]
  exact List.getElem_mem h
theorem backB_at {bs : List Nat} {d : Nat} (h1 : 1 ≤ d) (h2 : d ≤ bs.length) : bs[bs.length - d]? = some (backB bs d) := by
  unfold backB
  have h : bs.length - d < bs.length := by omega
  rw [List.getD_eq_getElem?_getD, List.getElem?_eq_getElem h]
  rfl
theorem copyL_dig {d : Nat} (h1 : 1 ≤ d) : ∀ (n : Nat) {bs : List Nat}, d ≤ bs.length → Rc.Dig bs → Rc.Dig (copyL d bs n)
  | 0, _, _, _ => fun x hx => (List.not_mem_nil hx).elim
  | n + 1, bs, h2, hd => by
    have hb := hd _ (backB_mem h1 h2)
    have hd2 : Rc.Dig (bs ++ [backB bs d]) := fun x hx => by
      rcases List.mem_append.1 hx with f | f
      · exact hd x f
      · rw [List.mem_singleton.1 f]; exact hb
    have ih := copyL_dig h1 n (bs := bs ++ [backB bs d]) (by rw [List.length_append]; omega) hd2
    intro x hx
    rcases List.mem_cons.1 hx with f | f
    · rw [f]; exact hb
    · exact ih x f
/-- A byte that is copied is the one d places ahead of it, among all that came. -/
theorem copyL_at {d : Nat} (h1 : 1 ≤ d) : ∀ (n : Nat) {bs : List Nat} (i : Nat), d ≤ bs.length → i < n → (copyL d bs n)[i]? = (bs ++ copyL d bs n)[bs.length + i - d]?
  | 0, bs, i, _, hi => absurd hi (Nat.not_lt_zero _)
  | n + 1, bs, 0, h2, hi => by
    rw [List.getElem?_append_left (by omega), show bs.length + 0 - d = bs.length - d by omega, backB_at h1 h2]
    rfl
  | n + 1, bs, i + 1, h2, hi => by
    have ih := copyL_at h1 n (bs := bs ++ [backB bs d]) i (by rw [List.length_append]; omega) (by omega)
    show (copyL d (bs ++ [backB bs d]) n)[i]? = _
    rw [ih, List.append_assoc, List.length_append, List.length_singleton, show bs.length + 1 + i - d = bs.length + (i + 1) - d by omega]
    rfl
theorem copyL_first {d n i : Nat} {bs : List Nat} (h1 : 1 ≤ d) (h2 : d ≤ bs.length) (hi : i < n) (hd : i < d) : (copyL d bs n)[i]? = bs[bs.length - d + i]? := by
  rw [copyL_at h1 n i h2 hi, List.getElem?_append_left (by omega), show bs.length + i - d = bs.length - d + i by omega]
theorem copyL_then {d n i : Nat} {bs : List Nat} (h1 : 1 ≤ d) (h2 : d ≤ bs.length) (hi : i < n) (hd : d ≤ i) : (copyL d bs n)[i]? = (copyL d bs n)[i - d]? := by
  rw [copyL_at h1 n i h2 hi, List.getElem?_append_right (by omega), show bs.length + i - d - bs.length = i - d by omega]
end Go.Proofs.YtehfcfpbjenmjaaDoor

/- What the window's texts stand on: numbers as bytes, lists of one's own, strings made of them; of no statement by itself. -/
namespace Go.Proofs.YtehfcfpbjenmjaaDoor
open Go.RowKit
set_option linter.unusedVariables false

/-- A number of 64 bits. -/
def I64 (p : Int) : Prop := -9223372036854775808 ≤ p ∧ p ≤ 9223372036854775807
/-- Natural numbers as the model's. -/
def nums (l : List Nat) : List Int := l.map fun (n : Nat) => (n : Int)
theorem nums_len (l : List Nat) : (nums l).length = l.length := by simp [nums]
theorem nums_at (l : List Nat) (j : Nat) (h : j < l.length) : (nums l)[j]'(by rw [nums_len]; exact h) = (l[j] : Int) := by simp [nums]
theorem infoU8 : (Tryd.prog.info? 5).map (fun i => (i.zero, i.size, i.bytes)) = some (some (.int .u8 0), 1, 1) := by kernel_rfl
theorem own_from {w : World} {B : Nat} {e : TypeId} {ad : Option Addr} {c n : Nat} {xs : List Value} (h : w.ownsRow B e 1 (.slice ad n c) n xs) : From w ad n c 1 xs := by
  refine ⟨h.1, ?_⟩
  rcases h.2 with ⟨e0, e1⟩ | ⟨g, cap, cur, e0, _⟩
  · simp only [Value.slice.injEq] at e0
    exact .inl ⟨e0.1, e1, e0.2.2⟩
  · simp only [Value.slice.injEq, true_and] at e0
    obtain ⟨rfl, rfl⟩ := e0
    exact .inr ⟨_, rfl, fun j u hu => h.cells (g := g) rfl j u hu⟩
theorem From.keep {w w' : World} {ad : Option Addr} {m c size : Nat} {news : List Value} (h : From w ad m c size news) (hc : Chg (fun _ => False) w w') : From w' ad m c size news := by
  refine ⟨h.1, ?_⟩
  rcases h.2 with e | ⟨x, rfl, hx⟩
  · exact .inl e
  · exact .inr ⟨x, rfl, fun j u hu => cell_chg (hx j u hu) hc⟩
theorem own_empty (w : World) (t : TypeId) : (w.alloc (.cells #[] t)).ownsRow w.heap.size t 1 (.slice (some ⟨w.heap.size, 0, none⟩) 0 0) 0 [] :=
  ⟨rfl, .inr ⟨w.heap.size, 0, #[], rfl, Nat.le_refl _, heap_alloc_last w _, Nat.le_refl _, by unfold maxLen; omega, rfl, rfl⟩⟩
theorem step_append_moved {P : Program} {ops : Array Oper} {o : Oper} {a : Act} {w : World} {K : Act → World → Prop} {Q : Exit → Act → World → Prop} {E : Prop} (hgd : o.guard = none) (s x : Operand) (t : TypeId)
    (ho : o.op = .call { callee := .builtin .append, args := #[s, x], argTypes := #[t, t] })
    (B : Nat) (e : TypeId) (i : TypeInfo) (z : Value) (size bytes : Nat) (ht : P.underlying t = some (.slice e)) (hi : P.info? e = some i) (hz : i.zero = some z)
    (hsize : i.size = size) (hby : i.bytes = bytes) (hzs : z.cells.size = size) (hsz : 0 < size)
    (v : Value) (n : Nat) (xs : List Value) (hs : a.eval s = v) (ad : Option Addr) (m c : Nat) (hx : a.eval x = .slice ad m c) (news : List Value)
    (hown : w.ownsRow B e size v n xs) (hsrc : From w ad m c size news) (h1 : ∀ u ∈ news, u.oneCell' = true)
    (h63 : n + m ≤ maxLen) (hbytes : (n + m) * bytes ≤ 140737488355328) (hB : B ≤ w.heap.size)
    (h : ∀ v' w', w'.ownsRow B e size v' (n + m) (xs ++ news) → w.grownBy w' v.ownBlock → Moved w v v' → K (a.put o.dst v') w') :
    if Region.wanted o (yielded ops a.tmps) = true then Oper.wp P o a w K Q else E := by
  have hw : Region.wanted o (yielded ops a.tmps) = true := by simp [Region.wanted, hgd]
  rw [if_pos hw]
  obtain ⟨v', w', hr, h2, h3, h4⟩ := run_append_moved (P := P) w B t o.type e i z size bytes ht hi hz hsize hby hzs hsz v n xs hown ad m c news hsrc h1 h63 hbytes hB
  unfold Oper.wp
  simp [execOp, ho, resolve, invoke, builtin, hs, hx, hr, Result.andThen]
  exact h v' w' h2 h3 h4
theorem row8_own {w : World} {B : Nat} {ad : Option Addr} {c n : Nat} {xs : List Int} (h : w.ownsRow B 5 1 (.slice ad n c) n (ins .u8 xs)) : Row8 w ad n c xs := by
  have hl : n = xs.length := by have := h.1; simp [ins] at this; omega
  refine ⟨hl.symm, ?_⟩
  rcases h.2 with ⟨e0, e1⟩ | ⟨g, cap, cur, e0, _⟩
  · simp only [Value.slice.injEq] at e0
    exact .inl ⟨e0.1, e1, e0.2.2⟩
  · simp only [Value.slice.injEq, true_and] at e0
    obtain ⟨rfl, rfl⟩ := e0
    exact .inr ⟨_, rfl, fun j u hu => h.cells (g := g) rfl j u hu⟩
theorem conv_own {w : World} {B : Nat} {ad : Option Addr} {c n : Nat} {xs : List Int} (h : w.ownsRow B 5 1 (.slice ad n c) n (ins .u8 xs)) :
    (convert 22 9 (.slice ad n c)).run Tryd.prog w = .ok (.string (strOfNums xs)) w := Bk.conv8_here (row8_own h)
theorem form1 {w : World} {B : Nat} {t : TypeId} {lv : Value} {n : Nat} {xs : List Value} (h : w.ownsRow B t 1 lv n xs) : ∃ a c, lv = .slice a n c := by
  rcases h.2 with ⟨rfl, rfl⟩ | ⟨g, cap, cur, rfl, _⟩
  · exact ⟨none, 0, rfl⟩
  · exact ⟨_, cap, rfl⟩
theorem wr64 {p : Int} (h : 0 ≤ p) (h2 : p ≤ 4611686018427387904) : IntKind.i64.wrap p = p := by simp [IntKind.wrap, IntKind.signed, IntKind.bits]; omega
theorem quiet_of {P : Program} {f : FuncId} {args : Array Value} {X : Ending} {w : World} {k : Nat} (h : Calls P f args (w.drewN k) fun e w' => e = X ∧ w.drewN k = w') : Calls P f args (w.drewN k) fun e w'' => e = X ∧ ∃ m, w'' = w.drewN m :=
  h.mono fun _ _ ⟨h1, h2⟩ => ⟨h1, k, h2.symm⟩
theorem moved_from {w w1 : World} {v v2 : Value} (hs : w.heap.size ≤ w1.heap.size) (hm : Moved w1 v v2) : Moved w v v2 := fun g e => by
  rcases hm g e with e | e
  · exact .inl e
  · exact .inr (by omega)
/-- A list of numbers in memory. -/
def IntsL (w : World) (a : Option Addr) (l : List Int) : Prop := ∀ (k : Nat) (i : Int), l[k]? = some i → ∃ b off, a = some ⟨b, off, none⟩ ∧ w.cell? ⟨b, off + k, none⟩ = some (.int .i64 i)
theorem IntsL.new {w w' : World} {a : Option Addr} {l : List Int} (h : IntsL w a l) (hc : Chg (fun _ => False) w w') : IntsL w' a l := fun k i hk => by
  obtain ⟨b, off, e, h1⟩ := h k i hk
  exact ⟨b, off, e, cell_chg h1 hc⟩
theorem nums_append (a b : List Nat) : nums (a ++ b) = nums a ++ nums b := by simp [nums]
theorem ins_append (a b : List Int) : ins .u8 (a ++ b) = ins .u8 a ++ ins .u8 b := by simp [ins]
theorem ins_map (a : List Int) : ins .u8 a = a.map (Value.int .u8) := rfl
theorem cell00 {w : World} {a : Nat} {x : Value} {t : TypeId} (h : w.heap[a]? = some (.cells #[x] t (0, 0))) : w.cell? ⟨a, 0, none⟩ = some x := by simp [World.cell?, h]
theorem addr_add (x : Addr) (i j : Nat) : (x.add i).add j = x.add (i + j) := by
  unfold Addr.add
  by_cases hi : i = 0 <;> by_cases hj : j = 0 <;> simp [hi, hj, Nat.add_assoc]
theorem row8_cut {w : World} {ad : Option Addr} {m c : Nat} {xs : List Int} (h : Row8 w ad m c xs) (hmc : m ≤ c) (lo n c' : Nat) (hn : lo + n ≤ m) (hc' : c = 0 → c' = 0) :
    Row8 w (if c = lo then ad else ad.map (·.add lo)) n c' ((xs.drop lo).take n) := by
  have hl := h.1
  refine ⟨by simp; omega, ?_⟩
  rcases h.2 with ⟨rfl, rfl, rfl⟩ | ⟨x, rfl, hx⟩
  · refine .inl ⟨by simp, by omega, hc' rfl⟩
  · by_cases e : c = lo
    · rw [if_pos e]
      have hn0 : n = 0 := by omega
      subst hn0
      exact .inr ⟨x, rfl, fun j u hu => by simp at hu⟩
    · rw [if_neg e]
      refine .inr ⟨_, rfl, fun j u hu => ?_⟩
      rw [List.map_take, List.map_drop, List.getElem?_take] at hu
      split at hu
      · rw [List.getElem?_drop] at hu
        have := hx (lo + j) u hu
        rw [addr_add]
        exact this
      · cases hu
theorem own_cap {w : World} {B : Nat} {e : TypeId} {ad : Option Addr} {c n : Nat} {xs : List Value} (h : w.ownsRow B e 1 (.slice ad n c) n xs) : n ≤ c := by
  rcases h.2 with ⟨e0, e1⟩ | ⟨g, cap, cur, e0, _, _, hc, _⟩
  · omega
  · simp only [Value.slice.injEq, true_and] at e0
    omega
theorem nums_cut (bs : List Nat) (lo n : Nat) : ((nums bs).drop lo).take n = nums ((bs.drop lo).take n) := by simp [nums, List.map_take, List.map_drop]
end Go.Proofs.YtehfcfpbjenmjaaDoor

/- Cuts of lists of any kind; of no statement by themselves. -/
namespace Go.Proofs.YtehfcfpbjenmjaaDoor
open Go.RowKit
set_option linter.unusedVariables false

/-- Where a cut begins. -/
def cutZ (ad : Option Addr) (c lo size : Nat) : Option Addr := if c = lo then ad else ad.map (·.add (lo * size))
theorem addr_add00 (x : Addr) : x.add 0 = x := by unfold Addr.add; simp
theorem run_cutZ_lo {T E : TypeId} {size : Nat} (hu : Tryd.prog.underlying T = some (.slice (Tryd.prog.elem T))) (he : Tryd.prog.elem T = E) (hs : (sizeOf E).run Tryd.prog = fun w => .ok size w) (ad : Option Addr) (m c k : Nat) (w : World) (hk : k ≤ m) : (Instr.sliceAt T (.slice ad m c) (some (.int .i64 (k : Int))) none none).run Tryd.prog w = .ok (.slice (cutZ ad c k size) (m - k) (c - k)) w := by
  rw [run_sliceAt_slice w T _ _ _ _ hu, run_slice_l w T ad m c hu .i64 (k : Int) (by omega) (by omega), he, hs]
  unfold cutZ sliced
  simp [Result.andThen]
theorem run_cutZ_hi {T E : TypeId} {size : Nat} (hu : Tryd.prog.underlying T = some (.slice (Tryd.prog.elem T))) (he : Tryd.prog.elem T = E) (hs : (sizeOf E).run Tryd.prog = fun w => .ok size w) (ad : Option Addr) (m c k : Nat) (w : World) (hk : k ≤ c) : (Instr.sliceAt T (.slice ad m c) none (some (.int .i64 (k : Int))) none).run Tryd.prog w = .ok (.slice ad k c) w := by
  rw [run_sliceAt_slice w T _ _ _ _ hu, run_slice_h w T ad m c hu .i64 (k : Int) (by omega) (by omega), he, hs]
  unfold sliced
  simp [Result.andThen]
  cases ad <;> simp [addr_add00]
theorem owns_keepZ {w w' : World} {B size : Nat} {e : TypeId} {v : Value} {n : Nat} {xs : List Value} (h : w.ownsRow B e size v n xs) (hc : Chg (fun _ => False) w w') : w'.ownsRow B e size v n xs := by
  refine ⟨h.1, ?_⟩
  rcases h.2 with hn | ⟨g, cap, cur, rfl, hb, hgg, rest⟩
  · exact .inl hn
  · exact .inr ⟨g, cap, cur, rfl, hb, (hc.block g (lt_of_blk hgg) (fun f => f)).trans hgg, rest⟩
/-- The end of a list of one's own, as a source. -/
theorem from_end {w : World} {B size : Nat} {t : TypeId} {ad : Option Addr} {n c k : Nat} {xs : List Value} (h : w.ownsRow B t size (.slice ad n c) n xs) (hk : k ≤ n) : From w (cutZ ad c k size) (n - k) (c - k) size (xs.drop (k * size)) := by
  refine ⟨by rw [List.length_drop, h.1, Nat.sub_mul], ?_⟩
  rcases h.2 with ⟨e0, e1⟩ | ⟨g, cap, cur, e0, e1⟩
  · simp only [Value.slice.injEq] at e0
    obtain ⟨rfl, rfl, rfl⟩ := e0
    obtain rfl : k = 0 := by omega
    exact .inl ⟨by unfold cutZ; simp, rfl, rfl⟩
  · simp only [Value.slice.injEq, true_and] at e0
    obtain ⟨rfl, rfl⟩ := e0
    have hc := e1.2.2.1
    unfold cutZ
    by_cases e : c = k
    · rw [if_pos e]
      refine .inr ⟨_, rfl, fun j u hu => ?_⟩
      exfalso
      have h1 := (List.getElem?_eq_some_iff.1 hu).1
      rw [List.length_drop, h.1] at h1
      obtain rfl : k = n := by omega
      omega
    · rw [if_neg e]
      refine .inr ⟨_, rfl, fun j u hu => ?_⟩
      rw [List.getElem?_drop] at hu
      have h1 := h.cells (g := g) rfl _ _ hu
      rw [addk, Nat.zero_add] at h1
      show w.cell? (((⟨g, 0, none⟩ : Addr).add (k * size)).add j) = some u
      rw [addk, addk, Nat.zero_add]
      exact h1
theorem from_front {w : World} {B size : Nat} {t : TypeId} {ad : Option Addr} {n c k : Nat} {xs : List Value} (h : w.ownsRow B t size (.slice ad n c) n xs) (hk : k ≤ n) : From w ad k c size (xs.take (k * size)) := by
  have hl : (xs.take (k * size)).length = k * size := by
    rw [List.length_take, h.1]
    exact Nat.min_eq_left (Nat.mul_le_mul_right _ hk)
  refine ⟨hl, ?_⟩
  rcases h.2 with ⟨e0, e1⟩ | ⟨g, cap, cur, e0, e1⟩
  · simp only [Value.slice.injEq] at e0
    obtain ⟨rfl, rfl, rfl⟩ := e0
    exact .inl ⟨rfl, by omega, rfl⟩
  · simp only [Value.slice.injEq, true_and] at e0
    obtain ⟨rfl, rfl⟩ := e0
    refine .inr ⟨_, rfl, fun j u hu => ?_⟩
    have h2 := (List.getElem?_eq_some_iff.1 hu).1
    rw [List.getElem?_take_of_lt (by omega)] at hu
    exact h.cells (g := g) rfl _ _ hu
end Go.Proofs.YtehfcfpbjenmjaaDoor

/- Lists of bytes of one's own; of no statement by themselves. -/
namespace Go.Proofs.YtehfcfpbjenmjaaDoor
open Go.RowKit
set_option linter.unusedVariables false
set_option linter.unusedSimpArgs false
/-- Bytes of one's own. -/
def ByO (w : World) (B : Nat) (v : Value) (bs : List Nat) : Prop := w.ownsRow B 5 1 v bs.length (ins .u8 (nums bs))
theorem info5u : (Tryd.prog.info? 5).map (fun i => (i.zero, i.size, i.bytes)) = some (some (.int .u8 0), 1, 1) := by kernel_rfl
theorem elemBy : Tryd.prog.elem 22 = 5 := by kernel_rfl
theorem sizeBy : (sizeOf 5).run Tryd.prog = fun w => .ok 1 w := by kernel_rfl
theorem undBy : Tryd.prog.underlying 22 = some (.slice (Tryd.prog.elem 22)) := by kernel_rfl
theorem oneB (xs : List Nat) : ∀ u ∈ (nums xs).map (Value.int .u8), u.oneCell' = true := fun u hu => by
  obtain ⟨x, _, rfl⟩ := List.mem_map.1 hu
  rfl
/-- Two lists of bytes one behind the other, of one's own. -/
theorem byO_app {w : World} {B : Nat} {v : Value} {n : Nat} {a b : List Nat} (h : w.ownsRow B 5 1 v n ((nums a).map (Value.int .u8) ++ (nums b).map (Value.int .u8))) : ByO w B v (a ++ b) := by
  have hl := h.1
  unfold ByO
  rw [show ins .u8 (nums (a ++ b)) = (nums a).map (Value.int .u8) ++ (nums b).map (Value.int .u8) by simp [ins, nums]]
  have e : (a ++ b).length = n := by simp [nums] at hl ⊢; omega
  rw [e]
  exact h
theorem byO_row {w : World} {B n : Nat} {ad : Option Addr} {c : Nat} {bs : List Nat} (h : ByO w B (.slice ad n c) bs) : Row8 w ad n c (nums bs) ∧ bs.length = n ∧ n ≤ c := by
  have hf : bs.length = n := by
    rcases h.2 with ⟨e, e2⟩ | ⟨g, cap, cur, e, _⟩
    · simp only [Value.slice.injEq] at e; omega
    · simp only [Value.slice.injEq] at e; omega
  unfold ByO at h
  rw [hf] at h
  exact ⟨row8_own h, hf, own_cap h⟩
theorem byO_form {w : World} {B : Nat} {v : Value} {bs : List Nat} (h : ByO w B v bs) : ∃ ad c, v = .slice ad bs.length c := form1 h
theorem ByO.new {w w' : World} {B : Nat} {v : Value} {bs : List Nat} (h : ByO w B v bs) (hc : Chg (fun _ => False) w w') : ByO w' B v bs := ownsRow_keep h hc (fun _ _ f => f)
theorem row8_take {w : World} {ad : Option Addr} {n c i : Nat} {bs : List Nat} (h : Row8 w ad n c (nums bs)) (hi : i ≤ n) : Row8 w ad i c (nums (bs.take i)) := by
  have hl := h.1
  rw [nums_len] at hl
  refine ⟨by rw [nums_len, List.length_take]; omega, ?_⟩
  rcases h.2 with ⟨e1, e2, e3⟩ | ⟨x, e, hx⟩
  · exact .inl ⟨e1, by omega, e3⟩
  · refine .inr ⟨x, e, fun j u hu => hx j u ?_⟩
    rw [show nums (bs.take i) = (nums bs).take i by simp [nums, List.map_take]] at hu
    rw [List.map_take, List.getElem?_take] at hu
    split at hu
    · exact hu
    · cases hu
theorem wr8 {x : Int} (h0 : 0 ≤ x) (h1 : x ≤ 255) : IntKind.u8.wrap x = x := by simp [IntKind.wrap, IntKind.signed, IntKind.bits]; omega
theorem byO_nil (w : World) (B : Nat) : ByO w B (.slice none 0 0) [] := World.ownsRow_nil _ _ _ _
theorem byO_lit (w0 : World) (o : Obj) (l : List Nat) (n : Nat) (hn : l.length = n) (hm : n ≤ 1000) (vs : Array Value) (hv : vs.toList = ins .u8 (nums l)) : ByO ((w0.alloc o).alloc (.cells vs 5)) w0.heap.size (.slice (some ⟨w0.heap.size + 1, 0, none⟩) n n) l := by
  have e : (w0.alloc o).heap.size = w0.heap.size + 1 := by simp
  rw [← e]
  refine owns_base (B := (w0.alloc o).heap.size) ?_ (by omega)
  rw [hn]
  generalize w0.alloc o = w at *
  have h := World.ownsRow_lit (base := w.heap.size) (e := 5) (size := 1) w vs n (Nat.le_refl _) (by unfold maxLen; omega) (by rw [← Array.length_toList, hv, ins_len, nums_len, hn]; omega)
  rw [hv] at h
  exact h
/-- Bytes by their numbers. -/
theorem row8_at {w : World} {ad : Option Addr} {n c : Nat} {bs : List Nat} (h : Row8 w ad n c (nums bs)) (hn : 0 < n) : ∃ b off, ad = some ⟨b, off, none⟩ ∧ ∀ i, i < n → w.cell? ⟨b, off + i, none⟩ = some (.int .u8 ((bs.getD i 0 : Nat) : Int)) := by
  have hl := h.1
  rw [nums_len] at hl
  rcases h.2 with ⟨_, e, _⟩ | ⟨x, e, hx⟩
  · omega
  · have key : ∀ i, i < n → w.cell? (x.add i) = some (.int .u8 ((bs.getD i 0 : Nat) : Int)) := fun i hi => by
      refine hx i _ ?_
      have h9 : bs[i]? = some (bs.getD i 0) := by rw [List.getD_eq_getElem?_getD, List.getElem?_eq_getElem (by omega)]; rfl
      simp only [nums, List.map_map, List.getElem?_map, h9]
      rfl
    obtain ⟨b, off, sp⟩ := x
    have hs : sp = none := by
      have q := key 0 hn
      simp [Addr.add] at q
      exact World.cell?_spot q
    subst hs
    refine ⟨b, off, e, fun i hi => ?_⟩
    have q := key i hi
    rw [addk] at q
    exact q
end Go.Proofs.YtehfcfpbjenmjaaDoor

/- Mathematics of states, slots and properties; of no statement by itself. -/
namespace Go.Proofs.YtehfcfpbjenmjaaDoor
set_option linter.unusedVariables false

/-- A state; a symbol; properties. -/
structure Stt where
  n : Int
  a : Int
  b : Int
  c : Int
  d : Int
structure Sym where
  k : Int
  y : Int
  l : Int
  d : Int
structure Prp where
  lc : Int
  lp : Int
  pb : Int
namespace St12
def st0 : Stt := ⟨0, 1, 1, 1, 1⟩
def zero : Stt := ⟨0, 0, 0, 0, 0⟩
def okR (x : Int) : Prop := 1 ≤ x ∧ x ≤ 4294967295
instance (x : Int) : Decidable (okR x) := by unfold okR; exact inferInstance
def right (s : Stt) : Prop := (0 ≤ s.n ∧ s.n ≤ 11) ∧ okR s.a ∧ okR s.b ∧ okR s.c ∧ okR s.d
instance (s : Stt) : Decidable (right s) := by unfold right; exact inferInstance
/-- 0, or what is wrong with a symbol. -/
def formed (y : Sym) : Int :=
  if y.k = 1 ∨ y.k = 4 then 0
  else if y.k = 2 then (if (2 ≤ y.l ∧ y.l ≤ 273) ∧ 1 ≤ y.d ∧ y.d ≤ 4294967295 then 0 else 7)
  else if y.k = 3 then (if (2 ≤ y.l ∧ y.l ≤ 273) ∧ 0 ≤ y.d ∧ y.d ≤ 3 then 0 else 7)
  else 6
/-- The number behind a kind. -/
def mvd (n k : Int) : Int :=
  if k = 1 then (if n < 4 then 0 else if n < 10 then n - 3 else n - 6)
  else if 7 ≤ n then (if k = 2 then 10 else 11)
  else if k = 2 then 7 else if k = 3 then 8 else 9
/-- The distances behind a symbol. -/
def reps (s : Stt) (y : Sym) : Int × Int × Int × Int :=
  if y.k = 2 then (y.d, s.a, s.b, s.c)
  else if y.k = 3 then (if y.d = 1 then (s.b, s.a, s.c, s.d) else if y.d = 2 then (s.c, s.a, s.b, s.d) else if y.d = 3 then (s.d, s.a, s.b, s.c) else (s.a, s.b, s.c, s.d))
  else (s.a, s.b, s.c, s.d)
def nxt (s : Stt) (y : Sym) : Stt × Int :=
  if ¬ right s then (zero, 7)
  else if formed y ≠ 0 then (zero, formed y)
  else (⟨mvd s.n y.k, (reps s y).1, (reps s y).2.1, (reps s y).2.2.1, (reps s y).2.2.2⟩, 0)
def lit (n : Int) : Bool := decide (0 ≤ n) && decide (n ≤ 6)
theorem formed_vals (y : Sym) : formed y = 0 ∨ formed y = 6 ∨ formed y = 7 := by
  unfold formed
  split
  · exact .inl rfl
  · split
    · split
      · exact .inl rfl
      · exact .inr (.inr rfl)
    · split
      · split
        · exact .inl rfl
        · exact .inr (.inr rfl)
      · exact .inr (.inl rfl)
theorem formed_kind {y : Sym} (h : formed y = 0) : y.k = 1 ∨ (y.k = 2 ∧ 2 ≤ y.l ∧ y.l ≤ 273 ∧ 1 ≤ y.d ∧ y.d ≤ 4294967295) ∨ (y.k = 3 ∧ 2 ≤ y.l ∧ y.l ≤ 273 ∧ 0 ≤ y.d ∧ y.d ≤ 3) ∨ y.k = 4 := by
  unfold formed at h
  split at h
  · next h1 => rcases h1 with h1 | h1 <;> simp [h1]
  · split at h
    · next h2 =>
      split at h
      · next h3 => exact .inr (.inl ⟨h2, h3.1.1, h3.1.2, h3.2.1, h3.2.2⟩)
      · simp at h
    · split at h
      · next h2 =>
        split at h
        · next h3 => exact .inr (.inr (.inl ⟨h2, h3.1.1, h3.1.2, h3.2.1, h3.2.2⟩))
        · simp at h
      · simp at h
theorem nxt_right {s : Stt} {y : Sym} (h : right s) (hf : formed y = 0) : (nxt s y).2 = 0 ∧ right (nxt s y).1 := by
  have hk := formed_kind hf
  obtain ⟨⟨h1, h2⟩, ha, hb, hc, hd⟩ := h
  unfold nxt
  rw [if_neg (by simp; exact ⟨⟨h1, h2⟩, ha, hb, hc, hd⟩), if_neg (by simp [hf])]
  refine ⟨rfl, ?_⟩
  have hm : 0 ≤ mvd s.n y.k ∧ mvd s.n y.k ≤ 11 := by
    unfold mvd
    split
    · split
      · omega
      · split <;> omega
    · split
      · split <;> omega
      · split
        · omega
        · split <;> omega
  refine ⟨hm, ?_⟩
  unfold reps
  split
  · next e =>
    have : okR y.d := by
      rcases hk with k | k | k | k
      · omega
      · exact ⟨k.2.2.2.1, k.2.2.2.2⟩
      · omega
      · omega
    exact ⟨this, ha, hb, hc⟩
  · split
    · split
      · exact ⟨hb, ha, hc, hd⟩
      · split
        · exact ⟨hc, ha, hb, hd⟩
        · split
          · exact ⟨hd, ha, hb, hc⟩
          · exact ⟨ha, hb, hc, hd⟩
    · exact ⟨ha, hb, hc, hd⟩
/-- Bits of a slot; its least distance. -/
def bitsN (i : Nat) : Nat := if i < 4 then 0 else i / 2 - 1
def least : Nat → Nat
  | 0 => 1
  | i + 1 => least i + 2 ^ bitsN i
/-- The last of the first k slots whose least distance is not above. -/
def slotK (d : Nat) : Nat → Nat
  | 0 => 0
  | k + 1 => if least k ≤ d then k else slotK d k
def slotN (d : Nat) : Nat := slotK d 64
theorem least_lt (i : Nat) : least i < least (i + 1) := by
  show least i < least i + 2 ^ bitsN i
  have := Nat.two_pow_pos (bitsN i)
  omega
theorem least_mono {i j : Nat} (h : i ≤ j) : least i ≤ least j := by
  induction h with
  | refl => exact Nat.le_refl _
  | step _ ih => exact Nat.le_trans ih (Nat.le_of_lt (least_lt _))
theorem slotK_spec {d : Nat} (hd : 1 ≤ d) : ∀ k, 0 < k → slotK d k < k ∧ least (slotK d k) ≤ d ∧ ∀ j, slotK d k < j → j < k → d < least j
  | 0, h => by omega
  | k + 1, _ => by
    unfold slotK
    split
    · next h => exact ⟨by omega, h, fun j h1 h2 => by omega⟩
    · next h =>
      rcases Nat.eq_zero_or_pos k with e | e
      · subst e
        exact absurd hd (by simpa [least] using h)
      · obtain ⟨h1, h2, h3⟩ := slotK_spec hd k e
        refine ⟨by omega, h2, fun j g1 g2 => ?_⟩
        by_cases ej : j = k
        · subst ej; omega
        · exact h3 j g1 (by omega)
theorem slotN_lt {d : Nat} (hd : 1 ≤ d) : slotN d < 64 := (slotK_spec hd 64 (by omega)).1
theorem slotN_le {d : Nat} (hd : 1 ≤ d) : least (slotN d) ≤ d := (slotK_spec hd 64 (by omega)).2.1
theorem least64 : least 64 = 4294967297 := by decide +kernel
theorem slotN_top {d : Nat} (hd : 1 ≤ d) (hm : d ≤ 4294967295) : d < least (slotN d) + 2 ^ bitsN (slotN d) := by
  obtain ⟨h1, _, h3⟩ := slotK_spec hd 64 (by omega)
  show d < least (slotN d + 1)
  by_cases e : slotN d + 1 < 64
  · exact h3 _ (by show slotN d < slotN d + 1; omega) e
  · have : slotN d + 1 = 64 := by have := slotN_lt hd; omega
    rw [this, least64]
    omega
theorem slotN_is {d i : Nat} (hi : i < 64) (h1 : least i ≤ d) (h2 : d < least (i + 1)) : slotN d = i := by
  have hd : 1 ≤ d := Nat.le_trans (least_mono (Nat.zero_le i)) h1
  have a1 := slotN_le hd
  have a2 := slotN_lt hd
  have a3 := (slotK_spec hd 64 (by omega)).2.2
  by_cases e : slotN d < i
  · have := a3 i e hi
    omega
  · by_cases e2 : i < slotN d
    · have := least_mono (i := i + 1) (j := slotN d) e2
      omega
    · omega
theorem slotN_mono {a b : Nat} (ha : 1 ≤ a) (hab : a ≤ b) : slotN a ≤ slotN b := by
  have a1 := slotN_le ha
  have a2 := slotN_lt ha
  have a3 := (slotK_spec (d := b) (by omega) 64 (by omega)).2.2
  by_cases e : slotN b < slotN a
  · have := a3 (slotN a) e a2
    omega
  · omega
theorem bitsN_le {i : Nat} (hi : i < 64) : bitsN i ≤ 30 := by unfold bitsN; split <;> omega
theorem least_le {i : Nat} (hi : i < 64) : least i ≤ 3221225473 := by
  have := least_mono (i := i) (j := 63) (by omega)
  have e : least 63 = 3221225473 := by decide +kernel
  omega
/-- What Slot and Range answer. -/
def slotA (d : Int) : Int × Int := if 1 ≤ d ∧ d ≤ 4294967295 then ((slotN d.toNat : Int), 0) else (0, 7)
def rangeA (i : Int) : Int × Int × Int := if 0 ≤ i ∧ i ≤ 63 then ((least i.toNat : Int), (bitsN i.toNat : Int), 0) else (0, 0, 7)
/-- Properties. -/
def allow (p : Prp) : Prop := (0 ≤ p.lc ∧ 0 ≤ p.lp ∧ 0 ≤ p.pb) ∧ p.lc + p.lp ≤ 4 ∧ p.pb ≤ 4
instance (p : Prp) : Decidable (allow p) := by unfold allow; exact inferInstance
def byteP (p : Prp) : Int × Int := if allow p then ((5 * p.pb + p.lp) * 9 + p.lc, 0) else (0, 6)
/-- The properties that a byte would tell. -/
def told (b : Int) : Prp := ⟨b % 9, b / 9 % 5, b / 45⟩
def propsB (b : Int) : Prp × Int := if ¬ (0 ≤ b ∧ b ≤ 255) then (⟨0, 0, 0⟩, 7) else if allow (told b) then (told b, 0) else (⟨0, 0, 0⟩, 2)
theorem told_of {p : Prp} (h : allow p) : told ((5 * p.pb + p.lp) * 9 + p.lc) = p := by
  obtain ⟨lc, lp, pb⟩ := p
  obtain ⟨⟨h1, h2, h3⟩, h4, h5⟩ := h
  simp only at h1 h2 h3 h4 h5
  unfold told
  simp only [Prp.mk.injEq]
  omega
theorem of_told (b : Int) (h : 0 ≤ b ∧ b < 225) : (5 * (told b).pb + (told b).lp) * 9 + (told b).lc = b := by
  unfold told
  simp only
  omega
end St12
end Go.Proofs.YtehfcfpbjenmjaaDoor
