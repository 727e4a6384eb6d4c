/- Several texts in one, none of a statement by itself: Wm, Wb, Sm, Cm, Ct, By, Cna. -/
import Derived.Test.YtkncbanodpfccaaDoorRc
import Derived.Test.YtkncbanodpfccaaDoorBoundA
import Derived.BigQuiet
import Derived.Deep.QuietTactic
import Derived.Laws.AppendOwnNone
import Derived.Test.YtkncbanodpfccaaDoorVint
/- The mathematics of windows: the last bytes, what is copied; of no statement by itself. -/
namespace Go.Proofs.YtkncbanodpfccaaDoor
set_option linter.unusedVariables false

/-- How many bytes a window of that size holds; the byte that came d bytes ago; what is copied. -/
def fullN (size : Nat) (bs : List Nat) : Nat := min bs.length size
def backB (bs : List Nat) (d : Nat) : Nat := bs.getD (bs.length - d) 0
def copyL (d : Nat) : List Nat → Nat → List Nat
  | _, 0 => []
  | bs, n + 1 => backB bs d :: copyL d (bs ++ [backB bs d]) n
theorem copyL_len (d : Nat) : ∀ (n : Nat) (bs : List Nat), (copyL d bs n).length = n
  | 0, _ => rfl
  | n + 1, bs => by simp [copyL, copyL_len d n]
theorem copyL_add (d : Nat) : ∀ (a b : Nat) (bs : List Nat), copyL d bs (a + b) = copyL d bs a ++ copyL d (bs ++ copyL d bs a) b
  | 0, b, bs => by simp [copyL]
  | a + 1, b, bs => by
    rw [show a + 1 + b = (a + b) + 1 by omega]
    simp only [copyL, copyL_add d a b, List.cons_append, List.append_assoc, List.nil_append]
theorem copyL_snoc (d n : Nat) (bs : List Nat) : copyL d bs (n + 1) = copyL d bs n ++ [backB (bs ++ copyL d bs n) d] := by
  rw [copyL_add d n 1 bs]
  rfl
theorem backB_mem {bs : List Nat} {d : Nat} (h1 : 1 ≤ d) (h2 : d ≤ bs.length) : backB bs d ∈ bs := by
  unfold backB
  have h : bs.length - d < bs.length := by omega
  rw [List.getD_eq_getElem?_getD, List.getElem?_eq_getElem h]
  exact List.getElem_mem h
theorem backB_at {bs : List Nat} {d : Nat} (h1 : 1 ≤ d) (h2 : d ≤ bs.length) : bs[bs.length - d]? = some (backB bs d) := by
  unfold backB
  have h : bs.length - d < bs.length := by omega
  rw [List.getD_eq_getElem?_getD, List.getElem?_eq_getElem h]
  rfl
theorem copyL_dig {d : Nat} (h1 : 1 ≤ d) : ∀ (n : Nat) {bs : List Nat}, d ≤ bs.length → Rc.Dig bs → Rc.Dig (copyL d bs n)
  | 0, _, _, _ => fun x hx => (List.not_mem_nil hx).elim
  | n + 1, bs, h2, hd => by
    have hb := hd _ (backB_mem h1 h2)
    have hd2 : Rc.Dig (bs ++ [backB bs d]) := fun x hx => by
      rcases List.mem_append.1 hx with f | f
      · exact hd x f
      · rw [List.mem_singleton.1 f]; exact hb
    have ih := copyL_dig h1 n (bs := bs ++ [backB bs d]) (by rw [List.length_append]; omega) hd2
    intro x hx
    rcases List.mem_cons.1 hx with f | f
    · rw [f]; exact hb
    · exact ih x f
/-- A byte that is copied is the one d places ahead of it, among all that came. -/
theorem copyL_at {d : Nat} (h1 : 1 ≤ d) : ∀ (n : Nat) {bs : List Nat} (i : Nat), d ≤ bs.length → i < n → (copyL d bs n)[i]? = (bs ++ copyL d bs n)[bs.length + i - d]?
  | 0, bs, i, _, hi => absurd hi (Nat.not_lt_zero _)
  | n + 1, bs, 0, h2, hi => by
    rw [List.getElem?_append_left (by omega), show bs.length + 0 - d = bs.length - d by omega, backB_at h1 h2]
    rfl
  | n + 1, bs, i + 1, h2, hi => by
    have ih := copyL_at h1 n (bs := bs ++ [backB bs d]) i (by rw [List.length_append]; omega) (by omega)
    show (copyL d (bs ++ [backB bs d]) n)[i]? = _
    rw [ih, List.append_assoc, List.length_append, List.length_singleton, show bs.length + 1 + i - d = bs.length + (i + 1) - d by omega]
    rfl
theorem copyL_first {d n i : Nat} {bs : List Nat} (h1 : 1 ≤ d) (h2 : d ≤ bs.length) (hi : i < n) (hd : i < d) : (copyL d bs n)[i]? = bs[bs.length - d + i]? := by
  rw [copyL_at h1 n i h2 hi, List.getElem?_append_left (by omega), show bs.length + i - d = bs.length - d + i by omega]
theorem copyL_then {d n i : Nat} {bs : List Nat} (h1 : 1 ≤ d) (h2 : d ≤ bs.length) (hi : i < n) (hd : d ≤ i) : (copyL d bs n)[i]? = (copyL d bs n)[i - d]? := by
  rw [copyL_at h1 n i h2 hi, List.getElem?_append_right (by omega), show bs.length + i - d - bs.length = i - d by omega]
end Go.Proofs.YtkncbanodpfccaaDoor

/- What the window's texts stand on: numbers as bytes, lists of one's own, strings made of them; of no statement by itself. -/
namespace Go.Proofs.YtkncbanodpfccaaDoor
open Go.RowKit
set_option linter.unusedVariables false

/-- A number of 64 bits. -/
def I64 (p : Int) : Prop := -9223372036854775808 ≤ p ∧ p ≤ 9223372036854775807
/-- Natural numbers as the model's. -/
def nums (l : List Nat) : List Int := l.map fun (n : Nat) => (n : Int)
theorem nums_len (l : List Nat) : (nums l).length = l.length := by simp [nums]
theorem nums_at (l : List Nat) (j : Nat) (h : j < l.length) : (nums l)[j]'(by rw [nums_len]; exact h) = (l[j] : Int) := by simp [nums]
theorem infoU8 : (Tryd.prog.info? 5).map (fun i => (i.zero, i.size, i.bytes)) = some (some (.int .u8 0), 1, 1) := by kernel_rfl
theorem own_from {w : World} {B : Nat} {e : TypeId} {ad : Option Addr} {c n : Nat} {xs : List Value} (h : w.ownsRow B e 1 (.slice ad n c) n xs) : From w ad n c 1 xs := by
  refine ⟨h.1, ?_⟩
  rcases h.2 with ⟨e0, e1⟩ | ⟨g, cap, cur, e0, _⟩
  · simp only [Value.slice.injEq] at e0
    exact .inl ⟨e0.1, e1, e0.2.2⟩
  · simp only [Value.slice.injEq, true_and] at e0
    obtain ⟨rfl, rfl⟩ := e0
    exact .inr ⟨_, rfl, fun j u hu => h.cells (g := g) rfl j u hu⟩
theorem From.keep {w w' : World} {ad : Option Addr} {m c size : Nat} {news : List Value} (h : From w ad m c size news) (hc : Chg (fun _ => False) w w') : From w' ad m c size news := by
  refine ⟨h.1, ?_⟩
  rcases h.2 with e | ⟨x, rfl, hx⟩
  · exact .inl e
  · exact .inr ⟨x, rfl, fun j u hu => cell_chg (hx j u hu) hc⟩
theorem own_empty (w : World) (t : TypeId) : (w.alloc (.cells #[] t)).ownsRow w.heap.size t 1 (.slice (some ⟨w.heap.size, 0, none⟩) 0 0) 0 [] :=
  ⟨rfl, .inr ⟨w.heap.size, 0, #[], rfl, Nat.le_refl _, heap_alloc_last w _, Nat.le_refl _, by unfold maxLen; omega, rfl, rfl⟩⟩
theorem step_append_moved {P : Program} {ops : Array Oper} {o : Oper} {a : Act} {w : World} {K : Act → World → Prop} {Q : Exit → Act → World → Prop} {E : Prop} (hgd : o.guard = none) (s x : Operand) (t : TypeId)
    (ho : o.op = .call { callee := .builtin .append, args := #[s, x], argTypes := #[t, t] })
    (B : Nat) (e : TypeId) (i : TypeInfo) (z : Value) (size bytes : Nat) (ht : P.underlying t = some (.slice e)) (hi : P.info? e = some i) (hz : i.zero = some z)
    (hsize : i.size = size) (hby : i.bytes = bytes) (hzs : z.cells.size = size) (hsz : 0 < size)
    (v : Value) (n : Nat) (xs : List Value) (hs : a.eval s = v) (ad : Option Addr) (m c : Nat) (hx : a.eval x = .slice ad m c) (news : List Value)
    (hown : w.ownsRow B e size v n xs) (hsrc : From w ad m c size news) (h1 : ∀ u ∈ news, u.oneCell' = true)
    (h63 : n + m ≤ maxLen) (hbytes : (n + m) * bytes ≤ 140737488355328) (hB : B ≤ w.heap.size)
    (h : ∀ v' w', w'.ownsRow B e size v' (n + m) (xs ++ news) → w.grownBy w' v.ownBlock → Moved w v v' → K (a.put o.dst v') w') :
    if Region.wanted o (yielded ops a.tmps) = true then Oper.wp P o a w K Q else E := by
  have hw : Region.wanted o (yielded ops a.tmps) = true := by simp [Region.wanted, hgd]
  rw [if_pos hw]
  obtain ⟨v', w', hr, h2, h3, h4⟩ := run_append_moved (P := P) w B t o.type e i z size bytes ht hi hz hsize hby hzs hsz v n xs hown ad m c news hsrc h1 h63 hbytes hB
  unfold Oper.wp
  simp [execOp, ho, resolve, invoke, builtin, hs, hx, hr, Result.andThen]
  exact h v' w' h2 h3 h4
theorem row8_own {w : World} {B : Nat} {ad : Option Addr} {c n : Nat} {xs : List Int} (h : w.ownsRow B 5 1 (.slice ad n c) n (ins .u8 xs)) : Row8 w ad n c xs := by
  have hl : n = xs.length := by have := h.1; simp [ins] at this; omega
  refine ⟨hl.symm, ?_⟩
  rcases h.2 with ⟨e0, e1⟩ | ⟨g, cap, cur, e0, _⟩
  · simp only [Value.slice.injEq] at e0
    exact .inl ⟨e0.1, e1, e0.2.2⟩
  · simp only [Value.slice.injEq, true_and] at e0
    obtain ⟨rfl, rfl⟩ := e0
    exact .inr ⟨_, rfl, fun j u hu => h.cells (g := g) rfl j u hu⟩
theorem conv_own {w : World} {B : Nat} {ad : Option Addr} {c n : Nat} {xs : List Int} (h : w.ownsRow B 5 1 (.slice ad n c) n (ins .u8 xs)) :
    (convert 25 9 (.slice ad n c)).run Tryd.prog w = .ok (.string (strOfNums xs)) w := Bk.conv8_here (row8_own h)
theorem form1 {w : World} {B : Nat} {t : TypeId} {lv : Value} {n : Nat} {xs : List Value} (h : w.ownsRow B t 1 lv n xs) : ∃ a c, lv = .slice a n c := by
  rcases h.2 with ⟨rfl, rfl⟩ | ⟨g, cap, cur, rfl, _⟩
  · exact ⟨none, 0, rfl⟩
  · exact ⟨_, cap, rfl⟩
theorem wr64 {p : Int} (h : 0 ≤ p) (h2 : p ≤ 4611686018427387904) : IntKind.i64.wrap p = p := by simp [IntKind.wrap, IntKind.signed, IntKind.bits]; omega
theorem quiet_of {P : Program} {f : FuncId} {args : Array Value} {X : Ending} {w : World} {k : Nat} (h : Calls P f args (w.drewN k) fun e w' => e = X ∧ w.drewN k = w') : Calls P f args (w.drewN k) fun e w'' => e = X ∧ ∃ m, w'' = w.drewN m :=
  h.mono fun _ _ ⟨h1, h2⟩ => ⟨h1, k, h2.symm⟩
theorem moved_from {w w1 : World} {v v2 : Value} (hs : w.heap.size ≤ w1.heap.size) (hm : Moved w1 v v2) : Moved w v v2 := fun g e => by
  rcases hm g e with e | e
  · exact .inl e
  · exact .inr (by omega)
/-- A list of numbers in memory. -/
def IntsL (w : World) (a : Option Addr) (l : List Int) : Prop := ∀ (k : Nat) (i : Int), l[k]? = some i → ∃ b off, a = some ⟨b, off, none⟩ ∧ w.cell? ⟨b, off + k, none⟩ = some (.int .i64 i)
theorem IntsL.new {w w' : World} {a : Option Addr} {l : List Int} (h : IntsL w a l) (hc : Chg (fun _ => False) w w') : IntsL w' a l := fun k i hk => by
  obtain ⟨b, off, e, h1⟩ := h k i hk
  exact ⟨b, off, e, cell_chg h1 hc⟩
theorem nums_append (a b : List Nat) : nums (a ++ b) = nums a ++ nums b := by simp [nums]
theorem ins_append (a b : List Int) : ins .u8 (a ++ b) = ins .u8 a ++ ins .u8 b := by simp [ins]
theorem ins_map (a : List Int) : ins .u8 a = a.map (Value.int .u8) := rfl
theorem cell00 {w : World} {a : Nat} {x : Value} {t : TypeId} (h : w.heap[a]? = some (.cells #[x] t (0, 0))) : w.cell? ⟨a, 0, none⟩ = some x := by simp [World.cell?, h]
theorem addr_add (x : Addr) (i j : Nat) : (x.add i).add j = x.add (i + j) := by
  unfold Addr.add
  by_cases hi : i = 0 <;> by_cases hj : j = 0 <;> simp [hi, hj, Nat.add_assoc]
theorem row8_cut {w : World} {ad : Option Addr} {m c : Nat} {xs : List Int} (h : Row8 w ad m c xs) (hmc : m ≤ c) (lo n c' : Nat) (hn : lo + n ≤ m) (hc' : c = 0 → c' = 0) :
    Row8 w (if c = lo then ad else ad.map (·.add lo)) n c' ((xs.drop lo).take n) := by
  have hl := h.1
  refine ⟨by simp; omega, ?_⟩
  rcases h.2 with ⟨rfl, rfl, rfl⟩ | ⟨x, rfl, hx⟩
  · refine .inl ⟨by simp, by omega, hc' rfl⟩
  · by_cases e : c = lo
    · rw [if_pos e]
      have hn0 : n = 0 := by omega
      subst hn0
      exact .inr ⟨x, rfl, fun j u hu => by simp at hu⟩
    · rw [if_neg e]
      refine .inr ⟨_, rfl, fun j u hu => ?_⟩
      rw [List.map_take, List.map_drop, List.getElem?_take] at hu
      split at hu
      · rw [List.getElem?_drop] at hu
        have := hx (lo + j) u hu
        rw [addr_add]
        exact this
      · cases hu
theorem own_cap {w : World} {B : Nat} {e : TypeId} {ad : Option Addr} {c n : Nat} {xs : List Value} (h : w.ownsRow B e 1 (.slice ad n c) n xs) : n ≤ c := by
  rcases h.2 with ⟨e0, e1⟩ | ⟨g, cap, cur, e0, _, _, hc, _⟩
  · omega
  · simp only [Value.slice.injEq, true_and] at e0
    omega
theorem nums_cut (bs : List Nat) (lo n : Nat) : ((nums bs).drop lo).take n = nums ((bs.drop lo).take n) := by simp [nums, List.map_take, List.map_drop]
end Go.Proofs.YtkncbanodpfccaaDoor

/- Mathematics of states, slots and properties; of no statement by itself. -/
namespace Go.Proofs.YtkncbanodpfccaaDoor
set_option linter.unusedVariables false

/-- A state; a symbol; properties. -/
structure Stt where
  n : Int
  a : Int
  b : Int
  c : Int
  d : Int
structure Sym where
  k : Int
  y : Int
  l : Int
  d : Int
structure Prp where
  lc : Int
  lp : Int
  pb : Int
namespace St12
def st0 : Stt := ⟨0, 1, 1, 1, 1⟩
def zero : Stt := ⟨0, 0, 0, 0, 0⟩
def okR (x : Int) : Prop := 1 ≤ x ∧ x ≤ 4294967295
instance (x : Int) : Decidable (okR x) := by unfold okR; exact inferInstance
def right (s : Stt) : Prop := (0 ≤ s.n ∧ s.n ≤ 11) ∧ okR s.a ∧ okR s.b ∧ okR s.c ∧ okR s.d
instance (s : Stt) : Decidable (right s) := by unfold right; exact inferInstance
/-- 0, or what is wrong with a symbol. -/
def formed (y : Sym) : Int :=
  if y.k = 1 ∨ y.k = 4 then 0
  else if y.k = 2 then (if (2 ≤ y.l ∧ y.l ≤ 273) ∧ 1 ≤ y.d ∧ y.d ≤ 4294967295 then 0 else 7)
  else if y.k = 3 then (if (2 ≤ y.l ∧ y.l ≤ 273) ∧ 0 ≤ y.d ∧ y.d ≤ 3 then 0 else 7)
  else 6
/-- The number behind a kind. -/
def mvd (n k : Int) : Int :=
  if k = 1 then (if n < 4 then 0 else if n < 10 then n - 3 else n - 6)
  else if 7 ≤ n then (if k = 2 then 10 else 11)
  else if k = 2 then 7 else if k = 3 then 8 else 9
/-- The distances behind a symbol. -/
def reps (s : Stt) (y : Sym) : Int × Int × Int × Int :=
  if y.k = 2 then (y.d, s.a, s.b, s.c)
  else if y.k = 3 then (if y.d = 1 then (s.b, s.a, s.c, s.d) else if y.d = 2 then (s.c, s.a, s.b, s.d) else if y.d = 3 then (s.d, s.a, s.b, s.c) else (s.a, s.b, s.c, s.d))
  else (s.a, s.b, s.c, s.d)
def nxt (s : Stt) (y : Sym) : Stt × Int :=
  if ¬ right s then (zero, 7)
  else if formed y ≠ 0 then (zero, formed y)
  else (⟨mvd s.n y.k, (reps s y).1, (reps s y).2.1, (reps s y).2.2.1, (reps s y).2.2.2⟩, 0)
def lit (n : Int) : Bool := decide (0 ≤ n) && decide (n ≤ 6)
theorem formed_vals (y : Sym) : formed y = 0 ∨ formed y = 6 ∨ formed y = 7 := by
  unfold formed
  split
  · exact .inl rfl
  · split
    · split
      · exact .inl rfl
      · exact .inr (.inr rfl)
    · split
      · split
        · exact .inl rfl
        · exact .inr (.inr rfl)
      · exact .inr (.inl rfl)
theorem formed_kind {y : Sym} (h : formed y = 0) : y.k = 1 ∨ (y.k = 2 ∧ 2 ≤ y.l ∧ y.l ≤ 273 ∧ 1 ≤ y.d ∧ y.d ≤ 4294967295) ∨ (y.k = 3 ∧ 2 ≤ y.l ∧ y.l ≤ 273 ∧ 0 ≤ y.d ∧ y.d ≤ 3) ∨ y.k = 4 := by
  unfold formed at h
  split at h
  · next h1 => rcases h1 with h1 | h1 <;> simp [h1]
  · split at h
    · next h2 =>
      split at h
      · next h3 => exact .inr (.inl ⟨h2, h3.1.1, h3.1.2, h3.2.1, h3.2.2⟩)
      · simp at h
    · split at h
      · next h2 =>
        split at h
        · next h3 => exact .inr (.inr (.inl ⟨h2, h3.1.1, h3.1.2, h3.2.1, h3.2.2⟩))
        · simp at h
      · simp at h
theorem nxt_right {s : Stt} {y : Sym} (h : right s) (hf : formed y = 0) : (nxt s y).2 = 0 ∧ right (nxt s y).1 := by
  have hk := formed_kind hf
  obtain ⟨⟨h1, h2⟩, ha, hb, hc, hd⟩ := h
  unfold nxt
  rw [if_neg (by simp; exact ⟨⟨h1, h2⟩, ha, hb, hc, hd⟩), if_neg (by simp [hf])]
  refine ⟨rfl, ?_⟩
  have hm : 0 ≤ mvd s.n y.k ∧ mvd s.n y.k ≤ 11 := by
    unfold mvd
    split
    · split
      · omega
      · split <;> omega
    · split
      · split <;> omega
      · split
        · omega
        · split <;> omega
  refine ⟨hm, ?_⟩
  unfold reps
  split
  · next e =>
    have : okR y.d := by
      rcases hk with k | k | k | k
      · omega
      · exact ⟨k.2.2.2.1, k.2.2.2.2⟩
      · omega
      · omega
    exact ⟨this, ha, hb, hc⟩
  · split
    · split
      · exact ⟨hb, ha, hc, hd⟩
      · split
        · exact ⟨hc, ha, hb, hd⟩
        · split
          · exact ⟨hd, ha, hb, hc⟩
          · exact ⟨ha, hb, hc, hd⟩
    · exact ⟨ha, hb, hc, hd⟩
/-- Bits of a slot; its least distance. -/
def bitsN (i : Nat) : Nat := if i < 4 then 0 else i / 2 - 1
def least : Nat → Nat
  | 0 => 1
  | i + 1 => least i + 2 ^ bitsN i
/-- The last of the first k slots whose least distance is not above. -/
def slotK (d : Nat) : Nat → Nat
  | 0 => 0
  | k + 1 => if least k ≤ d then k else slotK d k
def slotN (d : Nat) : Nat := slotK d 64
theorem least_lt (i : Nat) : least i < least (i + 1) := by
  show least i < least i + 2 ^ bitsN i
  have := Nat.two_pow_pos (bitsN i)
  omega
theorem least_mono {i j : Nat} (h : i ≤ j) : least i ≤ least j := by
  induction h with
  | refl => exact Nat.le_refl _
  | step _ ih => exact Nat.le_trans ih (Nat.le_of_lt (least_lt _))
theorem slotK_spec {d : Nat} (hd : 1 ≤ d) : ∀ k, 0 < k → slotK d k < k ∧ least (slotK d k) ≤ d ∧ ∀ j, slotK d k < j → j < k → d < least j
  | 0, h => by omega
  | k + 1, _ => by
    unfold slotK
    split
    · next h => exact ⟨by omega, h, fun j h1 h2 => by omega⟩
    · next h =>
      rcases Nat.eq_zero_or_pos k with e | e
      · subst e
        exact absurd hd (by simpa [least] using h)
      · obtain ⟨h1, h2, h3⟩ := slotK_spec hd k e
        refine ⟨by omega, h2, fun j g1 g2 => ?_⟩
        by_cases ej : j = k
        · subst ej; omega
        · exact h3 j g1 (by omega)
theorem slotN_lt {d : Nat} (hd : 1 ≤ d) : slotN d < 64 := (slotK_spec hd 64 (by omega)).1
theorem slotN_le {d : Nat} (hd : 1 ≤ d) : least (slotN d) ≤ d := (slotK_spec hd 64 (by omega)).2.1
theorem least64 : least 64 = 4294967297 := by decide +kernel
theorem slotN_top {d : Nat} (hd : 1 ≤ d) (hm : d ≤ 4294967295) : d < least (slotN d) + 2 ^ bitsN (slotN d) := by
  obtain ⟨h1, _, h3⟩ := slotK_spec hd 64 (by omega)
  show d < least (slotN d + 1)
  by_cases e : slotN d + 1 < 64
  · exact h3 _ (by show slotN d < slotN d + 1; omega) e
  · have : slotN d + 1 = 64 := by have := slotN_lt hd; omega
    rw [this, least64]
    omega
theorem slotN_is {d i : Nat} (hi : i < 64) (h1 : least i ≤ d) (h2 : d < least (i + 1)) : slotN d = i := by
  have hd : 1 ≤ d := Nat.le_trans (least_mono (Nat.zero_le i)) h1
  have a1 := slotN_le hd
  have a2 := slotN_lt hd
  have a3 := (slotK_spec hd 64 (by omega)).2.2
  by_cases e : slotN d < i
  · have := a3 i e hi
    omega
  · by_cases e2 : i < slotN d
    · have := least_mono (i := i + 1) (j := slotN d) e2
      omega
    · omega
theorem slotN_mono {a b : Nat} (ha : 1 ≤ a) (hab : a ≤ b) : slotN a ≤ slotN b := by
  have a1 := slotN_le ha
  have a2 := slotN_lt ha
  have a3 := (slotK_spec (d := b) (by omega) 64 (by omega)).2.2
  by_cases e : slotN b < slotN a
  · have := a3 (slotN a) e a2
    omega
  · omega
theorem bitsN_le {i : Nat} (hi : i < 64) : bitsN i ≤ 30 := by unfold bitsN; split <;> omega
theorem least_le {i : Nat} (hi : i < 64) : least i ≤ 3221225473 := by
  have := least_mono (i := i) (j := 63) (by omega)
  have e : least 63 = 3221225473 := by decide +kernel
  omega
/-- What Slot and Range answer. -/
def slotA (d : Int) : Int × Int := if 1 ≤ d ∧ d ≤ 4294967295 then ((slotN d.toNat : Int), 0) else (0, 7)
def rangeA (i : Int) : Int × Int × Int := if 0 ≤ i ∧ i ≤ 63 then ((least i.toNat : Int), (bitsN i.toNat : Int), 0) else (0, 0, 7)
/-- Properties. -/
def allow (p : Prp) : Prop := (0 ≤ p.lc ∧ 0 ≤ p.lp ∧ 0 ≤ p.pb) ∧ p.lc + p.lp ≤ 4 ∧ p.pb ≤ 4
instance (p : Prp) : Decidable (allow p) := by unfold allow; exact inferInstance
def byteP (p : Prp) : Int × Int := if allow p then ((5 * p.pb + p.lp) * 9 + p.lc, 0) else (0, 6)
/-- The properties that a byte would tell. -/
def told (b : Int) : Prp := ⟨b % 9, b / 9 % 5, b / 45⟩
def propsB (b : Int) : Prp × Int := if ¬ (0 ≤ b ∧ b ≤ 255) then (⟨0, 0, 0⟩, 7) else if allow (told b) then (told b, 0) else (⟨0, 0, 0⟩, 2)
theorem told_of {p : Prp} (h : allow p) : told ((5 * p.pb + p.lp) * 9 + p.lc) = p := by
  obtain ⟨lc, lp, pb⟩ := p
  obtain ⟨⟨h1, h2, h3⟩, h4, h5⟩ := h
  simp only at h1 h2 h3 h4 h5
  unfold told
  simp only [Prp.mk.injEq]
  omega
theorem of_told (b : Int) (h : 0 ≤ b ∧ b < 225) : (5 * (told b).pb + (told b).lp) * 9 + (told b).lc = b := by
  unfold told
  simp only
  omega
end St12
end Go.Proofs.YtkncbanodpfccaaDoor

/- Mathematics of chunks' heads and dictionaries; of no statement by itself. -/
namespace Go.Proofs.YtkncbanodpfccaaDoor
open St12
set_option linter.unusedVariables false
set_option linter.unusedSimpArgs false
/-- A chunk's head. -/
structure Chk where
  k : Int
  s : Int
  p : Int
  lc : Int
  lp : Int
  pb : Int
namespace Ck17
def zeroC : Chk := ⟨0, 0, 0, 0, 0, 0⟩
def five (k s p : Int) : List Nat := [128 + 32 * (k - 3).toNat + (s - 1).toNat / 65536, (s - 1).toNat / 256 % 256, (s - 1).toNat % 256, (p - 1).toNat / 256, (p - 1).toNat % 256]
/-- What Put answers. -/
def putA (c : Chk) : List Nat × Int :=
  if c.k < 0 ∨ 6 < c.k then ([], 6)
  else if c.k = 0 then (if c.s ≠ 0 ∨ c.p ≠ 0 then ([], 7) else ([0], 0))
  else if c.k < 3 then (if (c.s < 1 ∨ 65536 < c.s) ∨ c.p ≠ c.s then ([], 7) else ([c.k.toNat, (c.s - 1).toNat / 256, (c.s - 1).toNat % 256], 0))
  else if ((c.s < 1 ∨ 2097152 < c.s) ∨ c.p < 1) ∨ 65536 < c.p then ([], 7)
  else if c.k < 5 then (five c.k c.s c.p, 0)
  else if (byteP ⟨c.lc, c.lp, c.pb⟩).2 ≠ 0 then ([], 6)
  else (five c.k c.s c.p ++ [(byteP ⟨c.lc, c.lp, c.pb⟩).1.toNat], 0)
/-- How many bytes a head has that begins so (0: none begins so). -/
def wantN (f : Nat) : Nat := if f = 0 then 1 else if f < 3 then 3 else if f < 128 then 0 else if f < 192 then 5 else 6
def at_ (bs : List Nat) (i : Nat) : Nat := bs.getD i 0
/-- What Get answers. -/
def getA (bs : List Nat) : Chk × Nat × Int :=
  if bs.length = 0 then (zeroC, 0, 1)
  else if at_ bs 0 = 0 then (zeroC, 1, 0)
  else if 2 < at_ bs 0 ∧ at_ bs 0 < 128 then (zeroC, 0, 2)
  else if bs.length < wantN (at_ bs 0) then (zeroC, 0, 1)
  else if at_ bs 0 < 3 then (⟨at_ bs 0, ((256 * at_ bs 1 + at_ bs 2 + 1 : Nat) : Int), ((256 * at_ bs 1 + at_ bs 2 + 1 : Nat) : Int), 0, 0, 0⟩, 3, 0)
  else if at_ bs 0 < 192 then (⟨((3 + at_ bs 0 / 32 - 4 : Nat) : Int), ((256 * at_ bs 1 + at_ bs 2 + 1 + 65536 * (at_ bs 0 % 32) : Nat) : Int), ((256 * at_ bs 3 + at_ bs 4 + 1 : Nat) : Int), 0, 0, 0⟩, 5, 0)
  else if (propsB (at_ bs 5 : Int)).2 ≠ 0 then (zeroC, 0, 2)
  else (⟨((3 + at_ bs 0 / 32 - 4 : Nat) : Int), ((256 * at_ bs 1 + at_ bs 2 + 1 + 65536 * (at_ bs 0 % 32) : Nat) : Int), ((256 * at_ bs 3 + at_ bs 4 + 1 : Nat) : Int), (propsB (at_ bs 5 : Int)).1.lc, (propsB (at_ bs 5 : Int)).1.lp, (propsB (at_ bs 5 : Int)).1.pb⟩, 6, 0)
/-- The dictionary that a byte tells; the least byte. -/
def dic (b : Nat) : Nat := if b = 40 then 4294967295 else (2 + b % 2) * 2 ^ (b / 2 + 11)
def byteD (b : Int) : Int × Int := if b < 0 ∨ 255 < b then (0, 7) else if 40 < b then (0, 4) else ((dic b.toNat : Nat), 0)
def dbF (n : Nat) : Nat → Nat → Nat
  | _, 0 => 40
  | b, k + 1 => if n ≤ dic b then b else dbF n (b + 1) k
def dictB (n : Int) : Int × Int := if n < 0 ∨ 4294967295 < n then (0, 7) else ((dbF n.toNat 0 40 : Nat), 0)
theorem dig_put (c : Chk) : ∀ x ∈ (putA c).1, x < 256 := by
  intro x hx
  unfold putA at hx
  split at hx
  · cases hx
  · split at hx
    · split at hx
      · cases hx
      · rw [List.mem_singleton.1 hx]; decide
    · split at hx
      · split at hx
        · cases hx
        · simp only [List.mem_cons, List.not_mem_nil, or_false] at hx
          omega
      · split at hx
        · cases hx
        · have h5 : ∀ x ∈ five c.k c.s c.p, x < 256 := fun x hx => by
            unfold five at hx
            simp only [List.mem_cons, List.not_mem_nil, or_false] at hx
            omega
          split at hx
          · exact h5 x hx
          · split at hx
            · cases hx
            · rcases List.mem_append.1 hx with h | h
              · exact h5 x h
              · rw [List.mem_singleton.1 h]
                unfold byteP
                split
                · next ha =>
                  obtain ⟨⟨h1, h2, h3⟩, h4, h5⟩ := ha
                  simp only at h1 h2 h3 h4 h5 ⊢
                  omega
                · decide
theorem len_put (c : Chk) : (putA c).1.length ≤ 6 := by
  unfold putA five
  repeat (first | split | simp)
theorem put_err (c : Chk) : (putA c).2 = 0 ∨ (putA c).1 = [] ∧ ((putA c).2 = 6 ∨ (putA c).2 = 7) := by
  unfold putA
  repeat (first | split | simp)
/-- The chunk as it is read back. -/
def back (c : Chk) : Chk := if c.k < 5 then ⟨c.k, c.s, c.p, 0, 0, 0⟩ else c
theorem at_cons (x : Nat) (l : List Nat) (i : Nat) : at_ (x :: l) (i + 1) = at_ l i := by unfold at_; simp
theorem at_zero (x : Nat) (l : List Nat) : at_ (x :: l) 0 = x := rfl
/-- What is put is got, with anything behind it. -/
theorem there (c : Chk) (t : List Nat) (h : (putA c).2 = 0) : getA ((putA c).1 ++ t) = (back c, (putA c).1.length, 0) ∧ 1 ≤ (putA c).1.length := by
  obtain ⟨k, s, p, lc, lp, pb⟩ := c
  unfold putA at h ⊢
  simp only at h ⊢
  split at h
  · cases h
  · next h0 =>
    rw [if_neg h0]
    split at h
    · next hk =>
      subst hk
      rw [if_pos rfl]
      split at h
      · cases h
      · next h1 =>
        rw [if_neg h1]
        have : s = 0 ∧ p = 0 := by omega
        obtain ⟨rfl, rfl⟩ := this
        refine ⟨?_, by simp⟩
        unfold getA back
        simp [at_, zeroC]
    · next hk =>
      rw [if_neg hk]
      split at h
      · next hk3 =>
        rw [if_pos hk3]
        split at h
        · cases h
        · next h1 =>
          rw [if_neg h1]
          have hp : p = s := by omega
          subst hp
          refine ⟨?_, by simp⟩
          have hk' : k = 1 ∨ k = 2 := by omega
          have e : (256 * ((p - 1).toNat / 256) + (p - 1).toNat % 256 + 1 : Nat) = p.toNat := by omega
          have hpos : ((p.toNat : Nat) : Int) = p := by omega
          unfold getA back
          simp only [List.cons_append, List.nil_append, at_cons, at_zero, List.length_cons]
          have hl : ¬ (t.length + 1 + 1 + 1 < 3) := by omega
          rcases hk' with rfl | rfl
          · simp [wantN, hl]; omega
          · simp [wantN, hl]; omega
      · next hk3 =>
        rw [if_neg hk3]
        split at h
        · cases h
        · next h1 =>
          rw [if_neg h1]
          have hs : 1 ≤ s ∧ s ≤ 2097152 ∧ 1 ≤ p ∧ p ≤ 65536 := by omega
          have f1 : (256 * ((s - 1).toNat / 256 % 256) + (s - 1).toNat % 256 + 1 + 65536 * ((128 + 32 * (k - 3).toNat + (s - 1).toNat / 65536) % 32) : Nat) = s.toNat := by omega
          have f2 : (256 * ((p - 1).toNat / 256) + (p - 1).toNat % 256 + 1 : Nat) = p.toNat := by omega
          have f3 : (3 + (128 + 32 * (k - 3).toNat + (s - 1).toNat / 65536) / 32 - 4 : Nat) = k.toNat := by omega
          have g1 : ((s.toNat : Nat) : Int) = s := by omega
          have g2 : ((p.toNat : Nat) : Int) = p := by omega
          have g3 : ((k.toNat : Nat) : Int) = k := by omega
          have q0 : ¬ (128 + 32 * (k - 3).toNat + (s - 1).toNat / 65536 = 0) := by omega
          have q1 : ¬ (2 < 128 + 32 * (k - 3).toNat + (s - 1).toNat / 65536 ∧ 128 + 32 * (k - 3).toNat + (s - 1).toNat / 65536 < 128) := by omega
          have q2 : ¬ (128 + 32 * (k - 3).toNat + (s - 1).toNat / 65536 < 3) := by omega
          split at h
          · next hk5 =>
            rw [if_pos hk5]
            refine ⟨?_, by unfold five; simp⟩
            have q3 : 128 + 32 * (k - 3).toNat + (s - 1).toNat / 65536 < 192 := by omega
            have qw : wantN (128 + 32 * (k - 3).toNat + (s - 1).toNat / 65536) = 5 := by unfold wantN; rw [if_neg q0, if_neg q2, if_neg (by omega), if_pos q3]
            have hl : ¬ (t.length + 1 + 1 + 1 + 1 + 1 < 5) := by omega
            unfold getA back five
            simp only [List.cons_append, List.nil_append, at_cons, at_zero, List.length_cons, qw, if_neg q0, if_neg q1, if_neg q2, if_pos q3, if_neg hl, f1, f2, f3, g1, g2, g3, if_pos hk5]
            simp
          · next hk5 =>
            rw [if_neg hk5]
            split at h
            · cases h
            · next hb =>
              rw [if_neg hb]
              have ha : allow ⟨lc, lp, pb⟩ := by
                by_cases ha : allow ⟨lc, lp, pb⟩
                · exact ha
                · exact absurd (by unfold byteP; rw [if_neg ha]; decide) hb
              have hbv : byteP ⟨lc, lp, pb⟩ = ((5 * pb + lp) * 9 + lc, 0) := by unfold byteP; rw [if_pos ha]
              have ht := told_of ha
              simp only at ht
              have hrng := ha
              obtain ⟨⟨r1, r2, r3⟩, r4, r5⟩ := hrng
              simp only at r1 r2 r3 r4 r5
              have hpb : propsB ((((5 * pb + lp) * 9 + lc).toNat : Nat) : Int) = (⟨lc, lp, pb⟩, 0) := by
                rw [show ((((5 * pb + lp) * 9 + lc).toNat : Nat) : Int) = (5 * pb + lp) * 9 + lc by omega]
                unfold propsB
                rw [if_neg (by omega), ht, if_pos ha]
              refine ⟨?_, by unfold five; simp⟩
              have q3 : ¬ (128 + 32 * (k - 3).toNat + (s - 1).toNat / 65536 < 192) := by omega
              have qw : wantN (128 + 32 * (k - 3).toNat + (s - 1).toNat / 65536) = 6 := by unfold wantN; rw [if_neg q0, if_neg q2, if_neg (by omega), if_neg q3]
              have hl : ¬ (t.length + 1 + 1 + 1 + 1 + 1 + 1 < 6) := by omega
              unfold getA back five
              rw [hbv]
              simp only [List.cons_append, List.nil_append, at_cons, at_zero, List.length_cons, qw, if_neg q0, if_neg q1, if_neg q2, if_neg q3, if_neg hl, f1, f2, f3, g1, g2, g3, if_neg hk5, hpb]
              simp
theorem shape (c : Chk) (h : (putA c).2 = 0) : (putA c).1 = [0] ∨ ∃ f r, (putA c).1 = f :: r ∧ f ≠ 0 ∧ ¬ (2 < f ∧ f < 128) ∧ wantN f = (putA c).1.length := by
  obtain ⟨k, s, p, lc, lp, pb⟩ := c
  unfold putA at h ⊢
  simp only at h ⊢
  split at h
  · cases h
  · next h0 =>
    rw [if_neg h0]
    split at h
    · next hk =>
      rw [if_pos hk]
      split at h
      · cases h
      · next h1 => rw [if_neg h1]; exact .inl rfl
    · next hk =>
      rw [if_neg hk]
      split at h
      · next hk3 =>
        rw [if_pos hk3]
        split at h
        · cases h
        · next h1 =>
          rw [if_neg h1]
          have hk' : k = 1 ∨ k = 2 := by omega
          rcases hk' with rfl | rfl
          · exact .inr ⟨_, _, rfl, by decide, by decide, rfl⟩
          · exact .inr ⟨_, _, rfl, by decide, by decide, rfl⟩
      · next hk3 =>
        rw [if_neg hk3]
        split at h
        · cases h
        · next h1 =>
          rw [if_neg h1]
          have q0 : ¬ (128 + 32 * (k - 3).toNat + (s - 1).toNat / 65536 = 0) := by omega
          have q1 : ¬ (2 < 128 + 32 * (k - 3).toNat + (s - 1).toNat / 65536 ∧ 128 + 32 * (k - 3).toNat + (s - 1).toNat / 65536 < 128) := by omega
          have q2 : ¬ (128 + 32 * (k - 3).toNat + (s - 1).toNat / 65536 < 3) := by omega
          split at h
          · next hk5 =>
            rw [if_pos hk5]
            exact .inr ⟨_, _, rfl, q0, q1, by unfold wantN five; rw [if_neg q0, if_neg q2, if_neg (by omega), if_pos (by omega)]; rfl⟩
          · next hk5 =>
            rw [if_neg hk5]
            split at h
            · cases h
            · next hb =>
              rw [if_neg hb]
              exact .inr ⟨_, _, rfl, q0, q1, by unfold wantN five; rw [if_neg q0, if_neg q2, if_neg (by omega), if_neg (by omega)]; rfl⟩
/-- Every beginning is cut off. -/
theorem cut (c : Chk) (h : (putA c).2 = 0) (i : Nat) (hi : i < (putA c).1.length) : getA ((putA c).1.take i) = (zeroC, 0, 1) := by
  rcases shape c h with e | ⟨f, r, e, h1, h2, h3⟩
  · rw [e] at hi ⊢
    obtain rfl : i = 0 := by simpa using hi
    rfl
  · rw [e] at hi h3 ⊢
    cases i with
    | zero => rfl
    | succ i =>
      rw [List.take_succ_cons]
      unfold getA
      have hl : (f :: r.take i).length = i + 1 := by
        simp at hi ⊢
        omega
      rw [if_neg (by rw [hl]; omega), at_zero, if_neg h1, if_neg h2, if_pos (by rw [hl, h3]; exact hi)]
/-- The properties of a byte are put as that byte. -/
theorem props_back {b : Nat} (hb : b < 256) (h : (propsB (b : Int)).2 = 0) : byteP (propsB (b : Int)).1 = ((b : Int), 0) := by
  unfold propsB at h ⊢
  rw [if_neg (by omega)] at h ⊢
  split at h
  · next ha =>
    rw [if_pos ha]
    have hlt : (b : Int) < 225 := by
      have h5 := ha.2.2
      unfold told at h5
      simp only at h5
      omega
    unfold byteP
    rw [if_pos ha]
    have := of_told (b : Int) ⟨by omega, hlt⟩
    rw [this]
  · cases h
theorem props_bad {b : Nat} (hb : b < 256) (h : (propsB (b : Int)).2 ≠ 0) : ¬ (b < 225 ∧ b % 45 / 9 + b % 9 ≤ 4) := by
  intro ⟨h1, h2⟩
  apply h
  unfold propsB
  rw [if_neg (by omega), if_pos]
  unfold allow told
  simp only
  omega
theorem props_rng {b : Nat} (h : (propsB (b : Int)).2 = 0) : allow (propsB (b : Int)).1 := by
  unfold propsB at h ⊢
  split at h
  · cases h
  · next h0 =>
    rw [if_neg h0]
    split at h
    · next ha => rw [if_pos ha]; exact ha
    · cases h
/-- What Get says, of all bytes that begin with f. -/
theorem sole (f : Nat) (b : List Nat) (hf : f < 256) (hb : ∀ x ∈ b, x < 256) :
    ((getA (f :: b)).2.2 = 0 ∧ (f < 3 ∨ 128 ≤ f) ∧ (getA (f :: b)).2.1 = wantN f ∧ wantN f ≤ (f :: b).length ∧ putA (getA (f :: b)).1 = ((f :: b).take (wantN f), 0)) ∨
    ((getA (f :: b)).2.2 = 1 ∧ (f < 3 ∨ 128 ≤ f) ∧ (getA (f :: b)).2.1 = 0 ∧ (f :: b).length < wantN f) ∨
    ((getA (f :: b)).2.2 = 2 ∧ (getA (f :: b)).2.1 = 0 ∧ ((3 ≤ f ∧ f < 128) ∨ (192 ≤ f ∧ 6 ≤ (f :: b).length ∧ ¬ (at_ (f :: b) 5 < 225 ∧ at_ (f :: b) 5 % 45 / 9 + at_ (f :: b) 5 % 9 ≤ 4)))) := by
  have hat : ∀ i, at_ (f :: b) i < 256 := fun i => by
    unfold at_
    rw [List.getD_eq_getElem?_getD]
    cases e : (f :: b)[i]? with
    | none => simp
    | some x =>
      rcases List.mem_cons.1 (List.mem_of_getElem? e) with h | h
      · rw [h]; exact hf
      · exact hb x h
  by_cases h0 : f = 0
  · subst h0
    refine .inl ⟨by simp [getA, at_zero], by omega, by simp [getA, at_zero, wantN], by simp [wantN], ?_⟩
    simp [getA, at_zero, wantN, putA, zeroC]
  · by_cases h1 : 2 < f ∧ f < 128
    · refine .inr (.inr ⟨by simp [getA, at_zero, h0, h1], by simp [getA, at_zero, h0, h1], .inl (by omega)⟩)
    · by_cases h2 : (f :: b).length < wantN f
      · have e : getA (f :: b) = (zeroC, 0, 1) := by unfold getA; rw [if_neg (by simp), at_zero, if_neg h0, if_neg h1, if_pos h2]
        rw [e]
        exact .inr (.inl ⟨rfl, by omega, rfl, h2⟩)
      · by_cases h3 : f < 3
        · have e : getA (f :: b) = (⟨f, ((256 * at_ (f :: b) 1 + at_ (f :: b) 2 + 1 : Nat) : Int), ((256 * at_ (f :: b) 1 + at_ (f :: b) 2 + 1 : Nat) : Int), 0, 0, 0⟩, 3, 0) := by
            unfold getA
            rw [if_neg (by simp), at_zero, if_neg h0, if_neg h1, if_neg h2, if_pos h3]
          have hw : wantN f = 3 := by unfold wantN; rw [if_neg h0, if_pos h3]
          rw [e]
          refine .inl ⟨rfl, by omega, hw.symm, by omega, ?_⟩
          rw [hw] at h2 ⊢
          match b, h2 with
          | b1 :: b2 :: r, _ =>
            have a1 := hat 1
            have a2 := hat 2
            simp only [at_cons, at_zero] at a1 a2 ⊢
            unfold putA
            simp only
            rw [if_neg (by omega), if_neg (by omega), if_pos (by omega), if_neg (by omega)]
            simp only [List.take_succ_cons, List.take_zero, Prod.mk.injEq, List.cons.injEq, and_true]
            omega
          | [b1], h => simp at h
          | [], h => simp at h
        · by_cases h4 : f < 192
          · have e : getA (f :: b) = (⟨((3 + f / 32 - 4 : Nat) : Int), ((256 * at_ (f :: b) 1 + at_ (f :: b) 2 + 1 + 65536 * (f % 32) : Nat) : Int), ((256 * at_ (f :: b) 3 + at_ (f :: b) 4 + 1 : Nat) : Int), 0, 0, 0⟩, 5, 0) := by
              unfold getA
              rw [if_neg (by simp), at_zero, if_neg h0, if_neg h1, if_neg h2, if_neg h3, if_pos h4]
            have hw : wantN f = 5 := by unfold wantN; rw [if_neg h0, if_neg h3, if_neg (by omega), if_pos h4]
            rw [e]
            refine .inl ⟨rfl, by omega, hw.symm, by omega, ?_⟩
            rw [hw] at h2 ⊢
            match b, h2 with
            | b1 :: b2 :: b3 :: b4 :: r, _ =>
              have a1 := hat 1
              have a2 := hat 2
              have a3 := hat 3
              have a4 := hat 4
              simp only [at_cons, at_zero] at a1 a2 a3 a4 ⊢
              unfold putA
              simp only
              rw [if_neg (by omega), if_neg (by omega), if_neg (by omega), if_neg (by omega), if_pos (by omega)]
              unfold five
              simp only [List.take_succ_cons, List.take_zero, Prod.mk.injEq, List.cons.injEq, and_true]
              omega
            | [b1, b2, b3], h => simp at h
            | [b1, b2], h => simp at h
            | [b1], h => simp at h
            | [], h => simp at h
          · have hw : wantN f = 6 := by unfold wantN; rw [if_neg h0, if_neg h3, if_neg (by omega), if_neg h4]
            by_cases h5 : (propsB (at_ (f :: b) 5 : Int)).2 ≠ 0
            · have e : getA (f :: b) = (zeroC, 0, 2) := by
                unfold getA
                rw [if_neg (by simp), at_zero, if_neg h0, if_neg h1, if_neg h2, if_neg h3, if_neg h4, if_pos h5]
              rw [e]
              exact .inr (.inr ⟨rfl, rfl, .inr ⟨by omega, by omega, props_bad (hat 5) h5⟩⟩)
            · have e : getA (f :: b) = (⟨((3 + f / 32 - 4 : Nat) : Int), ((256 * at_ (f :: b) 1 + at_ (f :: b) 2 + 1 + 65536 * (f % 32) : Nat) : Int), ((256 * at_ (f :: b) 3 + at_ (f :: b) 4 + 1 : Nat) : Int), (propsB (at_ (f :: b) 5 : Int)).1.lc, (propsB (at_ (f :: b) 5 : Int)).1.lp, (propsB (at_ (f :: b) 5 : Int)).1.pb⟩, 6, 0) := by
                unfold getA
                rw [if_neg (by simp), at_zero, if_neg h0, if_neg h1, if_neg h2, if_neg h3, if_neg h4, if_neg h5]
              rw [e]
              refine .inl ⟨rfl, by omega, hw.symm, by omega, ?_⟩
              rw [hw] at h2 ⊢
              have hpb := props_back (hat 5) (by simpa using h5)
              match b, h2 with
              | b1 :: b2 :: b3 :: b4 :: b5 :: r, _ =>
                have a1 := hat 1
                have a2 := hat 2
                have a3 := hat 3
                have a4 := hat 4
                simp only [at_cons, at_zero] at a1 a2 a3 a4 hpb ⊢
                unfold putA
                simp only
                rw [if_neg (by omega), if_neg (by omega), if_neg (by omega), if_neg (by omega), if_neg (by omega), hpb, if_neg (by simp)]
                unfold five
                simp only [List.take_succ_cons, List.take_zero, Prod.mk.injEq, List.cons.injEq, and_true, List.cons_append, List.nil_append, Int.toNat_natCast]
                omega
              | [b1, b2, b3, b4], h => simp at h
              | [b1, b2, b3], h => simp at h
              | [b1, b2], h => simp at h
              | [b1], h => simp at h
              | [], h => simp at h
theorem dic_up : ∀ b, b < 40 → dic b < dic (b + 1) := by decide +kernel
theorem dic_back : ∀ b, b < 41 → dbF (dic b) 0 40 = b := by decide +kernel
theorem dic_rng : ∀ b, b < 41 → 1 ≤ dic b ∧ dic b ≤ 4294967295 := by decide +kernel
theorem dbF_spec (n : Nat) : ∀ k b, b + k = 40 → b ≤ dbF n b k ∧ dbF n b k ≤ 40 ∧ (n ≤ 4294967295 → n ≤ dic (dbF n b k)) ∧ ∀ j, b ≤ j → j < dbF n b k → dic j < n
  | 0, b, h => ⟨by simp [dbF]; omega, by simp [dbF], fun hn => by simp [dbF, dic]; omega, fun j h1 h2 => by simp [dbF] at h2; omega⟩
  | k + 1, b, h => by
    unfold dbF
    split
    · next hn => exact ⟨Nat.le_refl _, by omega, fun _ => hn, fun j h1 h2 => by omega⟩
    · next hn =>
      obtain ⟨h1, h2, h3, h4⟩ := dbF_spec n k (b + 1) (by omega)
      refine ⟨by omega, h2, h3, fun j h5 h6 => ?_⟩
      by_cases e : j = b
      · subst e; omega
      · exact h4 j (by omega) h6
end Ck17
end Go.Proofs.YtkncbanodpfccaaDoor

/- Cuts of lists of any kind; of no statement by themselves. -/
namespace Go.Proofs.YtkncbanodpfccaaDoor
open Go.RowKit
set_option linter.unusedVariables false

/-- Where a cut begins. -/
def cutZ (ad : Option Addr) (c lo size : Nat) : Option Addr := if c = lo then ad else ad.map (·.add (lo * size))
theorem addr_add00 (x : Addr) : x.add 0 = x := by unfold Addr.add; simp
theorem run_cutZ_lo {T E : TypeId} {size : Nat} (hu : Tryd.prog.underlying T = some (.slice (Tryd.prog.elem T))) (he : Tryd.prog.elem T = E) (hs : (sizeOf E).run Tryd.prog = fun w => .ok size w) (ad : Option Addr) (m c k : Nat) (w : World) (hk : k ≤ m) : (Instr.sliceAt T (.slice ad m c) (some (.int .i64 (k : Int))) none none).run Tryd.prog w = .ok (.slice (cutZ ad c k size) (m - k) (c - k)) w := by
  rw [run_sliceAt_slice w T _ _ _ _ hu, run_slice_l w T ad m c hu .i64 (k : Int) (by omega) (by omega), he, hs]
  unfold cutZ sliced
  simp [Result.andThen]
theorem run_cutZ_hi {T E : TypeId} {size : Nat} (hu : Tryd.prog.underlying T = some (.slice (Tryd.prog.elem T))) (he : Tryd.prog.elem T = E) (hs : (sizeOf E).run Tryd.prog = fun w => .ok size w) (ad : Option Addr) (m c k : Nat) (w : World) (hk : k ≤ c) : (Instr.sliceAt T (.slice ad m c) none (some (.int .i64 (k : Int))) none).run Tryd.prog w = .ok (.slice ad k c) w := by
  rw [run_sliceAt_slice w T _ _ _ _ hu, run_slice_h w T ad m c hu .i64 (k : Int) (by omega) (by omega), he, hs]
  unfold sliced
  simp [Result.andThen]
  cases ad <;> simp [addr_add00]
theorem owns_keepZ {w w' : World} {B size : Nat} {e : TypeId} {v : Value} {n : Nat} {xs : List Value} (h : w.ownsRow B e size v n xs) (hc : Chg (fun _ => False) w w') : w'.ownsRow B e size v n xs := by
  refine ⟨h.1, ?_⟩
  rcases h.2 with hn | ⟨g, cap, cur, rfl, hb, hgg, rest⟩
  · exact .inl hn
  · exact .inr ⟨g, cap, cur, rfl, hb, (hc.block g (lt_of_blk hgg) (fun f => f)).trans hgg, rest⟩
/-- The end of a list of one's own, as a source. -/
theorem from_end {w : World} {B size : Nat} {t : TypeId} {ad : Option Addr} {n c k : Nat} {xs : List Value} (h : w.ownsRow B t size (.slice ad n c) n xs) (hk : k ≤ n) : From w (cutZ ad c k size) (n - k) (c - k) size (xs.drop (k * size)) := by
  refine ⟨by rw [List.length_drop, h.1, Nat.sub_mul], ?_⟩
  rcases h.2 with ⟨e0, e1⟩ | ⟨g, cap, cur, e0, e1⟩
  · simp only [Value.slice.injEq] at e0
    obtain ⟨rfl, rfl, rfl⟩ := e0
    obtain rfl : k = 0 := by omega
    exact .inl ⟨by unfold cutZ; simp, rfl, rfl⟩
  · simp only [Value.slice.injEq, true_and] at e0
    obtain ⟨rfl, rfl⟩ := e0
    have hc := e1.2.2.1
    unfold cutZ
    by_cases e : c = k
    · rw [if_pos e]
      refine .inr ⟨_, rfl, fun j u hu => ?_⟩
      exfalso
      have h1 := (List.getElem?_eq_some_iff.1 hu).1
      rw [List.length_drop, h.1] at h1
      obtain rfl : k = n := by omega
      omega
    · rw [if_neg e]
      refine .inr ⟨_, rfl, fun j u hu => ?_⟩
      rw [List.getElem?_drop] at hu
      have h1 := h.cells (g := g) rfl _ _ hu
      rw [addk, Nat.zero_add] at h1
      show w.cell? (((⟨g, 0, none⟩ : Addr).add (k * size)).add j) = some u
      rw [addk, addk, Nat.zero_add]
      exact h1
theorem from_front {w : World} {B size : Nat} {t : TypeId} {ad : Option Addr} {n c k : Nat} {xs : List Value} (h : w.ownsRow B t size (.slice ad n c) n xs) (hk : k ≤ n) : From w ad k c size (xs.take (k * size)) := by
  have hl : (xs.take (k * size)).length = k * size := by
    rw [List.length_take, h.1]
    exact Nat.min_eq_left (Nat.mul_le_mul_right _ hk)
  refine ⟨hl, ?_⟩
  rcases h.2 with ⟨e0, e1⟩ | ⟨g, cap, cur, e0, e1⟩
  · simp only [Value.slice.injEq] at e0
    obtain ⟨rfl, rfl, rfl⟩ := e0
    exact .inl ⟨rfl, by omega, rfl⟩
  · simp only [Value.slice.injEq, true_and] at e0
    obtain ⟨rfl, rfl⟩ := e0
    refine .inr ⟨_, rfl, fun j u hu => ?_⟩
    have h2 := (List.getElem?_eq_some_iff.1 hu).1
    rw [List.getElem?_take_of_lt (by omega)] at hu
    exact h.cells (g := g) rfl _ _ hu
end Go.Proofs.YtkncbanodpfccaaDoor

/- Lists of bytes of one's own; of no statement by themselves. -/
namespace Go.Proofs.YtkncbanodpfccaaDoor
open Go.RowKit
set_option linter.unusedVariables false
set_option linter.unusedSimpArgs false
/-- Bytes of one's own. -/
def ByO (w : World) (B : Nat) (v : Value) (bs : List Nat) : Prop := w.ownsRow B 5 1 v bs.length (ins .u8 (nums bs))
theorem info5u : (Tryd.prog.info? 5).map (fun i => (i.zero, i.size, i.bytes)) = some (some (.int .u8 0), 1, 1) := by kernel_rfl
theorem elemBy : Tryd.prog.elem 25 = 5 := by kernel_rfl
theorem sizeBy : (sizeOf 5).run Tryd.prog = fun w => .ok 1 w := by kernel_rfl
theorem undBy : Tryd.prog.underlying 25 = some (.slice (Tryd.prog.elem 25)) := by kernel_rfl
theorem oneB (xs : List Nat) : ∀ u ∈ (nums xs).map (Value.int .u8), u.oneCell' = true := fun u hu => by
  obtain ⟨x, _, rfl⟩ := List.mem_map.1 hu
  rfl
/-- Two lists of bytes one behind the other, of one's own. -/
theorem byO_app {w : World} {B : Nat} {v : Value} {n : Nat} {a b : List Nat} (h : w.ownsRow B 5 1 v n ((nums a).map (Value.int .u8) ++ (nums b).map (Value.int .u8))) : ByO w B v (a ++ b) := by
  have hl := h.1
  unfold ByO
  rw [show ins .u8 (nums (a ++ b)) = (nums a).map (Value.int .u8) ++ (nums b).map (Value.int .u8) by simp [ins, nums]]
  have e : (a ++ b).length = n := by simp [nums] at hl ⊢; omega
  rw [e]
  exact h
theorem byO_row {w : World} {B n : Nat} {ad : Option Addr} {c : Nat} {bs : List Nat} (h : ByO w B (.slice ad n c) bs) : Row8 w ad n c (nums bs) ∧ bs.length = n ∧ n ≤ c := by
  have hf : bs.length = n := by
    rcases h.2 with ⟨e, e2⟩ | ⟨g, cap, cur, e, _⟩
    · simp only [Value.slice.injEq] at e; omega
    · simp only [Value.slice.injEq] at e; omega
  unfold ByO at h
  rw [hf] at h
  exact ⟨row8_own h, hf, own_cap h⟩
theorem byO_form {w : World} {B : Nat} {v : Value} {bs : List Nat} (h : ByO w B v bs) : ∃ ad c, v = .slice ad bs.length c := form1 h
theorem ByO.new {w w' : World} {B : Nat} {v : Value} {bs : List Nat} (h : ByO w B v bs) (hc : Chg (fun _ => False) w w') : ByO w' B v bs := ownsRow_keep h hc (fun _ _ f => f)
theorem row8_take {w : World} {ad : Option Addr} {n c i : Nat} {bs : List Nat} (h : Row8 w ad n c (nums bs)) (hi : i ≤ n) : Row8 w ad i c (nums (bs.take i)) := by
  have hl := h.1
  rw [nums_len] at hl
  refine ⟨by rw [nums_len, List.length_take]; omega, ?_⟩
  rcases h.2 with ⟨e1, e2, e3⟩ | ⟨x, e, hx⟩
  · exact .inl ⟨e1, by omega, e3⟩
  · refine .inr ⟨x, e, fun j u hu => hx j u ?_⟩
    rw [show nums (bs.take i) = (nums bs).take i by simp [nums, List.map_take]] at hu
    rw [List.map_take, List.getElem?_take] at hu
    split at hu
    · exact hu
    · cases hu
theorem wr8 {x : Int} (h0 : 0 ≤ x) (h1 : x ≤ 255) : IntKind.u8.wrap x = x := by simp [IntKind.wrap, IntKind.signed, IntKind.bits]; omega
theorem byO_nil (w : World) (B : Nat) : ByO w B (.slice none 0 0) [] := World.ownsRow_nil _ _ _ _
theorem byO_lit (w0 : World) (o : Obj) (l : List Nat) (n : Nat) (hn : l.length = n) (hm : n ≤ 1000) (vs : Array Value) (hv : vs.toList = ins .u8 (nums l)) : ByO ((w0.alloc o).alloc (.cells vs 5)) w0.heap.size (.slice (some ⟨w0.heap.size + 1, 0, none⟩) n n) l := by
  have e : (w0.alloc o).heap.size = w0.heap.size + 1 := by simp
  rw [← e]
  refine owns_base (B := (w0.alloc o).heap.size) ?_ (by omega)
  rw [hn]
  generalize w0.alloc o = w at *
  have h := World.ownsRow_lit (base := w.heap.size) (e := 5) (size := 1) w vs n (Nat.le_refl _) (by unfold maxLen; omega) (by rw [← Array.length_toList, hv, ins_len, nums_len, hn]; omega)
  rw [hv] at h
  exact h
/-- Bytes by their numbers. -/
theorem row8_at {w : World} {ad : Option Addr} {n c : Nat} {bs : List Nat} (h : Row8 w ad n c (nums bs)) (hn : 0 < n) : ∃ b off, ad = some ⟨b, off, none⟩ ∧ ∀ i, i < n → w.cell? ⟨b, off + i, none⟩ = some (.int .u8 ((bs.getD i 0 : Nat) : Int)) := by
  have hl := h.1
  rw [nums_len] at hl
  rcases h.2 with ⟨_, e, _⟩ | ⟨x, e, hx⟩
  · omega
  · have key : ∀ i, i < n → w.cell? (x.add i) = some (.int .u8 ((bs.getD i 0 : Nat) : Int)) := fun i hi => by
      refine hx i _ ?_
      have h9 : bs[i]? = some (bs.getD i 0) := by rw [List.getD_eq_getElem?_getD, List.getElem?_eq_getElem (by omega)]; rfl
      simp only [nums, List.map_map, List.getElem?_map, h9]
      rfl
    obtain ⟨b, off, sp⟩ := x
    have hs : sp = none := by
      have q := key 0 hn
      simp [Addr.add] at q
      exact World.cell?_spot q
    subst hs
    refine ⟨b, off, e, fun i hi => ?_⟩
    have q := key i hi
    rw [addk] at q
    exact q
end Go.Proofs.YtkncbanodpfccaaDoor

/- Filters and their bytes as plain mathematics; of no statement by themselves. -/
namespace Go.Proofs.YtkncbanodpfccaaDoor
open Go.RowKit
open St12
set_option linter.unusedVariables false
set_option linter.unusedSimpArgs false
/-- A number's bytes. -/
def vbn (v : Nat) : List Nat := (Vint.vb (v : Int)).map Int.toNat
theorem nums_vbn (v : Nat) : nums (vbn v) = Vint.vb (v : Int) := by
  unfold nums vbn
  rw [List.map_map]
  conv => rhs; rw [← List.map_id (Vint.vb (v : Int))]
  apply List.map_congr_left
  intro x hx
  have := (Vint.vb_bytes (v : Int) x hx).1
  simp only [Function.comp, id]
  omega
theorem vbn_len (v : Nat) : (vbn v).length = Vint.sz (v : Int) := by
  unfold vbn
  rw [List.length_map, Vint.vb_length]
theorem vbn_le (v : Nat) : 1 ≤ (vbn v).length ∧ (vbn v).length ≤ 9 := by
  rw [vbn_len]
  obtain ⟨a, b, -, -⟩ := Vint.sz_is (v := (v : Int)) rfl
  exact ⟨a, b⟩
theorem vbn_dig (v : Nat) : Rc.Dig (vbn v) := fun x hx => by
  unfold vbn at hx
  obtain ⟨y, hy, rfl⟩ := List.mem_map.1 hx
  have := Vint.vb_bytes (v : Int) y hy
  omega
theorem dig_app {a b : List Nat} (ha : Rc.Dig a) (hb : Rc.Dig b) : Rc.Dig (a ++ b) := fun x hx => by
  rcases List.mem_append.1 hx with h | h
  · exact ha x h
  · exact hb x h
theorem dig_take {a : List Nat} (h : Rc.Dig a) (k : Nat) : Rc.Dig (a.take k) := fun x hx => h x (List.mem_of_mem_take hx)
theorem dig_drop {a : List Nat} (h : Rc.Dig a) (k : Nat) : Rc.Dig (a.drop k) := fun x hx => h x (List.mem_of_mem_drop hx)
theorem dig_b8 {a : List Nat} (h : Rc.Dig a) : Vint.Bytes8 (nums a) := fun x hx => by
  unfold nums at hx
  obtain ⟨y, hy, rfl⟩ := List.mem_map.1 hx
  have := h y hy
  omega
theorem nums_app (a b : List Nat) : nums (a ++ b) = nums a ++ nums b := by simp [nums]
theorem nums_take (a : List Nat) (k : Nat) : nums (a.take k) = (nums a).take k := by simp [nums, List.map_take]
theorem nums_inj {a b : List Nat} (h : nums a = nums b) : a = b := by
  induction a generalizing b with
  | nil => cases b with
    | nil => rfl
    | cons y b => simp [nums] at h
  | cons x a ih => cases b with
    | nil => simp [nums] at h
    | cons y b =>
      simp only [nums, List.map_cons, List.cons.injEq] at h
      obtain ⟨h1, h2⟩ := h
      rw [ih h2]
      congr 1
      omega
/-- Of all bytes something is told. -/
theorem getIs_ex (xs : List Int) : ∃ v n e, Vint.GetIs xs v n e := by
  have key : ∀ m : Nat, (∃ (h : Nat) (x : Int), h < m ∧ xs[h]? = some x ∧ x < 128 ∧ ∀ (j : Nat) y, j < h → xs[j]? = some y → 128 ≤ y) ∨ ∀ (j : Nat) y, j < m → xs[j]? = some y → 128 ≤ y := by
    intro m
    induction m with
    | zero => exact .inr fun j y hj => by omega
    | succ m ih =>
      rcases ih with ⟨h, x, a, b⟩ | ih
      · exact .inl ⟨h, x, by omega, b⟩
      · cases hm : xs[m]? with
        | none =>
          refine .inr (fun j y hj hy => ?_)
          by_cases e : j = m
          · subst e; rw [hm] at hy; cases hy
          · exact ih j y (by omega) hy
        | some x =>
          by_cases hx : x < 128
          · exact .inl ⟨m, x, by omega, hm, hx, ih⟩
          · refine .inr (fun j y hj hy => ?_)
            by_cases e : j = m
            · subst e; rw [hm] at hy; simp only [Option.some.injEq] at hy; omega
            · exact ih j y (by omega) hy
  rcases key 9 with ⟨h, x, a, b, c, d⟩ | k
  · by_cases hz : 0 < h ∧ x = 0
    · exact ⟨0, 0, 2, .inr (.inr ⟨h, x, by omega, b, c, d, .inl ⟨hz.1, hz.2, rfl, rfl⟩⟩), fun f => by omega, fun _ => rfl⟩
    · exact ⟨Vint.wt (xs.take ((h : Int) + 1).toNat), (h : Int) + 1, 0, .inr (.inr ⟨h, x, by omega, b, c, d, .inr ⟨hz, rfl, rfl⟩⟩), fun _ => rfl, fun f => (f rfl).elim⟩
  · by_cases hl : xs.length ≤ 8
    · exact ⟨0, 0, 1, .inl ⟨rfl, rfl, hl, fun j y hy => k j y (by have := (List.getElem?_eq_some_iff.1 hy).1; omega) hy⟩, fun f => by omega, fun _ => rfl⟩
    · exact ⟨0, 0, 2, .inr (.inl ⟨rfl, rfl, by omega, k⟩), fun f => by omega, fun _ => rfl⟩
theorem len_unique {xs : List Int} {n e n' e' : Int} (A : Vint.LenIs xs n e) (B : Vint.LenIs xs n' e') : n' = n ∧ e' = e := by
  rcases A with ⟨rfl, rfl, a, b⟩ | ⟨rfl, rfl, a, b⟩ | ⟨h, x, a, b, c, d, r⟩
  · exact (B.cut a b).symm
  · rcases B with ⟨_, _, k, _⟩ | ⟨rfl, rfl, _⟩ | ⟨h', x', a', b', c', d', r'⟩
    · omega
    · exact ⟨rfl, rfl⟩
    · have := b h' x' (by omega) b'
      omega
  · rcases r with ⟨r1, r2, rfl, rfl⟩ | ⟨r1, rfl, rfl⟩
    · rcases B with ⟨_, _, k, l⟩ | ⟨rfl, rfl, _⟩ | ⟨h', x', a', b', c', d', r'⟩
      · have := l h x b
        omega
      · exact ⟨rfl, rfl⟩
      · have e1 : ¬ h < h' := fun hl => by have := d' h x hl b; omega
        have e2 : ¬ h' < h := fun hl => by have := d h' x' hl b'; omega
        obtain rfl : h' = h := by omega
        rw [b] at b'
        simp only [Option.some.injEq] at b'
        subst b'
        rcases r' with ⟨_, _, rfl, rfl⟩ | ⟨q, _⟩
        · exact ⟨rfl, rfl⟩
        · exact (q ⟨r1, r2⟩).elim
    · exact (B.ok a b c d r1).symm
theorem get_unique {xs : List Int} {v n e v' n' e' : Int} (A : Vint.GetIs xs v n e) (B : Vint.GetIs xs v' n' e') : v' = v ∧ n' = n ∧ e' = e := by
  obtain ⟨rfl, rfl⟩ := len_unique A.1 B.1
  refine ⟨?_, rfl, rfl⟩
  by_cases h : e' = 0
  · rw [A.2.1 h, B.2.1 h]
  · rw [A.2.2 h, B.2.2 h]
/-- What Get tells of bytes: the number, how many bytes it has, the error. -/
noncomputable def getN (bs : List Nat) : Nat × Nat × Int :=
  let t := Classical.choose (getIs_ex (nums bs))
  let n := Classical.choose (Classical.choose_spec (getIs_ex (nums bs)))
  let e := Classical.choose (Classical.choose_spec (Classical.choose_spec (getIs_ex (nums bs))))
  (t.toNat, n.toNat, e)
theorem getIs_pos {xs : List Int} {v n e : Int} (A : Vint.GetIs xs v n e) : 0 ≤ v ∧ 0 ≤ n ∧ n ≤ 9 ∧ n ≤ xs.length ∧ (e = 0 ∧ 1 ≤ n ∨ (e = 1 ∨ e = 2) ∧ n = 0 ∧ v = 0) := by
  obtain ⟨L, h0, h1⟩ := A
  have hv : 0 ≤ v := by
    by_cases e0 : e = 0
    · rw [h0 e0]; exact (Vint.wt_bd _).1
    · rw [h1 e0]; omega
  rcases L with ⟨rfl, rfl, a, b⟩ | ⟨rfl, rfl, a, b⟩ | ⟨h, x, a, b, c, d, r⟩
  · exact ⟨hv, by omega, by omega, by omega, .inr ⟨.inl rfl, rfl, h1 (by omega)⟩⟩
  · exact ⟨hv, by omega, by omega, by omega, .inr ⟨.inr rfl, rfl, h1 (by omega)⟩⟩
  · have hl := (List.getElem?_eq_some_iff.1 b).1
    rcases r with ⟨r1, r2, rfl, rfl⟩ | ⟨r1, rfl, rfl⟩
    · exact ⟨hv, by omega, by omega, by omega, .inr ⟨.inr rfl, rfl, h1 (by omega)⟩⟩
    · exact ⟨hv, by omega, by omega, by omega, .inl ⟨rfl, by omega⟩⟩
theorem getN_is (bs : List Nat) : Vint.GetIs (nums bs) ((getN bs).1 : Int) ((getN bs).2.1 : Int) (getN bs).2.2 := by
  have h := Classical.choose_spec (Classical.choose_spec (Classical.choose_spec (getIs_ex (nums bs))))
  obtain ⟨p0, p1, _⟩ := getIs_pos h
  unfold getN
  simp only
  rw [Int.toNat_of_nonneg p0, Int.toNat_of_nonneg p1]
  exact h
theorem getN_of {bs : List Nat} {v n e : Int} (h : Vint.GetIs (nums bs) v n e) : v = ((getN bs).1 : Int) ∧ n = ((getN bs).2.1 : Int) ∧ e = (getN bs).2.2 := get_unique (getN_is bs) h
theorem getN_pos (bs : List Nat) : (getN bs).2.1 ≤ 9 ∧ (getN bs).2.1 ≤ bs.length ∧ ((getN bs).2.2 = 0 ∧ 1 ≤ (getN bs).2.1 ∨ ((getN bs).2.2 = 1 ∨ (getN bs).2.2 = 2) ∧ (getN bs).2.1 = 0 ∧ (getN bs).1 = 0) := by
  have h := getIs_pos (getN_is bs)
  rw [nums_len] at h
  omega
theorem getN_vbn {v : Nat} (hv : v ≤ 9223372036854775807) (t : List Nat) : getN (vbn v ++ t) = (v, (vbn v).length, 0) := by
  have h := getN_is (vbn v ++ t)
  rw [nums_app, nums_vbn] at h
  obtain ⟨a, b, c⟩ := Vint.get_vb (v := (v : Int)) (by omega) (by omega) h
  rw [vbn_len]
  have e1 : (getN (vbn v ++ t)).1 = v := by omega
  have e2 : (getN (vbn v ++ t)).2.1 = Vint.sz (v : Int) := by omega
  generalize getN (vbn v ++ t) = g at *
  obtain ⟨g1, g2, g3⟩ := g
  simp only at e1 e2 c
  rw [e1, e2, c]
theorem getN_cut {v : Nat} (hv : v ≤ 9223372036854775807) {c : Nat} (hc : c < (vbn v).length) : getN ((vbn v).take c) = (0, 0, 1) := by
  have h := getN_is ((vbn v).take c)
  rw [nums_take, nums_vbn] at h
  rw [vbn_len] at hc
  obtain ⟨a, b, e⟩ := Vint.get_cut (v := (v : Int)) (by omega) hc h
  generalize getN ((vbn v).take c) = g at *
  obtain ⟨g1, g2, g3⟩ := g
  simp only at a b e
  rw [e, show g1 = 0 by omega, show g2 = 0 by omega]
/-- What is read is just what is made of its number. -/
theorem getN_back {bs : List Nat} (h8 : Rc.Dig bs) (h0 : (getN bs).2.2 = 0) : vbn (getN bs).1 = bs.take (getN bs).2.1 ∧ (getN bs).1 ≤ 9223372036854775807 := by
  obtain ⟨L, hv, -⟩ := getN_is bs
  rcases L with ⟨e, _⟩ | ⟨e, _⟩ | ⟨h, x, a, b, c, d, ⟨_, _, e, _⟩ | ⟨r1, _, r3⟩⟩
  · omega
  · omega
  · omega
  · obtain ⟨k1, k2⟩ := Vint.vb_of_len (dig_b8 h8) a b c d r1
    have hv := hv h0
    rw [r3, show ((h : Int) + 1).toNat = h + 1 by omega] at hv
    rw [← hv] at k1 k2
    have hn : (getN bs).2.1 = h + 1 := by omega
    refine ⟨nums_inj ?_, by omega⟩
    rw [nums_vbn, k1, nums_take, hn]
/-- A filter. -/
structure Flt where
  id : Nat
  ps : List Nat
/-- A configuration. -/
structure Cfg where
  ch : Int
  de : Int
  lc : Int
  lp : Int
  pb : Int
  di : Int
  bl : Int
  mo : Int
namespace Cn20
def zeroF : Flt := ⟨0, []⟩
/-- What Put answers. -/
def putF (f : Flt) : List Nat × Int := if 9223372036854775807 < f.id then ([], 7) else (vbn f.id ++ vbn f.ps.length ++ f.ps, 0)
/-- What Get answers. -/
noncomputable def getF (bs : List Nat) : Flt × Nat × Int :=
  if (getN bs).2.2 ≠ 0 then (zeroF, 0, (getN bs).2.2)
  else if (getN (bs.drop (getN bs).2.1)).2.2 ≠ 0 then (zeroF, 0, (getN (bs.drop (getN bs).2.1)).2.2)
  else if bs.length - (getN bs).2.1 - (getN (bs.drop (getN bs).2.1)).2.1 < (getN (bs.drop (getN bs).2.1)).1 then (zeroF, 0, 1)
  else (⟨(getN bs).1, (bs.drop ((getN bs).2.1 + (getN (bs.drop (getN bs).2.1)).2.1)).take (getN (bs.drop (getN bs).2.1)).1⟩, (getN bs).2.1 + (getN (bs.drop (getN bs).2.1)).2.1 + (getN (bs.drop (getN bs).2.1)).1, 0)
def one (f : Flt) (id : Nat) : Option Nat := if f.id = id then match f.ps with | [x] => some x | _ => none else none
/-- What Read answers. -/
def readF : List Flt → Int × Int × Int
  | [a] => match one a 33 with
    | some x => if x ≤ 40 then (0, (Ck17.dic x : Nat), 0) else (0, 0, 4)
    | none => (0, 0, 4)
  | [a, b] => match one a 3, one b 33 with
    | some y, some x => if x ≤ 40 then ((y : Int) + 1, (Ck17.dic x : Nat), 0) else (0, 0, 4)
    | _, _ => (0, 0, 4)
  | _ => (0, 0, 4)
/-- What Legal answers. -/
def legal (c : Cfg) : Int :=
  if (c.ch = 0 ∨ c.ch = 1 ∨ c.ch = 4 ∨ c.ch = 10) ∧ (0 ≤ c.lc ∧ 0 ≤ c.lp ∧ 0 ≤ c.pb ∧ c.lc ≤ 4 ∧ c.lp ≤ 4 ∧ c.lc + c.lp ≤ 4 ∧ c.pb ≤ 4) ∧ 0 ≤ c.de ∧ c.de ≤ 256 ∧ 4096 ≤ c.di ∧ c.di ≤ 67108864 ∧ 1 ≤ c.bl ∧ c.bl ≤ 2147483648 ∧ 0 ≤ c.mo ∧ c.mo ≤ 2 then 0 else 6
/-- What Of answers. -/
def ofF (c : Cfg) : List Flt × Int :=
  if legal c ≠ 0 then ([], 6)
  else ((if c.de = 0 then [] else [⟨3, [(c.de - 1).toNat]⟩]) ++ [⟨33, [(Ck17.dictB c.di).1.toNat]⟩], 0)
theorem put_ok {f : Flt} (h : f.id ≤ 9223372036854775807) : putF f = (vbn f.id ++ vbn f.ps.length ++ f.ps, 0) := by unfold putF; rw [if_neg (by omega)]
theorem put_dig {f : Flt} (h : Rc.Dig f.ps) : Rc.Dig (putF f).1 := by
  unfold putF
  split
  · exact fun x hx => by cases hx
  · exact dig_app (dig_app (vbn_dig _) (vbn_dig _)) h
/-- There and back. -/
theorem get_put {f : Flt} (h : f.id ≤ 9223372036854775807) (hp : f.ps.length ≤ 9223372036854775807) (t : List Nat) : getF ((putF f).1 ++ t) = (f, (putF f).1.length, 0) := by
  rw [put_ok h]
  simp only
  have e1 : vbn f.id ++ vbn f.ps.length ++ f.ps ++ t = vbn f.id ++ (vbn f.ps.length ++ (f.ps ++ t)) := by simp
  have g1 := getN_vbn h (vbn f.ps.length ++ (f.ps ++ t))
  have g2 := getN_vbn hp (f.ps ++ t)
  unfold getF
  rw [e1, g1]
  simp only [List.drop_left, g2]
  rw [if_neg (by omega), if_neg (by omega), if_neg (by simp)]
  rw [← List.append_assoc, ← List.length_append, List.drop_left, List.take_left]
  simp only [List.length_append]
theorem vbn_pos (v : Nat) : 0 < (vbn v).length := (vbn_le v).1
/-- A proper beginning is cut off. -/
theorem get_cut {f : Flt} (h : f.id ≤ 9223372036854775807) (hp : f.ps.length ≤ 9223372036854775807) {c : Nat} (hc : c < (putF f).1.length) : getF ((putF f).1.take c) = (zeroF, 0, 1) := by
  rw [put_ok h] at hc ⊢
  simp only [List.length_append] at hc ⊢
  rw [List.append_assoc]
  unfold getF
  by_cases h1 : c < (vbn f.id).length
  · rw [List.take_append_of_le_length (by omega), getN_cut h h1]
    simp
  · have e1 : (vbn f.id ++ (vbn f.ps.length ++ f.ps)).take c = vbn f.id ++ (vbn f.ps.length ++ f.ps).take (c - (vbn f.id).length) := by
      rw [List.take_append, List.take_of_length_le (by omega)]
    rw [e1, getN_vbn h]
    simp only [List.drop_left]
    rw [if_neg (by omega)]
    generalize hd : c - (vbn f.id).length = d
    by_cases h2 : d < (vbn f.ps.length).length
    · rw [List.take_append_of_le_length (by omega), getN_cut hp h2]
      simp
    · have e2 : (vbn f.ps.length ++ f.ps).take d = vbn f.ps.length ++ f.ps.take (d - (vbn f.ps.length).length) := by
        rw [List.take_append, List.take_of_length_le (by omega)]
      rw [e2, getN_vbn hp]
      rw [if_neg (by simp), if_pos (by simp only [List.length_append, List.length_take]; omega)]
theorem get_pos (bs : List Nat) : (getF bs).2.1 ≤ bs.length ∧ ((getF bs).2.2 = 0 ∨ ((getF bs).2.2 = 1 ∨ (getF bs).2.2 = 2) ∧ (getF bs).2.1 = 0 ∧ (getF bs).1 = zeroF) := by
  have h1 := getN_pos bs
  have h2 := getN_pos (bs.drop (getN bs).2.1)
  rw [List.length_drop] at h2
  unfold getF
  split
  · exact ⟨by simp, .inr ⟨by simp only; omega, rfl, rfl⟩⟩
  · split
    · exact ⟨by simp, .inr ⟨by simp only; omega, rfl, rfl⟩⟩
    · split
      · exact ⟨by simp, .inr ⟨by simp, rfl, rfl⟩⟩
      · exact ⟨by simp only; omega, .inl rfl⟩
theorem get_dig {bs : List Nat} (h : Rc.Dig bs) : Rc.Dig (getF bs).1.ps := by
  unfold getF
  split
  · exact fun x hx => by cases hx
  · split
    · exact fun x hx => by cases hx
    · split
      · exact fun x hx => by cases hx
      · exact dig_take (dig_drop h _) _
/-- What is read is what is laid of it. -/
theorem get_back {bs : List Nat} (h8 : Rc.Dig bs) (h0 : (getF bs).2.2 = 0) : putF (getF bs).1 = (bs.take (getF bs).2.1, 0) ∧ (getF bs).1.id ≤ 9223372036854775807 ∧ (getF bs).1.ps.length ≤ (getF bs).2.1 := by
  have p1 := getN_pos bs
  have p2 := getN_pos (bs.drop (getN bs).2.1)
  rw [List.length_drop] at p2
  unfold getF at h0 ⊢
  split at h0
  · rename_i h; exact absurd h0 h
  · rename_i h
    have h := Decidable.not_not.1 h
    split at h0
    · rename_i k; exact absurd h0 k
    · rename_i k
      have k := Decidable.not_not.1 k
      split at h0
      · simp at h0
      · rename_i m
        rw [if_neg (by simpa using h), if_neg (by simpa using k), if_neg m]
        obtain ⟨a1, a2⟩ := getN_back h8 h
        obtain ⟨b1, b2⟩ := getN_back (dig_drop h8 (getN bs).2.1) k
        generalize getN (bs.drop (getN bs).2.1) = g at *
        generalize getN bs = q at *
        obtain ⟨q1, q2, q3⟩ := q
        obtain ⟨g1, g2, g3⟩ := g
        simp only at *
        have hl : ((bs.drop (q2 + g2)).take g1).length = g1 := by rw [List.length_take, List.length_drop]; omega
        refine ⟨?_, a2, by rw [hl]; omega⟩
        rw [put_ok a2]
        simp only
        rw [hl, a1, b1]
        refine congrArg (fun z : List Nat => (z, (0 : Int))) ?_
        rw [show q2 + g2 + g1 = q2 + (g2 + g1) by omega, List.take_add, List.take_add, List.drop_drop, List.append_assoc]
end Cn20
end Go.Proofs.YtkncbanodpfccaaDoor
