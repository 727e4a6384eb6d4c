/- Several texts in one, none of a statement by itself: Wb, Sm, Wr, Ws, Wt, Wp. -/
import Derived.Test.YtlnocjicmofjfaaDoorBoundA
import Derived.Test.YtlnocjicmofjfaaDoorWm
import Derived.BigQuiet
import Derived.Deep.QuietTactic
import Derived.Laws.AppendOwnNone
import Derived.Laws.CopyOwn
/- What the window's texts stand on: numbers as bytes, lists of one's own, strings made of them; of no statement by itself. -/
namespace Go.Proofs.YtlnocjicmofjfaaDoor
open Go.RowKit
set_option linter.unusedVariables false

/-- A number of 64 bits. -/
def I64 (p : Int) : Prop := -9223372036854775808 ≤ p ∧ p ≤ 9223372036854775807
/-- Natural numbers as the model's. -/
def nums (l : List Nat) : List Int := l.map fun (n : Nat) => (n : Int)
theorem nums_len (l : List Nat) : (nums l).length = l.length := by simp [nums]
theorem nums_at (l : List Nat) (j : Nat) (h : j < l.length) : (nums l)[j]'(by rw [nums_len]; exact h) = (l[j] : Int) := by simp [nums]
theorem infoU8 : (Tryd.prog.info? 5).map (fun i => (i.zero, i.size, i.bytes)) = some (some (.int .u8 0), 1, 1) := by kernel_rfl
theorem own_from {w : World} {B : Nat} {e : TypeId} {ad : Option Addr} {c n : Nat} {xs : List Value} (h : w.ownsRow B e 1 (.slice ad n c) n xs) : From w ad n c 1 xs := by
  refine ⟨h.1, ?_⟩
  rcases h.2 with ⟨e0, e1⟩ | ⟨g, cap, cur, e0, _⟩
  · simp only [Value.slice.injEq] at e0
    exact .inl ⟨e0.1, e1, e0.2.2⟩
  · simp only [Value.slice.injEq, true_and] at e0
    obtain ⟨rfl, rfl⟩ := e0
    exact .inr ⟨_, rfl, fun j u hu => h.cells (g := g) rfl j u hu⟩
theorem From.keep {w w' : World} {ad : Option Addr} {m c size : Nat} {news : List Value} (h : From w ad m c size news) (hc : Chg (fun _ => False) w w') : From w' ad m c size news := by
  refine ⟨h.1, ?_⟩
  rcases h.2 with e | ⟨x, rfl, hx⟩
  · exact .inl e
  · exact .inr ⟨x, rfl, fun j u hu => cell_chg (hx j u hu) hc⟩
theorem own_empty (w : World) (t : TypeId) : (w.alloc (.cells #[] t)).ownsRow w.heap.size t 1 (.slice (some ⟨w.heap.size, 0, none⟩) 0 0) 0 [] :=
  ⟨rfl, .inr ⟨w.heap.size, 0, #[], rfl, Nat.le_refl _, heap_alloc_last w _, Nat.le_refl _, by unfold maxLen; omega, rfl, rfl⟩⟩
theorem step_append_moved {P : Program} {ops : Array Oper} {o : Oper} {a : Act} {w : World} {K : Act → World → Prop} {Q : Exit → Act → World → Prop} {E : Prop} (hgd : o.guard = none) (s x : Operand) (t : TypeId)
    (ho : o.op = .call { callee := .builtin .append, args := #[s, x], argTypes := #[t, t] })
    (B : Nat) (e : TypeId) (i : TypeInfo) (z : Value) (size bytes : Nat) (ht : P.underlying t = some (.slice e)) (hi : P.info? e = some i) (hz : i.zero = some z)
    (hsize : i.size = size) (hby : i.bytes = bytes) (hzs : z.cells.size = size) (hsz : 0 < size)
    (v : Value) (n : Nat) (xs : List Value) (hs : a.eval s = v) (ad : Option Addr) (m c : Nat) (hx : a.eval x = .slice ad m c) (news : List Value)
    (hown : w.ownsRow B e size v n xs) (hsrc : From w ad m c size news) (h1 : ∀ u ∈ news, u.oneCell' = true)
    (h63 : n + m ≤ maxLen) (hbytes : (n + m) * bytes ≤ 140737488355328) (hB : B ≤ w.heap.size)
    (h : ∀ v' w', w'.ownsRow B e size v' (n + m) (xs ++ news) → w.grownBy w' v.ownBlock → Moved w v v' → K (a.put o.dst v') w') :
    if Region.wanted o (yielded ops a.tmps) = true then Oper.wp P o a w K Q else E := by
  have hw : Region.wanted o (yielded ops a.tmps) = true := by simp [Region.wanted, hgd]
  rw [if_pos hw]
  obtain ⟨v', w', hr, h2, h3, h4⟩ := run_append_moved (P := P) w B t o.type e i z size bytes ht hi hz hsize hby hzs hsz v n xs hown ad m c news hsrc h1 h63 hbytes hB
  unfold Oper.wp
  simp [execOp, ho, resolve, invoke, builtin, hs, hx, hr, Result.andThen]
  exact h v' w' h2 h3 h4
theorem row8_own {w : World} {B : Nat} {ad : Option Addr} {c n : Nat} {xs : List Int} (h : w.ownsRow B 5 1 (.slice ad n c) n (ins .u8 xs)) : Row8 w ad n c xs := by
  have hl : n = xs.length := by have := h.1; simp [ins] at this; omega
  refine ⟨hl.symm, ?_⟩
  rcases h.2 with ⟨e0, e1⟩ | ⟨g, cap, cur, e0, _⟩
  · simp only [Value.slice.injEq] at e0
    exact .inl ⟨e0.1, e1, e0.2.2⟩
  · simp only [Value.slice.injEq, true_and] at e0
    obtain ⟨rfl, rfl⟩ := e0
    exact .inr ⟨_, rfl, fun j u hu => h.cells (g := g) rfl j u hu⟩
theorem conv_own {w : World} {B : Nat} {ad : Option Addr} {c n : Nat} {xs : List Int} (h : w.ownsRow B 5 1 (.slice ad n c) n (ins .u8 xs)) :
    (convert 24 9 (.slice ad n c)).run Tryd.prog w = .ok (.string (strOfNums xs)) w := Bk.conv8_here (row8_own h)
theorem form1 {w : World} {B : Nat} {t : TypeId} {lv : Value} {n : Nat} {xs : List Value} (h : w.ownsRow B t 1 lv n xs) : ∃ a c, lv = .slice a n c := by
  rcases h.2 with ⟨rfl, rfl⟩ | ⟨g, cap, cur, rfl, _⟩
  · exact ⟨none, 0, rfl⟩
  · exact ⟨_, cap, rfl⟩
theorem wr64 {p : Int} (h : 0 ≤ p) (h2 : p ≤ 4611686018427387904) : IntKind.i64.wrap p = p := by simp [IntKind.wrap, IntKind.signed, IntKind.bits]; omega
theorem quiet_of {P : Program} {f : FuncId} {args : Array Value} {X : Ending} {w : World} {k : Nat} (h : Calls P f args (w.drewN k) fun e w' => e = X ∧ w.drewN k = w') : Calls P f args (w.drewN k) fun e w'' => e = X ∧ ∃ m, w'' = w.drewN m :=
  h.mono fun _ _ ⟨h1, h2⟩ => ⟨h1, k, h2.symm⟩
theorem moved_from {w w1 : World} {v v2 : Value} (hs : w.heap.size ≤ w1.heap.size) (hm : Moved w1 v v2) : Moved w v v2 := fun g e => by
  rcases hm g e with e | e
  · exact .inl e
  · exact .inr (by omega)
/-- A list of numbers in memory. -/
def IntsL (w : World) (a : Option Addr) (l : List Int) : Prop := ∀ (k : Nat) (i : Int), l[k]? = some i → ∃ b off, a = some ⟨b, off, none⟩ ∧ w.cell? ⟨b, off + k, none⟩ = some (.int .i64 i)
theorem IntsL.new {w w' : World} {a : Option Addr} {l : List Int} (h : IntsL w a l) (hc : Chg (fun _ => False) w w') : IntsL w' a l := fun k i hk => by
  obtain ⟨b, off, e, h1⟩ := h k i hk
  exact ⟨b, off, e, cell_chg h1 hc⟩
theorem nums_append (a b : List Nat) : nums (a ++ b) = nums a ++ nums b := by simp [nums]
theorem ins_append (a b : List Int) : ins .u8 (a ++ b) = ins .u8 a ++ ins .u8 b := by simp [ins]
theorem ins_map (a : List Int) : ins .u8 a = a.map (Value.int .u8) := rfl
theorem cell00 {w : World} {a : Nat} {x : Value} {t : TypeId} (h : w.heap[a]? = some (.cells #[x] t (0, 0))) : w.cell? ⟨a, 0, none⟩ = some x := by simp [World.cell?, h]
theorem addr_add (x : Addr) (i j : Nat) : (x.add i).add j = x.add (i + j) := by
  unfold Addr.add
  by_cases hi : i = 0 <;> by_cases hj : j = 0 <;> simp [hi, hj, Nat.add_assoc]
theorem row8_cut {w : World} {ad : Option Addr} {m c : Nat} {xs : List Int} (h : Row8 w ad m c xs) (hmc : m ≤ c) (lo n c' : Nat) (hn : lo + n ≤ m) (hc' : c = 0 → c' = 0) :
    Row8 w (if c = lo then ad else ad.map (·.add lo)) n c' ((xs.drop lo).take n) := by
  have hl := h.1
  refine ⟨by simp; omega, ?_⟩
  rcases h.2 with ⟨rfl, rfl, rfl⟩ | ⟨x, rfl, hx⟩
  · refine .inl ⟨by simp, by omega, hc' rfl⟩
  · by_cases e : c = lo
    · rw [if_pos e]
      have hn0 : n = 0 := by omega
      subst hn0
      exact .inr ⟨x, rfl, fun j u hu => by simp at hu⟩
    · rw [if_neg e]
      refine .inr ⟨_, rfl, fun j u hu => ?_⟩
      rw [List.map_take, List.map_drop, List.getElem?_take] at hu
      split at hu
      · rw [List.getElem?_drop] at hu
        have := hx (lo + j) u hu
        rw [addr_add]
        exact this
      · cases hu
theorem own_cap {w : World} {B : Nat} {e : TypeId} {ad : Option Addr} {c n : Nat} {xs : List Value} (h : w.ownsRow B e 1 (.slice ad n c) n xs) : n ≤ c := by
  rcases h.2 with ⟨e0, e1⟩ | ⟨g, cap, cur, e0, _, _, hc, _⟩
  · omega
  · simp only [Value.slice.injEq, true_and] at e0
    omega
theorem nums_cut (bs : List Nat) (lo n : Nat) : ((nums bs).drop lo).take n = nums ((bs.drop lo).take n) := by simp [nums, List.map_take, List.map_drop]
end Go.Proofs.YtlnocjicmofjfaaDoor

/- Mathematics of states, slots and properties; of no statement by itself. -/
namespace Go.Proofs.YtlnocjicmofjfaaDoor
set_option linter.unusedVariables false

/-- A state; a symbol; properties. -/
structure Stt where
  n : Int
  a : Int
  b : Int
  c : Int
  d : Int
structure Sym where
  k : Int
  y : Int
  l : Int
  d : Int
structure Prp where
  lc : Int
  lp : Int
  pb : Int
namespace St12
def st0 : Stt := ⟨0, 1, 1, 1, 1⟩
def zero : Stt := ⟨0, 0, 0, 0, 0⟩
def okR (x : Int) : Prop := 1 ≤ x ∧ x ≤ 4294967295
instance (x : Int) : Decidable (okR x) := by unfold okR; exact inferInstance
def right (s : Stt) : Prop := (0 ≤ s.n ∧ s.n ≤ 11) ∧ okR s.a ∧ okR s.b ∧ okR s.c ∧ okR s.d
instance (s : Stt) : Decidable (right s) := by unfold right; exact inferInstance
/-- 0, or what is wrong with a symbol. -/
def formed (y : Sym) : Int :=
  if y.k = 1 ∨ y.k = 4 then 0
  else if y.k = 2 then (if (2 ≤ y.l ∧ y.l ≤ 273) ∧ 1 ≤ y.d ∧ y.d ≤ 4294967295 then 0 else 7)
  else if y.k = 3 then (if (2 ≤ y.l ∧ y.l ≤ 273) ∧ 0 ≤ y.d ∧ y.d ≤ 3 then 0 else 7)
  else 6
/-- The number behind a kind. -/
def mvd (n k : Int) : Int :=
  if k = 1 then (if n < 4 then 0 else if n < 10 then n - 3 else n - 6)
  else if 7 ≤ n then (if k = 2 then 10 else 11)
  else if k = 2 then 7 else if k = 3 then 8 else 9
/-- The distances behind a symbol. -/
def reps (s : Stt) (y : Sym) : Int × Int × Int × Int :=
  if y.k = 2 then (y.d, s.a, s.b, s.c)
  else if y.k = 3 then (if y.d = 1 then (s.b, s.a, s.c, s.d) else if y.d = 2 then (s.c, s.a, s.b, s.d) else if y.d = 3 then (s.d, s.a, s.b, s.c) else (s.a, s.b, s.c, s.d))
  else (s.a, s.b, s.c, s.d)
def nxt (s : Stt) (y : Sym) : Stt × Int :=
  if ¬ right s then (zero, 7)
  else if formed y ≠ 0 then (zero, formed y)
  else (⟨mvd s.n y.k, (reps s y).1, (reps s y).2.1, (reps s y).2.2.1, (reps s y).2.2.2⟩, 0)
def lit (n : Int) : Bool := decide (0 ≤ n) && decide (n ≤ 6)
theorem formed_vals (y : Sym) : formed y = 0 ∨ formed y = 6 ∨ formed y = 7 := by
  unfold formed
  split
  · exact .inl rfl
  · split
    · split
      · exact .inl rfl
      · exact .inr (.inr rfl)
    · split
      · split
        · exact .inl rfl
        · exact .inr (.inr rfl)
      · exact .inr (.inl rfl)
theorem formed_kind {y : Sym} (h : formed y = 0) : y.k = 1 ∨ (y.k = 2 ∧ 2 ≤ y.l ∧ y.l ≤ 273 ∧ 1 ≤ y.d ∧ y.d ≤ 4294967295) ∨ (y.k = 3 ∧ 2 ≤ y.l ∧ y.l ≤ 273 ∧ 0 ≤ y.d ∧ y.d ≤ 3) ∨ y.k = 4 := by
  unfold formed at h
  split at h
  · next h1 => rcases h1 with h1 | h1 <;> simp [h1]
  · split at h
    · next h2 =>
      split at h
      · next h3 => exact .inr (.inl ⟨h2, h3.1.1, h3.1.2, h3.2.1, h3.2.2⟩)
      · simp at h
    · split at h
      · next h2 =>
        split at h
        · next h3 => exact .inr (.inr (.inl ⟨h2, h3.1.1, h3.1.2, h3.2.1, h3.2.2⟩))
        · simp at h
      · simp at h
theorem nxt_right {s : Stt} {y : Sym} (h : right s) (hf : formed y = 0) : (nxt s y).2 = 0 ∧ right (nxt s y).1 := by
  have hk := formed_kind hf
  obtain ⟨⟨h1, h2⟩, ha, hb, hc, hd⟩ := h
  unfold nxt
  rw [if_neg (by simp; exact ⟨⟨h1, h2⟩, ha, hb, hc, hd⟩), if_neg (by simp [hf])]
  refine ⟨rfl, ?_⟩
  have hm : 0 ≤ mvd s.n y.k ∧ mvd s.n y.k ≤ 11 := by
    unfold mvd
    split
    · split
      · omega
      · split <;> omega
    · split
      · split <;> omega
      · split
        · omega
        · split <;> omega
  refine ⟨hm, ?_⟩
  unfold reps
  split
  · next e =>
    have : okR y.d := by
      rcases hk with k | k | k | k
      · omega
      · exact ⟨k.2.2.2.1, k.2.2.2.2⟩
      · omega
      · omega
    exact ⟨this, ha, hb, hc⟩
  · split
    · split
      · exact ⟨hb, ha, hc, hd⟩
      · split
        · exact ⟨hc, ha, hb, hd⟩
        · split
          · exact ⟨hd, ha, hb, hc⟩
          · exact ⟨ha, hb, hc, hd⟩
    · exact ⟨ha, hb, hc, hd⟩
/-- Bits of a slot; its least distance. -/
def bitsN (i : Nat) : Nat := if i < 4 then 0 else i / 2 - 1
def least : Nat → Nat
  | 0 => 1
  | i + 1 => least i + 2 ^ bitsN i
/-- The last of the first k slots whose least distance is not above. -/
def slotK (d : Nat) : Nat → Nat
  | 0 => 0
  | k + 1 => if least k ≤ d then k else slotK d k
def slotN (d : Nat) : Nat := slotK d 64
theorem least_lt (i : Nat) : least i < least (i + 1) := by
  show least i < least i + 2 ^ bitsN i
  have := Nat.two_pow_pos (bitsN i)
  omega
theorem least_mono {i j : Nat} (h : i ≤ j) : least i ≤ least j := by
  induction h with
  | refl => exact Nat.le_refl _
  | step _ ih => exact Nat.le_trans ih (Nat.le_of_lt (least_lt _))
theorem slotK_spec {d : Nat} (hd : 1 ≤ d) : ∀ k, 0 < k → slotK d k < k ∧ least (slotK d k) ≤ d ∧ ∀ j, slotK d k < j → j < k → d < least j
  | 0, h => by omega
  | k + 1, _ => by
    unfold slotK
    split
    · next h => exact ⟨by omega, h, fun j h1 h2 => by omega⟩
    · next h =>
      rcases Nat.eq_zero_or_pos k with e | e
      · subst e
        exact absurd hd (by simpa [least] using h)
      · obtain ⟨h1, h2, h3⟩ := slotK_spec hd k e
        refine ⟨by omega, h2, fun j g1 g2 => ?_⟩
        by_cases ej : j = k
        · subst ej; omega
        · exact h3 j g1 (by omega)
theorem slotN_lt {d : Nat} (hd : 1 ≤ d) : slotN d < 64 := (slotK_spec hd 64 (by omega)).1
theorem slotN_le {d : Nat} (hd : 1 ≤ d) : least (slotN d) ≤ d := (slotK_spec hd 64 (by omega)).2.1
theorem least64 : least 64 = 4294967297 := by decide +kernel
theorem slotN_top {d : Nat} (hd : 1 ≤ d) (hm : d ≤ 4294967295) : d < least (slotN d) + 2 ^ bitsN (slotN d) := by
  obtain ⟨h1, _, h3⟩ := slotK_spec hd 64 (by omega)
  show d < least (slotN d + 1)
  by_cases e : slotN d + 1 < 64
  · exact h3 _ (by show slotN d < slotN d + 1; omega) e
  · have : slotN d + 1 = 64 := by have := slotN_lt hd; omega
    rw [this, least64]
    omega
theorem slotN_is {d i : Nat} (hi : i < 64) (h1 : least i ≤ d) (h2 : d < least (i + 1)) : slotN d = i := by
  have hd : 1 ≤ d := Nat.le_trans (least_mono (Nat.zero_le i)) h1
  have a1 := slotN_le hd
  have a2 := slotN_lt hd
  have a3 := (slotK_spec hd 64 (by omega)).2.2
  by_cases e : slotN d < i
  · have := a3 i e hi
    omega
  · by_cases e2 : i < slotN d
    · have := least_mono (i := i + 1) (j := slotN d) e2
      omega
    · omega
theorem slotN_mono {a b : Nat} (ha : 1 ≤ a) (hab : a ≤ b) : slotN a ≤ slotN b := by
  have a1 := slotN_le ha
  have a2 := slotN_lt ha
  have a3 := (slotK_spec (d := b) (by omega) 64 (by omega)).2.2
  by_cases e : slotN b < slotN a
  · have := a3 (slotN a) e a2
    omega
  · omega
theorem bitsN_le {i : Nat} (hi : i < 64) : bitsN i ≤ 30 := by unfold bitsN; split <;> omega
theorem least_le {i : Nat} (hi : i < 64) : least i ≤ 3221225473 := by
  have := least_mono (i := i) (j := 63) (by omega)
  have e : least 63 = 3221225473 := by decide +kernel
  omega
/-- What Slot and Range answer. -/
def slotA (d : Int) : Int × Int := if 1 ≤ d ∧ d ≤ 4294967295 then ((slotN d.toNat : Int), 0) else (0, 7)
def rangeA (i : Int) : Int × Int × Int := if 0 ≤ i ∧ i ≤ 63 then ((least i.toNat : Int), (bitsN i.toNat : Int), 0) else (0, 0, 7)
/-- Properties. -/
def allow (p : Prp) : Prop := (0 ≤ p.lc ∧ 0 ≤ p.lp ∧ 0 ≤ p.pb) ∧ p.lc + p.lp ≤ 4 ∧ p.pb ≤ 4
instance (p : Prp) : Decidable (allow p) := by unfold allow; exact inferInstance
def byteP (p : Prp) : Int × Int := if allow p then ((5 * p.pb + p.lp) * 9 + p.lc, 0) else (0, 6)
/-- The properties that a byte would tell. -/
def told (b : Int) : Prp := ⟨b % 9, b / 9 % 5, b / 45⟩
def propsB (b : Int) : Prp × Int := if ¬ (0 ≤ b ∧ b ≤ 255) then (⟨0, 0, 0⟩, 7) else if allow (told b) then (told b, 0) else (⟨0, 0, 0⟩, 2)
theorem told_of {p : Prp} (h : allow p) : told ((5 * p.pb + p.lp) * 9 + p.lc) = p := by
  obtain ⟨lc, lp, pb⟩ := p
  obtain ⟨⟨h1, h2, h3⟩, h4, h5⟩ := h
  simp only at h1 h2 h3 h4 h5
  unfold told
  simp only [Prp.mk.injEq]
  omega
theorem of_told (b : Int) (h : 0 ≤ b ∧ b < 225) : (5 * (told b).pb + (told b).lp) * 9 + (told b).lc = b := by
  unfold told
  simp only
  omega
end St12
end Go.Proofs.YtlnocjicmofjfaaDoor

/- The contracts of the document's window; of no statement by themselves. -/
namespace Go.Proofs.YtlnocjicmofjfaaDoor
open Go.RowKit
set_option linter.unusedVariables false

/-- The document's window at r: its size, all bytes that came (the slice v). -/
structure Rw (w : World) (B r : Nat) (v : Value) (n : Nat) (bs : List Nat) : Prop where
  hr : B ≤ r
  blk : w.heap[r]? = some (.cells #[.int .i64 (n : Int), v] 65 (0, 0))
  own : w.ownsRow B 5 1 v bs.length (ins .u8 (nums bs))
theorem Rw.keep {w w' : World} {S : Nat → Prop} {B r : Nat} {v : Value} {n : Nat} {bs : List Nat} (h : Rw w B r v n bs) (hc : Chg S w w') (hS : ∀ z, Foot r v z → ¬ S z) : Rw w' B r v n bs := ⟨h.hr, blk_keep h.blk hc (hS r (.inl rfl)), ownsRow_keep h.own hc (fun g e => hS g (.inr e))⟩
theorem Rw.new {w w' : World} {B r : Nat} {v : Value} {n : Nat} {bs : List Nat} (h : Rw w B r v n bs) (hc : Chg (fun _ => False) w w') : Rw w' B r v n bs := h.keep hc (fun _ _ f => f)
theorem Rw.lt {w : World} {B r : Nat} {v : Value} {n : Nat} {bs : List Nat} (h : Rw w B r v n bs) {z : Nat} (f : Foot r v z) : B ≤ z ∧ z < w.heap.size := by
  rcases f with f | f
  · rw [f]; exact ⟨h.hr, lt_of_blk h.blk⟩
  · exact h.own.lt z f
theorem Rw.down {w : World} {B B' r : Nat} {v : Value} {n : Nat} {bs : List Nat} (h : Rw w B r v n bs) (hB : B' ≤ B) : Rw w B' r v n bs := ⟨Nat.le_trans hB h.hr, h.blk, owns_base h.own hB⟩

theorem rnew_out (n : Int) (w : World) (h : n < 1 ∨ 4294967295 < n) : Calls Tryd.prog 17 #[.int .i64 n] w fun e w' => e = .returned (.tuple #[.pointer none, .int .i64 7]) ∧ w = w' := by
  by_cases h0 : n < 1
  · go_enter Tryd.func17, Tryd.ntmps17
    go_wp2
    go_ret2
    exact ⟨rfl, rfl⟩
  · have h1 : 4294967295 < n := by omega
    have hd : decide (n < 1) = false := by simp; omega
    have hd2 : decide (4294967295 < n) = true := by simp; omega
    go_enter Tryd.func17, Tryd.ntmps17
    go_wp2
    go_ret2
    exact ⟨rfl, rfl⟩
theorem rnew_in (n : Nat) (w : World) (h1 : 1 ≤ n) (h2 : n ≤ 4294967295) : Calls Tryd.prog 17 #[.int .i64 (n : Int)] w fun e w' => ∃ r, e = .returned (.tuple #[.pointer (some ⟨r, 0, none⟩), .int .i64 0]) ∧ Rw w' w.heap.size r (.slice none 0 0) n [] ∧ Chg (fun _ => False) w w' := by
  have hd : decide ((n : Int) < 1) = false := by simp; omega
  have hd2 : decide (4294967295 < (n : Int)) = false := by simp; omega
  go_enter Tryd.func17, Tryd.ntmps17
  go_wp2
  go_ret2
  exact ⟨_, rfl, ⟨Nat.le_refl _, heap_alloc_last _ _, World.ownsRow_nil _ _ _ _⟩, chg_one _ _⟩

theorem rfull_q (B r : Nat) (v : Value) (n : Nat) (bs : List Nat) (w : World) (h : Rw w B r v n bs) (hn : n ≤ 4294967295) (hl : bs.length ≤ 140737488355328) : Calls Tryd.prog 27 #[.pointer (some ⟨r, 0, none⟩)] w fun e w' => e = .returned (.int .i64 ((fullN n bs : Nat) : Int)) ∧ ∃ k, w' = w.drewN k := by
  obtain ⟨ad, c, hv⟩ := form1 h.own
  subst hv
  have k0 := cell0 h.blk
  have k1 := cell1 h.blk
  unfold fullN
  clear h
  generalize bs.length = L at *
  by_cases hlt : L < n
  · have hd : decide ((L : Int) < (n : Int)) = true := by simp; omega
    have e1 : min L n = L := by omega
    rw [e1]
    go_enter Tryd.func27, Tryd.ntmps27
    go_wp2_with fail
    go_quiet (fail)
    have q0 := cell_chg k0 (chg_drewN w nq)
    have q1 := cell_chg k1 (chg_drewN w nq)
    go_wp2
    go_ret
    exact ⟨rfl, nq, rfl⟩
  · have hd : decide ((L : Int) < (n : Int)) = false := by simp; omega
    have e1 : min L n = n := by omega
    rw [e1]
    go_enter Tryd.func27, Tryd.ntmps27
    go_wp2_with fail
    go_quiet (fail)
    have q0 := cell_chg k0 (chg_drewN w nq)
    have q1 := cell_chg k1 (chg_drewN w nq)
    go_wp2
    go_ret
    exact ⟨rfl, nq, rfl⟩
theorem rfull_any (B r : Nat) (v : Value) (n : Nat) (bs : List Nat) (w : World) (h : Rw w B r v n bs) (hn : n ≤ 4294967295) (hl : bs.length ≤ 140737488355328) : Calls Tryd.prog 27 #[.pointer (some ⟨r, 0, none⟩)] w fun e w' => e = .returned (.int .i64 ((fullN n bs : Nat) : Int)) ∧ Chg (fun _ => False) w w' := (rfull_q B r v n bs w h hn hl).mono fun e w' ⟨h1, k, h2⟩ => ⟨h1, by rw [h2]; exact chg_drewN _ _⟩
/-- The distance is in the window. -/
def Inw (n : Nat) (bs : List Nat) (d : Int) : Prop := 0 < d ∧ d ≤ ((fullN n bs : Nat) : Int)
instance (n : Nat) (bs : List Nat) (d : Int) : Decidable (Inw n bs d) := by unfold Inw; infer_instance
theorem Inw.nat {n : Nat} {bs : List Nat} {d : Int} (h : Inw n bs d) : 1 ≤ d.toNat ∧ d.toNat ≤ bs.length ∧ d.toNat ≤ n ∧ ((d.toNat : Nat) : Int) = d := by
  obtain ⟨h1, h2⟩ := h
  unfold fullN at h2
  omega
theorem rhas_any (B r : Nat) (v : Value) (n : Nat) (bs : List Nat) (d : Int) (w : World) (h : Rw w B r v n bs) (hn : n ≤ 4294967295) (hl : bs.length ≤ 140737488355328) : Calls Tryd.prog 52 #[.pointer (some ⟨r, 0, none⟩), .int .i64 d] w fun e w' => e = .returned (.bool (decide (Inw n bs d))) ∧ Chg (fun _ => False) w w' := by
  have HF : Hid _ := rfull_any B r v n bs w h hn hl
  obtain ⟨F, hF⟩ : ∃ F, fullN n bs = F := ⟨_, rfl⟩
  have hin : Inw n bs d ↔ 0 < d ∧ d ≤ (F : Int) := by unfold Inw; rw [hF]
  rw [hF] at HF
  clear h hl hF
  by_cases h0 : 0 < d
  · have hd : decide (0 < d) = true := by simp; omega
    obtain ⟨t, ht⟩ : ∃ t, decide (d ≤ (F : Int)) = t := ⟨_, rfl⟩
    have HR : Hid (decide (Inw n bs d) = t) := by show _ = _; rw [← ht]; exact decide_eq_decide.2 ⟨fun f => (hin.1 f).2, fun f => hin.2 ⟨h0, f⟩⟩
    clear hin
    go_enter Tryd.func52, Tryd.ntmps52
    go_wp2_with fail
    refine Calls.mono HF.out ?_
    rintro z w1 ⟨rfl, c1⟩
    have HC : Hid (Chg (fun _ => False) w w1) := c1
    clear c1 HF
    go_wp2
    go_ret
    exact ⟨by rw [HR.out]; rfl, HC.out⟩
  · have hd : decide (0 < d) = false := by simp; omega
    have HR : Hid (decide (Inw n bs d) = false) := decide_eq_false (fun f => h0 (hin.1 f).1)
    clear HF hin
    go_enter Tryd.func52, Tryd.ntmps52
    go_wp2
    go_ret
    exact ⟨by rw [HR.out]; rfl, Chg.refl _ _⟩
theorem row8_cell {w : World} {ad : Option Addr} {m c : Nat} {bs : List Nat} {k b : Nat} (h : Row8 w ad m c (nums bs)) (hk : bs[k]? = some b) : ∃ x, ad = some x ∧ w.cell? (x.add k) = some (.int .u8 (b : Int)) := by
  rcases h.2 with ⟨_, e, _⟩ | ⟨x, e, hx⟩
  · have h1 := h.1
    rw [nums_len] at h1
    have := (List.getElem?_eq_some_iff.1 hk).1
    omega
  · exact ⟨x, e, hx k _ (by simp [nums, hk])⟩
theorem rlast_any (B r : Nat) (v : Value) (n : Nat) (bs : List Nat) (d : Int) (w : World) (h : Rw w B r v n bs) (hn : n ≤ 4294967295) (hl : bs.length ≤ 140737488355328) : Calls Tryd.prog 29 #[.pointer (some ⟨r, 0, none⟩), .int .i64 d] w fun e w' => ((¬ Inw n bs d ∧ e = .returned (.tuple #[.int .u8 0, .int .i64 7])) ∨ (Inw n bs d ∧ e = .returned (.tuple #[.int .u8 ((backB bs d.toNat : Nat) : Int), .int .i64 0]))) ∧ Chg (fun _ => False) w w' := by
  have HH : Hid _ := rhas_any B r v n bs d w h hn hl
  by_cases hi : Inw n bs d
  rotate_left
  · rw [decide_eq_false hi] at HH
    have HI : Hid (¬ Inw n bs d) := hi
    clear h hl hi
    go_enter Tryd.func29, Tryd.ntmps29
    go_wp2_with fail
    refine Calls.mono HH.out ?_
    rintro z w1 ⟨rfl, c1⟩
    have HC : Hid (Chg (fun _ => False) w w1) := c1
    clear c1 HH
    go_wp2
    go_ret2
    exact ⟨.inl ⟨HI.out, rfl⟩, HC.out⟩
  · rw [decide_eq_true hi] at HH
    have HI : Hid (Inw n bs d) := hi
    obtain ⟨i1, i2, i3, i4⟩ := hi.nat
    obtain ⟨D, hD⟩ : ∃ D, d.toNat = D := ⟨_, rfl⟩
    rw [hD] at i1 i2 i3 i4
    subst i4
    obtain ⟨L, hL⟩ : ∃ L, bs.length = L := ⟨_, rfl⟩
    have hbk := backB_at i1 i2
    rw [show ((D : Int)).toNat = D from Int.toNat_natCast D]
    obtain ⟨b, hb⟩ : ∃ b, backB bs D = b := ⟨_, rfl⟩
    obtain ⟨K, hK⟩ : ∃ K, K = bs.length - D := ⟨_, rfl⟩
    rw [hb, ← hK] at hbk
    rw [hb]
    obtain ⟨ad, c, hv⟩ := form1 h.own
    subst hv
    have HRW : Hid (Rw w B r (.slice ad bs.length c) n bs) := h
    have HBK : Hid (bs[K]? = some b) := hbk
    have hki : (L : Int) - (D : Int) = (K : Int) := by omega
    have hkl : K < L := by omega
    rw [hL] at HRW hl
    clear h hbk hb hK i1 i2 i3 hi hD
    go_enter Tryd.func29, Tryd.ntmps29
    go_wp2_with fail
    refine Calls.mono HH.out ?_
    rintro z w1 ⟨rfl, c1⟩
    have hr1 := HRW.out.new c1
    have k1 := cell1 hr1.blk
    have hrow : Row8 w1 ad L c (nums bs) := row8_own (by have := hr1.own; rw [hL] at this; exact this)
    obtain ⟨x, rfl, hcell⟩ := row8_cell hrow HBK.out
    have HC : Hid (Chg (fun _ => False) w w1) := c1
    clear c1 HH hr1 hrow hL
    go_wp2_with fail
    go_quiet (fail)
    have HC2 : Hid (Chg (fun _ => False) w (w1.drewN nq)) := chg_then HC.out (chg_drewN _ _)
    go_wp2
    go_ret2
    exact ⟨.inr ⟨HI.out, rfl⟩, HC2.out⟩
end Go.Proofs.YtlnocjicmofjfaaDoor

/- The contracts of the document's window that turn memory (Put, Copy, Clear, Fork); of no statement by themselves. -/
namespace Go.Proofs.YtlnocjicmofjfaaDoor
open Go.RowKit
set_option linter.unusedVariables false

theorem one8 (xs : List Nat) : ∀ u ∈ (nums xs).map (Value.int .u8), u.oneCell' = true := fun u hu => by
  obtain ⟨x, _, rfl⟩ := List.mem_map.1 hu
  rfl
theorem own_app {w : World} {B : Nat} {v : Value} {n : Nat} {a b : List Nat} (h : w.ownsRow B 5 1 v n (ins .u8 (nums a) ++ (nums b).map (Value.int .u8))) : w.ownsRow B 5 1 v n (ins .u8 (nums (a ++ b))) := by
  rw [nums_append, ins_append, ins_map (nums b)]
  exact h
set_option maxHeartbeats 2000000 in
set_option maxRecDepth 100000 in
theorem rput_any (B r : Nat) (v : Value) (n : Nat) (bs : List Nat) (ad : Option Addr) (m c : Nat) (xs : List Nat) (w : World) (h : Rw w B r v n bs) (hB : B ≤ w.heap.size) (hs : Row8 w ad m c (nums xs)) (hl : bs.length + m ≤ 140737488355328) : Calls Tryd.prog 19 #[.pointer (some ⟨r, 0, none⟩), .slice ad m c] w fun e w' => e = .returned (.tuple #[]) ∧ ∃ v', Rw w' B r v' n (bs ++ xs) ∧ Chg (Foot r v) w w' ∧ Moved w v v' := by
  obtain ⟨iu, hiu, hu0, hu1, hu2⟩ := info_parts infoU8
  obtain ⟨ad0, c0, hv⟩ := form1 h.own
  have k1 := cell1 h.blk
  have HH : Hid (Rw w B r v n bs) := h
  have hown := h.own
  have hmx : xs.length = m := by have := hs.1; rw [nums_len] at this; exact this
  have hsrc := hs.src
  have hone := one8 xs
  have f1 := free1 h.blk
  rw [hv] at k1 hown
  generalize hLL : bs.length = L at *
  clear h
  go_enter Tryd.func19, Tryd.ntmps19
  go_wp2_with (at_builtin; refine wpList_append_moved rfl _ _ 24 rfl B 5 iu (.int .u8 0) 1 1 Tryd.underlying24 hiu hu0 hu1 hu2 rfl (by decide) _ L (ins .u8 (nums bs)) rfl ad m c rfl ((nums xs).map (Value.int .u8)) hown hsrc hone (by unfold maxLen; omega) (by omega) hB ?_)
  intro v9 w9 ho9 hg9 hm9
  obtain ⟨a9, d9, hv9⟩ := form1 ho9
  subst hv9
  rw [← hv] at hg9 hm9
  have hne : v.ownBlock ≠ some r := fun e => by
    obtain ⟨cur, hcur⟩ := owns_blk HH.out.own e
    exact ty_ne hcur HH.out.blk (by decide)
  have c9 : Chg (fun z => v.ownBlock = some z) w w9 := (Chg.refl _ w).grown hg9 (fun z e => .inl e)
  have b9 := blk_keep HH.out.blk c9 (fun f => hne f)
  have k9 := cell1 b9
  have f9 := free1 b9
  have HB9 : Hid ((w9.setCell ⟨r, 1, none⟩ (.slice a9 (L + m) d9)).heap[r]? = some (.cells #[.int .i64 (n : Int), .slice a9 (L + m) d9] 65 (0, 0))) := blk_set1 b9
  have cS : Chg (fun z => z = r) w9 (w9.setCell ⟨r, 1, none⟩ (.slice a9 (L + m) d9)) := Chg.setCell (S := fun z => z = r) (Chg.refl _ w9) (p := ⟨r, 1, none⟩) (.inl rfl) _
  have HO9 : Hid ((w9.setCell ⟨r, 1, none⟩ (.slice a9 (L + m) d9)).ownsRow B 5 1 (.slice a9 (L + m) d9) (bs ++ xs).length (ins .u8 (nums (bs ++ xs)))) := by
    have h9 := own_app ho9
    refine ownsRow_keep (by rw [List.length_append, hLL, hmx]; exact h9) cS (fun g e f => ?_)
    rw [f] at e
    obtain ⟨cur, hcur⟩ := owns_blk h9 e
    exact ty_ne hcur b9 (by decide)
  have HC9 : Hid (Chg (Foot r v) w (w9.setCell ⟨r, 1, none⟩ (.slice a9 (L + m) d9))) := (c9.mono (fun z f => .inl (.inr f))).trans cS (fun z f => .inl (.inl f))
  have HM9 : Hid (Moved w v (.slice a9 (L + m) d9)) := hm9
  clear ho9 hg9 hm9 c9 cS k1 hown hsrc hone b9
  go_wp2
  go_end0
  exact ⟨rfl, _, ⟨HH.out.hr, HB9.out, HO9.out⟩, HC9.out, HM9.out⟩
end Go.Proofs.YtlnocjicmofjfaaDoor

/- The contract of the document's Copy; of no statement by itself. -/
namespace Go.Proofs.YtlnocjicmofjfaaDoor
open Go.RowKit
set_option linter.unusedVariables false

/-- A copy is in order. -/
def Cpy (n : Nat) (bs : List Nat) (d m : Int) : Prop := Inw n bs d ∧ 0 ≤ m ∧ m ≤ 273
instance (n : Nat) (bs : List Nat) (d m : Int) : Decidable (Cpy n bs d m) := by unfold Cpy; infer_instance
structure RcW (w0 wr : World) (B r n : Nat) (v vr ov : Value) (bs : List Nat) (d k : Nat) : Prop where
  rw : Rw wr B r vr n (bs ++ copyL d bs k)
  out : wr.ownsRow w0.heap.size 5 1 ov k (ins .u8 (nums (copyL d bs k)))
  apart : ∀ g, ov.ownBlock = some g → ¬ Foot r vr g
  chg : Chg (Foot r v) w0 wr
  mov : Moved w0 v vr
set_option maxHeartbeats 4000000 in
set_option maxRecDepth 100000 in
theorem rcopy_any (B r : Nat) (v : Value) (n : Nat) (bs : List Nat) (d m : Int) (w0 : World) (h : Rw w0 B r v n bs) (hB : B ≤ w0.heap.size) (hn : n ≤ 4294967295) (hl : bs.length + 273 ≤ 140737488355328) : Calls Tryd.prog 46 #[.pointer (some ⟨r, 0, none⟩), .int .i64 d, .int .i64 m] w0 fun e w' =>
    (¬ Cpy n bs d m ∧ e = .returned (.tuple #[.slice none 0 0, .int .i64 7]) ∧ Chg (fun _ => False) w0 w')
    ∨ (Cpy n bs d m ∧ ∃ ov v', e = .returned (.tuple #[ov, .int .i64 0]) ∧ RcW w0 w' B r n v v' ov bs d.toNat m.toNat) := by
  obtain ⟨iu, hiu, hu0, hu1, hu2⟩ := info_parts infoU8
  have HH : Hid _ := rhas_any B r v n bs d w0 h hn (by omega)
  have HRW : Hid (Rw w0 B r v n bs) := h
  by_cases hi : Inw n bs d
  rotate_left
  · rw [decide_eq_false hi] at HH
    have HI : Hid (¬ Cpy n bs d m) := fun f => hi f.1
    clear h hl hi
    go_enter Tryd.func46, Tryd.ntmps46
    go_wp2_with fail
    refine Calls.mono HH.out ?_
    rintro z w1 ⟨rfl, c1⟩
    have HC : Hid (Chg (fun _ => False) w0 w1) := c1
    clear c1 HH
    go_wp2
    go_ret2
    exact .inl ⟨HI.out, rfl, HC.out⟩
  rw [decide_eq_true hi] at HH
  have HINW : Hid (Inw n bs d) := hi
  by_cases hm0 : m < 0
  · have hd1 : decide (m < 0) = true := by simp; omega
    have HI : Hid (¬ Cpy n bs d m) := fun f => by have := f.2.1; omega
    clear h hl hi
    go_enter Tryd.func46, Tryd.ntmps46
    go_wp2_with fail
    refine Calls.mono HH.out ?_
    rintro z w1 ⟨rfl, c1⟩
    have HC : Hid (Chg (fun _ => False) w0 w1) := c1
    clear c1 HH
    go_wp2
    go_ret2
    exact .inl ⟨HI.out, rfl, HC.out⟩
  have hd1 : decide (m < 0) = false := by simp; omega
  by_cases hm1 : 273 < m
  · have hd2 : decide (273 < m) = true := by simp; omega
    have HI : Hid (¬ Cpy n bs d m) := fun f => by have := f.2.2; omega
    clear h hl hi
    go_enter Tryd.func46, Tryd.ntmps46
    go_wp2_with fail
    refine Calls.mono HH.out ?_
    rintro z w1 ⟨rfl, c1⟩
    have HC : Hid (Chg (fun _ => False) w0 w1) := c1
    clear c1 HH
    go_wp2
    go_ret2
    exact .inl ⟨HI.out, rfl, HC.out⟩
  have hd2 : decide (273 < m) = false := by simp; omega
  have HCPY : Hid (Cpy n bs d m) := ⟨hi, by omega, by omega⟩
  obtain ⟨i1, i2, i3, i4⟩ := hi.nat
  obtain ⟨D, hD⟩ : ∃ D, d.toNat = D := ⟨_, rfl⟩
  rw [hD] at i1 i2 i3 i4
  subst i4
  obtain ⟨M, rfl⟩ : ∃ M : Nat, (M : Int) = m := ⟨m.toNat, by omega⟩
  simp only [Int.toNat_natCast]
  have hM : M ≤ 273 := by omega
  have HD1 : Hid (1 ≤ D ∧ D ≤ bs.length) := ⟨i1, i2⟩
  have HBL : Hid (bs.length + 273 ≤ 140737488355328) := hl
  have hDi : (D : Int) ≤ 4294967295 := by omega
  have HFZ : Hid (∀ z, Foot r v z → z < w0.heap.size) := fun z f => (h.lt f).2
  clear h hl hi i1 i2 i3 hD hm0 hm1
  go_enter Tryd.func46, Tryd.ntmps46
  go_wp2_with fail
  refine Calls.mono HH.out ?_
  rintro z w1 ⟨rfl, c1⟩
  have HW1 : Hid (RcW w0 w1 B r n v v (.slice none 0 0) bs D 0) := ⟨by rw [show copyL D bs 0 = [] from rfl, List.append_nil]; exact HRW.out.new c1, World.ownsRow_nil _ _ _ _, (fun g e => by cases e), c1.mono (fun _ f => f.elim), Moved.refl _ _⟩
  clear c1 HH HRW
  go_wp2_with fail
  go_loopw [8, 9] (fun ov iv wr => ∃ (k : Nat) (vr : Value), k ≤ M ∧ iv = .int .i64 (k : Int) ∧ Hid (RcW w0 wr B r n v vr ov bs D k)) (fun _ iv _ => M - (intOf iv).toNat)
  case atStart => exact ⟨0, v, Nat.zero_le _, rfl, HW1.out⟩
  case round =>
    clear HW1
    obtain ⟨k, vr, hk, rfl, HR⟩ := hrel
    obtain ⟨oa, oc, hov⟩ := form1 HR.out.out
    subst hov
    obtain ⟨ra, rc, hvr⟩ := form1 HR.out.rw.own
    by_cases hlt : k < M
    · have hdk : decide ((k : Int) < (M : Int)) = true := by simp; omega
      obtain ⟨L, hL⟩ : ∃ L, (bs ++ copyL D bs k).length = L := ⟨_, rfl⟩
      have hLe : L = bs.length + k := by rw [← hL, List.length_append, copyL_len]
      obtain ⟨b, hb⟩ : ∃ b, backB (bs ++ copyL D bs k) D = b := ⟨_, rfl⟩
      have hbk := backB_at (bs := bs ++ copyL D bs k) HD1.out.1 (by rw [hL, hLe]; have := HD1.out.2; omega)
      obtain ⟨K, hK⟩ : ∃ K, K = L - D := ⟨_, rfl⟩
      rw [hb, hL, ← hK] at hbk
      have hki : (L : Int) - (D : Int) = (K : Int) := by have := HD1.out.2; omega
      have hkl : K < L := by have := HD1.out.1; have := HD1.out.2; omega
      have hL9 : (L : Int) + 1 ≤ 140737488355328 := by have := HBL.out; omega
      have HSN : Hid (copyL D bs (k + 1) = copyL D bs k ++ [b]) := by show _ = _; rw [copyL_snoc, hb]
      rw [hL] at hvr
      subst hvr
      have k1 := cell1 HR.out.rw.blk
      have hrow : Row8 wr ra L rc (nums (bs ++ copyL D bs k)) := row8_own (by have := HR.out.rw.own; rw [hL] at this; exact this)
      obtain ⟨x, rfl, hcell⟩ := row8_cell hrow hbk
      have HL : Hid ((bs ++ copyL D bs k).length = L) := hL
      clear hrow hbk hb hL hLe hK
      go_wp2_with fail
      go_quiet (fail)
      have cq := chg_drewN wr nq
      have HR1 : Hid (RcW w0 (wr.drewN nq) B r n v (.slice (some x) L rc) (.slice oa k oc) bs D k) := ⟨HR.out.rw.new cq, ownsRow_keep HR.out.out cq (fun _ _ f => f), HR.out.apart, HR.out.chg.trans cq (fun _ f => f.elim), HR.out.mov⟩
      clear cq hcell k1 HR
      generalize wr.drewN nq = w2 at *
      have k1 := cell1 HR1.out.rw.blk
      have cA := chg_one w2 (.cells #[.int .u8 (b : Int)] 5)
      have hsrc : From (w2.alloc (.cells #[.int .u8 (b : Int)] 5)) (some ⟨w2.heap.size, 0, none⟩) 1 1 1 [.int .u8 (b : Int)] := (Bk.row8_one w2 (b : Int) 5).src
      have hown := ownsRow_keep HR1.out.rw.own cA (fun _ _ f => f)
      rw [HL.out] at hown
      have hsz : B ≤ (w2.alloc (.cells #[.int .u8 (b : Int)] 5)).heap.size := Nat.le_trans hB (Nat.le_trans HR1.out.chg.size cA.size)
      have hbA := blk_keep HR1.out.rw.blk cA (fun f => f)
      have kA := cell1 hbA
      have HCA : Hid (Chg (fun _ => False) w2 (w2.alloc (.cells #[.int .u8 (b : Int)] 5))) := cA
      have HBA : Hid ((w2.alloc (.cells #[.int .u8 (b : Int)] 5)).heap[r]? = some (.cells #[.int .i64 (n : Int), .slice (some x) L rc] 65 (0, 0))) := hbA
      clear cA hbA
      go_wp2_with (at_builtin; refine wpList_append_moved rfl _ _ 24 rfl B 5 iu (.int .u8 0) 1 1 Tryd.underlying24 hiu hu0 hu1 hu2 rfl (by decide) _ L (ins .u8 (nums (bs ++ copyL D bs k))) rfl (some ⟨w2.heap.size, 0, none⟩) 1 1 rfl [.int .u8 (b : Int)] hown hsrc (fun u hu => by simp at hu; subst hu; rfl) (by unfold maxLen; omega) (by omega) hsz ?_)
      intro v9 w9 ho9 hg9 hm9
      obtain ⟨a9, d9, hv9⟩ := form1 ho9
      subst hv9
      generalize hwA : w2.alloc (.cells #[.int .u8 (b : Int)] 5) = wA at *
      have hne : (Value.slice (some x) L rc).ownBlock ≠ some r := fun e => by
        obtain ⟨cur, hcur⟩ := owns_blk hown e
        exact ty_ne hcur HBA.out (by decide)
      have c9 : Chg (fun z => (Value.slice (some x) L rc).ownBlock = some z) wA w9 := (Chg.refl _ wA).grown hg9 (fun z e => .inl e)
      have b9 := blk_keep HBA.out c9 (fun f => hne f)
      have k9 := cell1 b9
      have f9 := free1 b9
      have hb3 : (w9.setCell ⟨r, 1, none⟩ (.slice a9 (L + 1) d9)).heap[r]? = some (.cells #[.int .i64 (n : Int), .slice a9 (L + 1) d9] 65 (0, 0)) := blk_set1 b9
      have cS : Chg (fun z => z = r) w9 (w9.setCell ⟨r, 1, none⟩ (.slice a9 (L + 1) d9)) := Chg.setCell (S := fun z => z = r) (Chg.refl _ w9) (p := ⟨r, 1, none⟩) (.inl rfl) _
      have ho9' : w9.ownsRow B 5 1 (.slice a9 (L + 1) d9) (L + 1) (ins .u8 (nums (bs ++ copyL D bs (k + 1)))) := by
        rw [HSN.out, ← List.append_assoc]
        exact own_app (b := [b]) ho9
      have hrw3 : Rw (w9.setCell ⟨r, 1, none⟩ (.slice a9 (L + 1) d9)) B r (.slice a9 (L + 1) d9) n (bs ++ copyL D bs (k + 1)) := by
        refine ⟨HR1.out.rw.hr, hb3, ownsRow_keep (by have h9 := HL.out; rw [List.length_append, copyL_len] at h9; rw [List.length_append, copyL_len, show bs.length + (k + 1) = L + 1 by omega]; exact ho9') cS (fun g e f => ?_)⟩
        rw [f] at e
        obtain ⟨cur, hcur⟩ := owns_blk ho9' e
        exact ty_ne hcur b9 (by decide)
      have c23 : Chg (Foot r (.slice (some x) L rc)) w2 (w9.setCell ⟨r, 1, none⟩ (.slice a9 (L + 1) d9)) := ((HCA.out.mono (fun _ f => f.elim)).trans c9 (fun z f => .inl (.inr f))).trans cS (fun z f => .inl (.inl f))
      have hap3 : ∀ g, (Value.slice oa k oc).ownBlock = some g → ¬ Foot r (.slice a9 (L + 1) d9) g := fun g e f => by
        rcases f with f | f
        · exact HR1.out.apart g e (.inl f)
        · rcases hm9 g f with q | q
          · exact HR1.out.apart g e (.inr q)
          · have h1 := (HR1.out.out.lt g e).2
            have h2 := HCA.out.size
            omega
      have HR3 : Hid (Rw (w9.setCell ⟨r, 1, none⟩ (.slice a9 (L + 1) d9)) B r (.slice a9 (L + 1) d9) n (bs ++ copyL D bs (k + 1)) ∧ (w9.setCell ⟨r, 1, none⟩ (.slice a9 (L + 1) d9)).ownsRow w0.heap.size 5 1 (.slice oa k oc) k (ins .u8 (nums (copyL D bs k))) ∧ (∀ g, (Value.slice oa k oc).ownBlock = some g → ¬ Foot r (.slice a9 (L + 1) d9) g) ∧ Chg (Foot r v) w0 (w9.setCell ⟨r, 1, none⟩ (.slice a9 (L + 1) d9)) ∧ Moved w0 v (.slice a9 (L + 1) d9)) := by
        refine ⟨hrw3, ownsRow_keep HR1.out.out c23 (fun g e f => HR1.out.apart g e f), hap3, HR1.out.chg.trans c23 (fun z f => HR1.out.mov.foot r z f), HR1.out.mov.trans (Nat.le_trans HR1.out.chg.size HCA.out.size) hm9⟩
      clear ho9 hg9 hm9 c9 b9 cS hb3 ho9' hrw3 c23 hap3 hown hsrc hsz k1 kA HR1 HCA HBA hne hwA
      have cB := chg_one (w9.setCell ⟨r, 1, none⟩ (.slice a9 (L + 1) d9)) (.cells #[.int .u8 (b : Int)] 5)
      have hsrc2 : From ((w9.setCell ⟨r, 1, none⟩ (.slice a9 (L + 1) d9)).alloc (.cells #[.int .u8 (b : Int)] 5)) (some ⟨(w9.setCell ⟨r, 1, none⟩ (.slice a9 (L + 1) d9)).heap.size, 0, none⟩) 1 1 1 [.int .u8 (b : Int)] := (Bk.row8_one _ (b : Int) 5).src
      have hown2 := ownsRow_keep HR3.out.2.1 cB (fun _ _ f => f)
      have hsz2 : w0.heap.size ≤ ((w9.setCell ⟨r, 1, none⟩ (.slice a9 (L + 1) d9)).alloc (.cells #[.int .u8 (b : Int)] 5)).heap.size := Nat.le_trans HR3.out.2.2.2.1.size cB.size
      have HCB : Hid (Chg (fun _ => False) (w9.setCell ⟨r, 1, none⟩ (.slice a9 (L + 1) d9)) _) := cB
      have hss : (w9.setCell ⟨r, 1, none⟩ (.slice a9 (L + 1) d9)).heap.size = w9.heap.size := by simp [World.setCell]
      rw [hss] at hsrc2
      clear cB hss
      go_wp2_with (at_builtin; refine wpList_append_moved rfl _ _ 24 rfl w0.heap.size 5 iu (.int .u8 0) 1 1 Tryd.underlying24 hiu hu0 hu1 hu2 rfl (by decide) _ k (ins .u8 (nums (copyL D bs k))) rfl (some ⟨w9.heap.size, 0, none⟩) 1 1 rfl [.int .u8 (b : Int)] hown2 hsrc2 (fun u hu => by simp at hu; subst hu; rfl) (by unfold maxLen; omega) (by omega) hsz2 ?_)
      intro v5 w5 ho5 hg5 hm5
      obtain ⟨a5, d5, hv5⟩ := form1 ho5
      subst hv5
      have HN : Hid (RcW w0 w5 B r n v (.slice a9 (L + 1) d9) (.slice a5 (k + 1) d5) bs D (k + 1)) := by
        obtain ⟨q1, q2, q3, q4, q5⟩ := HR3.out
        have c5 : Chg (fun z => (Value.slice oa k oc).ownBlock = some z) (w9.setCell ⟨r, 1, none⟩ (.slice a9 (L + 1) d9)) w5 := (HCB.out.mono (fun _ f => f.elim)).grown hg5 (fun z e => .inl e)
        refine ⟨q1.keep c5 (fun z f g => q3 z g f), ?_, fun g e f => ?_, q4.trans c5 (fun z f => .inr (q2.lt z f).1), q5⟩
        · rw [HSN.out]
          exact own_app (b := [b]) ho5
        · rcases hm5 g e with q | q
          · exact q3 g q f
          · have h1 := (q1.lt f).2
            have h2 := HCB.out.size
            omega
      clear ho5 hg5 hm5 hown2 hsrc2 hsz2 HR3 HCB k9 f9
      go_wp2_with fail
      go_roundw
      case rel => exact ⟨k + 1, _, by omega, by go_num, HN.out⟩
      case measure => simp [intOf]; omega
    · have hkM : M = k := by omega
      subst hkM
      have hdk : decide ((M : Int) < (M : Int)) = false := by simp
      go_wp2
      go_ret2
      exact .inr ⟨HCPY.out, _, vr, rfl, HR.out⟩
end Go.Proofs.YtlnocjicmofjfaaDoor

/- What is asked of the program's windows ('WinSpec'), and the contract of the law's made above it; of no statement by themselves. -/
namespace Go.Proofs.YtlnocjicmofjfaaDoor
open Go.RowKit
set_option linter.unusedVariables false

structure WinSpec (Win : World → Nat → Nat → Value → Nat → List Nat → Prop) : Prop where
  lt : ∀ {w B a v n bs}, Win w B a v n bs → ∀ z, Foot a v z → B ≤ z ∧ z < w.heap.size
  blk : ∀ {w B a v n bs}, Win w B a v n bs → ∃ cs, w.heap[a]? = some (.cells cs 84 (0, 0))
  ring : ∀ {w B a v n bs}, Win w B a v n bs → ∀ g, v.ownBlock = some g → ∃ cs, w.heap[g]? = some (.cells cs 5 (0, 0))
  keep : ∀ {w w' B a v n bs} {S : Nat → Prop}, Win w B a v n bs → Chg S w w' → (∀ z, Foot a v z → ¬ S z) → Win w' B a v n bs
  down : ∀ {w B B' a v n bs}, Win w B a v n bs → B' ≤ B → Win w B' a v n bs
  nn : ∀ {w B a v n bs}, Win w B a v n bs → 1 ≤ n ∧ n ≤ 4294967295 ∧ Rc.Dig bs
  newOut : ∀ (n : Int) (w : World), n < 1 ∨ 4294967295 < n → Calls Tryd.prog 16 #[.int .i64 n] w fun e w' => e = .returned (.tuple #[.pointer none, .int .i64 7]) ∧ Chg (fun _ => False) w w'
  newIn : ∀ (n : Nat) (w : World), 1 ≤ n → n ≤ 4294967295 → Calls Tryd.prog 16 #[.int .i64 (n : Int)] w fun e w' => ∃ a v, e = .returned (.tuple #[.pointer (some ⟨a, 0, none⟩), .int .i64 0]) ∧ Win w' w.heap.size a v n [] ∧ Chg (fun _ => False) w w'
  full : ∀ (B a : Nat) (v : Value) (n : Nat) (bs : List Nat) (w : World), Win w B a v n bs → Calls Tryd.prog 26 #[.pointer (some ⟨a, 0, none⟩)] w fun e w' => e = .returned (.int .i64 ((fullN n bs : Nat) : Int)) ∧ ∃ k, w' = w.drewN k
  pos : ∀ (B a : Nat) (v : Value) (n : Nat) (bs : List Nat) (w : World), Win w B a v n bs → Calls Tryd.prog 25 #[.pointer (some ⟨a, 0, none⟩)] w fun e w' => e = .returned (.int .i64 (bs.length : Int)) ∧ ∃ k, w' = w.drewN k
  last : ∀ (B a : Nat) (v : Value) (n : Nat) (bs : List Nat) (d : Int) (w : World), Win w B a v n bs → bs.length ≤ 1152921504606846976 → I64 d → Calls Tryd.prog 28 #[.pointer (some ⟨a, 0, none⟩), .int .i64 d] w fun e w' => ((¬ Inw n bs d ∧ e = .returned (.tuple #[.int .u8 0, .int .i64 7])) ∨ (Inw n bs d ∧ e = .returned (.tuple #[.int .u8 ((backB bs d.toNat : Nat) : Int), .int .i64 0]))) ∧ Chg (fun _ => False) w w'
  put : ∀ (B a : Nat) (v : Value) (n : Nat) (bs : List Nat) (ad : Option Addr) (m c : Nat) (xs : List Nat) (w : World), Win w B a v n bs → B ≤ w.heap.size → Row8 w ad m c (nums xs) → Rc.Dig xs → (∀ x, ad = some x → ¬ Foot a v x.block) → m ≤ c → m ≤ 140737488355328 → bs.length + m ≤ 1152921504606846976 → Calls Tryd.prog 18 #[.pointer (some ⟨a, 0, none⟩), .slice ad m c] w fun e w' => e = .returned (.tuple #[]) ∧ ∃ v', Win w' B a v' n (bs ++ xs) ∧ Chg (Foot a v) w w' ∧ Moved w v v'
  copy : ∀ (B a : Nat) (v : Value) (n : Nat) (bs : List Nat) (d m : Int) (w : World), Win w B a v n bs → B ≤ w.heap.size → I64 d → I64 m → bs.length + 273 ≤ 1152921504606846976 → Calls Tryd.prog 58 #[.pointer (some ⟨a, 0, none⟩), .int .i64 d, .int .i64 m] w fun e w' =>
    (¬ Cpy n bs d m ∧ e = .returned (.tuple #[.slice none 0 0, .int .i64 7]) ∧ Chg (fun _ => False) w w')
    ∨ (Cpy n bs d m ∧ ∃ ov v', e = .returned (.tuple #[ov, .int .i64 0]) ∧ Win w' B a v' n (bs ++ copyL d.toNat bs m.toNat) ∧ w'.ownsRow w.heap.size 5 1 ov m.toNat (ins .u8 (nums (copyL d.toNat bs m.toNat))) ∧ (∀ g, ov.ownBlock = some g → ¬ Foot a v' g) ∧ Chg (Foot a v) w w' ∧ Moved w v v')

variable {Win : World → Nat → Nat → Value → Nat → List Nat → Prop}
theorem WinSpec.new (S : WinSpec Win) {w w' : World} {B a : Nat} {v : Value} {n : Nat} {bs : List Nat} (h : Win w B a v n bs) (hc : Chg (fun _ => False) w w') : Win w' B a v n bs := S.keep h hc (fun _ _ f => f)
/-- The size that is taken. -/
def szN (n : Int) : Nat := if n < 1 ∨ 2000 < n then 300 else n.toNat
theorem szN_in (n : Int) : 1 ≤ szN n ∧ szN n ≤ 2000 := by unfold szN; split <;> omega
theorem pW_ne (x : Addr) (w : World) : (binOp .eql 44 (.pointer (some x)) (.pointer none)).run Tryd.prog w = .ok (.bool false) w := by kernel_rfl
theorem fullS (S : WinSpec Win) {B a : Nat} {v : Value} {n : Nat} {bs : List Nat} {w : World} (h : Win w B a v n bs) : Calls Tryd.prog 26 #[.pointer (some ⟨a, 0, none⟩)] w fun e w' => e = .returned (.int .i64 ((fullN n bs : Nat) : Int)) ∧ Chg (fun _ => False) w w' := (S.full B a v n bs w h).mono fun e w' ⟨h1, k, h2⟩ => ⟨h1, by rw [h2]; exact chg_drewN _ _⟩
theorem posS (S : WinSpec Win) {B a : Nat} {v : Value} {n : Nat} {bs : List Nat} {w : World} (h : Win w B a v n bs) : Calls Tryd.prog 25 #[.pointer (some ⟨a, 0, none⟩)] w fun e w' => e = .returned (.int .i64 (bs.length : Int)) ∧ Chg (fun _ => False) w w' := (S.pos B a v n bs w h).mono fun e w' ⟨h1, k, h2⟩ => ⟨h1, by rw [h2]; exact chg_drewN _ _⟩
end Go.Proofs.YtlnocjicmofjfaaDoor
