/- Several texts in one, none of a statement by itself: LawD, LawE, De. -/
import Derived.Test.YtibgjpifmpljkaaBoundD
import Derived.Test.YtibgjpifmpljkaaBoundH
import Derived.Laws.BitsAllLaws
import Derived.Test.YtibgjpifmpljkaaBoundC
/- The contracts of the law's num, low and alike; of no statement by themselves. -/
namespace Go.Proofs.Ytibgjpifmpljkaa
open Go.RowKit
set_option linter.unusedVariables false

theorem and_low (x n : Nat) (hx : x ≤ 4294967295) (hn : n < 32) : bits .and .u32 (x : Int) (((2 : Int) ^ n - 1) % 4294967296) = ((x % 2 ^ n : Nat) : Int) := by
  have h1 : 2 ^ n ≤ 2 ^ 31 := Nat.pow_le_pow_right (by omega) (by omega)
  have h2 : 0 < 2 ^ n := Nat.pow_pos (by omega)
  have h3 : ((2 : Int) ^ n) = ((2 ^ n : Nat) : Int) := by simp
  rw [h3, show (((2 ^ n : Nat) : Int) - 1) % 4294967296 = ((2 ^ n - 1 : Nat) : Int) by omega, u32_and_nat _ _ (by omega) (by omega), Nat.and_two_pow_sub_one_eq_mod]
end Go.Proofs.Ytibgjpifmpljkaa

/- Questions in memory ('Asks'), an encoder, its row and the list under way ('Ec'), the contract of the law's encoded; of no statement by themselves. -/
namespace Go.Proofs.Ytibgjpifmpljkaa
open Go.RowKit
set_option linter.unusedVariables false

def Q.cells (q : Q) : List Value := [.bool q.d, .int .i64 q.i, .int .i64 q.n, .int .u32 (q.v : Int)]
def Asks (w : World) (a : Option Addr) (l : List Q) : Prop := ∀ (k : Nat) (q : Q), l[k]? = some q → ∃ b off, a = some ⟨b, off, none⟩ ∧ w.cell? ⟨b, off + k * 4, none⟩ = some (.bool q.d) ∧ w.cell? ⟨b, off + k * 4 + 1, none⟩ = some (.int .i64 q.i) ∧ w.cell? ⟨b, off + k * 4 + 2, none⟩ = some (.int .i64 q.n) ∧ w.cell? ⟨b, off + k * 4 + 3, none⟩ = some (.int .u32 (q.v : Int)) ∧ q.v ≤ 4294967295
theorem Asks.new {w w' : World} {a : Option Addr} {l : List Q} (h : Asks w a l) (hc : Chg (fun _ => False) w w') : Asks w' a l := fun k q hq => by
  obtain ⟨b, off, e, h0, h1, h2, h3, hX⟩ := h k q hq
  exact ⟨b, off, e, cell_chg h0 hc, cell_chg h1 hc, cell_chg h2 hc, cell_chg h3 hc, hX⟩
theorem asks_at : ∀ (l : List Q) (k : Nat) (q : Q) (j : Nat), l[k]? = some q → j < 4 → (l.flatMap Q.cells)[k * 4 + j]? = q.cells[j]?
  | [], k, q, j, h, _ => by simp at h
  | y :: ys, 0, q, j, h, hj => by
    rw [List.flatMap_cons, List.getElem?_append_left (by simp [Q.cells]; omega)]
    simp at h
    subst h
    simp
  | y :: ys, k + 1, q, j, h, hj => by
    rw [List.flatMap_cons, List.getElem?_append_right (by simp [Q.cells]; omega)]
    have e : (k + 1) * 4 + j - y.cells.length = k * 4 + j := by simp [Q.cells]; omega
    rw [e]
    exact asks_at ys k q j (by simpa using h) hj
theorem own_keep4 {w w' : World} {S : Nat → Prop} {B : Nat} {e : TypeId} {size : Nat} {v : Value} {n : Nat} {xs : List Value} (h : w.ownsRow B e size v n xs) (hc : Chg S w w') (hS : ∀ g, v.ownBlock = some g → ¬ S g) : w'.ownsRow B e size v n xs := by
  refine ⟨h.1, ?_⟩
  rcases h.2 with hn | ⟨g, cap, cur, rfl, hb, hgg, rest⟩
  · exact .inl hn
  · exact .inr ⟨g, cap, cur, rfl, hb, (hc.block g (lt_of_blk hgg) (hS g rfl)).trans hgg, rest⟩
/-- A block of another kind is none of an encoder's. -/
theorem Enc.miss {w : World} {B a g : Nat} {v : Value} {e : Rc.E} (h : Enc w B a v e) {cs : Array Value} {t : TypeId} (hb : w.heap[g]? = some (.cells cs t (0, 0))) (h1 : t ≠ 75) (h2 : t ≠ 5) : ¬ Foot a v g := fun f => by
  obtain ⟨l, hl, _⟩ := h
  rcases f with f | f
  · rw [f] at hb
    exact ty_ne hb hl.blk h1
  · obtain ⟨cur, hcur⟩ := owns_blk hl.own f
    exact ty_ne hb hcur h2
theorem from_a (w : World) (x0 x1 x2 x3 : Value) (t : TypeId) : From (w.alloc (.cells #[x0, x1, x2, x3] t)) (some ⟨w.heap.size, 0, none⟩) 1 1 4 [x0, x1, x2, x3] := by
  refine ⟨rfl, .inr ⟨_, rfl, fun j u hu => ?_⟩⟩
  have hb : (w.alloc (.cells #[x0, x1, x2, x3] t)).heap[w.heap.size]? = some (.cells #[x0, x1, x2, x3] t (0, 0)) := heap_alloc_last _ _
  obtain ⟨k0, k1, k2, k3, _⟩ := rcells4 hb
  match j, hu with
  | 0, hu => simp at hu; subst hu; rw [addk]; exact k0
  | 1, hu => simp at hu; subst hu; rw [addk]; exact k1
  | 2, hu => simp at hu; subst hu; rw [addk]; exact k2
  | 3, hu => simp at hu; subst hu; rw [addk]; exact k3
/-- Those that may be asked. -/
def may (n : Nat) (l : List Q) : List Q := l.filter (fun q => decide (q.ok n))
theorem may_step {n k : Nat} {l : List Q} {q : Q} (h : l[k]? = some q) : may n (l.take (k + 1)) = may n (l.take k) ++ if q.ok n then [q] else [] := by
  unfold may
  rw [List.take_add_one, h, List.filter_append]
  congr 1
  by_cases hq : q.ok n
  · simp [hq]
  · simp [hq]
theorem may_len (n : Nat) (l : List Q) (k : Nat) : (may n (l.take k)).length ≤ k := Nat.le_trans (List.length_filter_le _ _) (by rw [List.length_take]; omega)
theorem encL_step {k : Nat} {l : List Q} {q : Q} (h : l[k]? = some q) (e : Rc.E) (xs : List Int) : encL (l.drop k) e xs = if q.ok xs.length then encL (l.drop (k + 1)) (encE q e xs) (encX q xs) else encL (l.drop (k + 1)) e xs := by
  have h1 : k < l.length := (List.getElem?_eq_some_iff.1 h).1
  have h2 : l[k] = q := (List.getElem?_eq_some_iff.1 h).2
  rw [List.drop_eq_getElem_cons h1, h2, encL]
theorem encE_k {q : Q} {e : Rc.E} {xs : List Int} (hq : q.ok xs.length) : (encE q e xs).k ≤ e.k + 32 := by
  unfold encE
  split
  · rename_i hd
    unfold Q.ok at hq
    rw [if_pos hd] at hq
    have := direct_k_le q.v q.n.toNat e
    omega
  · have := cut_k e (e.R / 2048 * (pAt xs q.i).toNat) (decide (((q.v % 2 : Nat) : Int) ≠ 0))
    unfold coded
    omega
theorem enc_base8 {w : World} {B B' a : Nat} {v : Value} {e : Rc.E} (h : Enc w B a v e) (hB : B' ≤ B) : Enc w B' a v e := by
  obtain ⟨l, hl, hI⟩ := h
  exact ⟨l, ⟨Nat.le_trans hB hl.hr, hl.blk, owns_base hl.own hB⟩, hI⟩
end Go.Proofs.Ytibgjpifmpljkaa

/- What is asked of the program's decoder ('DecSpec'), and the contract of the law's answered above it; of no statement by themselves. -/
namespace Go.Proofs.Ytibgjpifmpljkaa
open Go.RowKit
set_option linter.unusedVariables false

/-- What a question may change: the decoder's block, the row of probabilities. -/
def Fd (a : Nat) (u : Value) (z : Nat) : Prop := z = a ∨ u.ownBlock = some z
structure DecSpec (Dec : World → Nat → Nat → Value → List Nat → Rc.D → Prop) : Prop where
  base : ∀ {w B a v bs d}, Dec w B a v bs d → B ≤ a
  blk : ∀ {w B a v bs d}, Dec w B a v bs d → ∃ cs, w.heap[a]? = some (.cells cs 91 (0, 0))
  own : ∀ {w B a v bs d}, Dec w B a v bs d → w.ownsRow B 5 1 v bs.length (ins .u8 (nums bs))
  keep : ∀ {w w' B a v bs d} {S : Nat → Prop}, Dec w B a v bs d → Chg S w w' → ¬ S a → (∀ g, v.ownBlock = some g → ¬ S g) → Dec w' B a v bs d
  down : ∀ {w B B' a v bs d}, Dec w B a v bs d → B' ≤ B → Dec w B' a v bs d
  new : ∀ (ad : Option Addr) (n c : Nat) (bs : List Nat) (w : World), Row8 w ad n c (nums bs) → Rc.Dig bs → n ≤ 140737488355328 → Calls Try.prog 24 #[.slice ad n c] w fun x w' =>
    (bs.length < 5 ∧ x = .returned (.tuple #[.pointer none, .int .i64 1]) ∧ Chg (fun _ => False) w w')
    ∨ (5 ≤ bs.length ∧ (bs.getD 0 0 ≠ 0 ∨ Rc.code5 bs = 4294967295) ∧ x = .returned (.tuple #[.pointer none, .int .i64 2]) ∧ Chg (fun _ => False) w w')
    ∨ (5 ≤ bs.length ∧ bs.getD 0 0 = 0 ∧ Rc.code5 bs < 4294967295 ∧ ∃ r v, x = .returned (.tuple #[.pointer (some ⟨r, 0, none⟩), .int .i64 0]) ∧ Dec w' w.heap.size r v bs ⟨5, 4294967295, Rc.code5 bs⟩ ∧ Chg (fun _ => False) w w')
  bit : ∀ (B B' a s : Nat) (v u : Value) (bs : List Nat) (d : Rc.D) (xs : List Int) (i : Int) (w : World), Dec w B a v bs d → OkD bs d → Rc.Dig bs → bs.length ≤ 140737488355328 → St w B' s u xs → In31 xs → B ≤ w.heap.size → Calls Try.prog 54 #[.pointer (some ⟨a, 0, none⟩), .pointer (some ⟨s, 0, none⟩), .int .i64 i] w fun x w' =>
    (∃ e, decA bs ⟨false, i, 0, 0⟩ d xs = .error e ∧ 0 < e ∧ x = .returned (.tuple #[.int .i64 0, .int .i64 (e : Int)]) ∧ Dec w' B a v bs d ∧ St w' B' s u xs ∧ Chg (Fd a u) w w')
    ∨ (∃ b d' xs', decA bs ⟨false, i, 0, 0⟩ d xs = .ok (b, d', xs') ∧ x = .returned (.tuple #[.int .i64 (b : Int), .int .i64 0]) ∧ Dec w' B a v bs d' ∧ St w' B' s u xs' ∧ Chg (Fd a u) w w')
  dir : ∀ (B a : Nat) (v : Value) (bs : List Nat) (d : Rc.D) (n : Int) (w : World), Dec w B a v bs d → OkD bs d → Rc.Dig bs → bs.length ≤ 140737488355328 → B ≤ w.heap.size → Calls Try.prog 56 #[.pointer (some ⟨a, 0, none⟩), .int .i64 n] w fun x w' =>
    (∃ e, decA bs ⟨true, 0, n, 0⟩ d [] = .error e ∧ 0 < e ∧ x = .returned (.tuple #[.int .u32 0, .int .i64 (e : Int)]) ∧ Dec w' B a v bs d ∧ Chg (fun z => z = a) w w')
    ∨ (∃ b d', decA bs ⟨true, 0, n, 0⟩ d [] = .ok (b, d', []) ∧ x = .returned (.tuple #[.int .u32 (b : Int), .int .i64 0]) ∧ Dec w' B a v bs d' ∧ Chg (fun z => z = a) w w')
  used : ∀ (B a : Nat) (v : Value) (bs : List Nat) (d : Rc.D) (w : World), Dec w B a v bs d → Calls Try.prog 33 #[.pointer (some ⟨a, 0, none⟩)] w fun x w' => x = .returned (.int .i64 (d.n : Int)) ∧ Chg (fun _ => False) w w'
  done : ∀ (B a : Nat) (v : Value) (bs : List Nat) (d : Rc.D) (w : World), Dec w B a v bs d → Calls Try.prog 26 #[.pointer (some ⟨a, 0, none⟩)] w fun x w' => x = .returned (.bool (decide (d.n = bs.length ∧ d.C = 0))) ∧ Chg (fun _ => False) w w'

theorem decA_bit (bs : List Nat) (i n : Int) (v : Nat) (d : Rc.D) (xs : List Int) : decA bs ⟨false, i, n, v⟩ d xs = decA bs ⟨false, i, 0, 0⟩ d xs := rfl
theorem decA_dir_err {bs : List Nat} {i n : Int} {v : Nat} {d : Rc.D} {xs : List Int} {e : Nat} (h : decA bs ⟨true, 0, n, 0⟩ d [] = .error e) : decA bs ⟨true, i, n, v⟩ d xs = .error e := by
  by_cases hn : 0 ≤ n ∧ n ≤ 32
  · have h1 : ∀ q : Q, q.d = true → q.n = n → ∀ len, q.ok len := fun q h1 h2 len => by unfold Q.ok; rw [if_pos h1, h2]; exact hn
    unfold decA at *
    rw [if_pos (h1 _ rfl rfl _)] at h ⊢
    cases e1 : dirD bs n.toNat 0 d with
    | error x => simp only [if_true, e1] at h ⊢; exact h
    | ok y => simp only [if_true, e1] at h; cases h
  · have h1 : ∀ q : Q, q.d = true → q.n = n → ∀ len, ¬ q.ok len := fun q h1 h2 len f => by unfold Q.ok at f; rw [if_pos h1, h2] at f; exact hn f
    unfold decA at *
    rw [if_neg (h1 _ rfl rfl _)] at h ⊢
    cases h
    rfl
theorem decA_dir_ok {bs : List Nat} {i n : Int} {v : Nat} {d d' : Rc.D} {xs : List Int} {b : Nat} (h : decA bs ⟨true, 0, n, 0⟩ d [] = .ok (b, d', [])) : decA bs ⟨true, i, n, v⟩ d xs = .ok (b, d', xs) := by
  by_cases hn : 0 ≤ n ∧ n ≤ 32
  · have h1 : ∀ q : Q, q.d = true → q.n = n → ∀ len, q.ok len := fun q h1 h2 len => by unfold Q.ok; rw [if_pos h1, h2]; exact hn
    unfold decA at *
    rw [if_pos (h1 _ rfl rfl _)] at h ⊢
    cases e1 : dirD bs n.toNat 0 d with
    | error x => simp only [if_true, e1] at h; cases h
    | ok y => simp only [if_true, e1] at h ⊢; simp only [Except.ok.injEq, Prod.mk.injEq] at h ⊢; exact ⟨h.1, h.2.1, trivial⟩
  · have h1 : ∀ q : Q, q.d = true → q.n = n → ∀ len, ¬ q.ok len := fun q h1 h2 len f => by unfold Q.ok at f; rw [if_pos h1, h2] at f; exact hn f
    unfold decA at *
    rw [if_neg (h1 _ rfl rfl _)] at h
    cases h
theorem Asks.keep {w w' : World} {S : Nat → Prop} {a : Option Addr} {l : List Q} (h : Asks w a l) (hc : Chg S w w') (hS : ∀ x, a = some x → l ≠ [] → ¬ S x.block) : Asks w' a l := fun k q hq => by
  obtain ⟨b, off, e, h0, h1, h2, h3, hX⟩ := h k q hq
  have hb : ¬ S b := hS _ e (fun f => by rw [f] at hq; simp at hq)
  have ck : ∀ {p : Addr} {v : Value}, p.block = b → w.cell? p = some v → w'.cell? p = some v := fun hp hv => by
    rw [World.cell?_of_block (w := w) (hc.block _ (World.block_lt_of_cell? w _ hv) (by rw [hp]; exact hb))]
    exact hv
  exact ⟨b, off, e, ck rfl h0, ck rfl h1, ck rfl h2, ck rfl h3, hX⟩
theorem Asks.old {w : World} {a : Option Addr} {l : List Q} (h : Asks w a l) : ∀ x, a = some x → l ≠ [] → x.block < w.heap.size := fun x ex hl => by
  cases l with
  | nil => exact absurd rfl hl
  | cons q t =>
    obtain ⟨b, off, e, h0, _⟩ := h 0 q rfl
    rw [e] at ex
    cases ex
    exact World.block_lt_of_cell? w ⟨b, off + 0 * 4, none⟩ h0

/-- A decoder, its row, the list of its answers under way. -/
structure Dw (Dec : World → Nat → Nat → Value → List Nat → Rc.D → Prop) (w0 wr : World) (B B' a s : Nat) (v u : Value) (bs : List Nat) (l : List Q) (d0 : Rc.D) (xs0 : List Int) (k : Nat) (lv : Value) (vals : List Nat) (d : Rc.D) (xs : List Int) : Prop where
  chg : Chg (Fd a u) w0 wr
  dec : Dec wr B a v bs d
  ok : OkD bs d
  st : St wr B' s u xs
  inn : In31 xs
  row : wr.ownsRow w0.heap.size 71 1 lv vals.length (ins .u32 (nums vals))
  len : vals.length = k
  eq : decL bs l d0 xs0 = (vals ++ (decL bs (l.drop k) d xs).1, (decL bs (l.drop k) d xs).2)
theorem Dw.new {Dec : World → Nat → Nat → Value → List Nat → Rc.D → Prop} (S : DecSpec Dec) {w0 wr w' : World} {B B' a s : Nat} {v u : Value} {bs : List Nat} {l : List Q} {d0 : Rc.D} {xs0 : List Int} {k : Nat} {lv : Value} {vals : List Nat} {d : Rc.D} {xs : List Int} (h : Dw Dec w0 wr B B' a s v u bs l d0 xs0 k lv vals d xs) (hc : Chg (fun _ => False) wr w') : Dw Dec w0 w' B B' a s v u bs l d0 xs0 k lv vals d xs :=
  ⟨h.chg.trans hc (fun _ f => f.elim), S.keep h.dec hc (fun f => f) (fun _ _ f => f), h.ok, h.st.new hc, h.inn, ownsRow_keep h.row hc (fun _ _ f => f), h.len, h.eq⟩
/-- A question was answered. -/
theorem Dw.turn {Dec : World → Nat → Nat → Value → List Nat → Rc.D → Prop} (S : DecSpec Dec) {w0 wr w' : World} {B B' a s : Nat} {v u : Value} {bs : List Nat} {l : List Q} {d0 : Rc.D} {xs0 : List Int} {k : Nat} {lv : Value} {vals : List Nat} {d d' : Rc.D} {xs xs' : List Int} (h : Dw Dec w0 wr B B' a s v u bs l d0 xs0 k lv vals d xs) (hc : Chg (Fd a u) wr w') : w'.ownsRow w0.heap.size 71 1 lv vals.length (ins .u32 (nums vals)) ∧ Chg (Fd a u) w0 w' := by
  refine ⟨ownsRow_keep h.row hc (fun g eg f => ?_), h.chg.trans hc (fun _ f => .inl f)⟩
  obtain ⟨cur, hcur⟩ := owns_blk h.row eg
  rcases f with f | f
  · obtain ⟨cs, hb⟩ := S.blk h.dec
    rw [f] at hcur
    exact ty_ne hb hcur (by decide)
  · obtain ⟨cur2, hcur2⟩ := owns_blk h.st.own f
    exact ty_ne hcur2 hcur (by decide)
theorem infoU32 : (Try.prog.info? 71).map (fun i => (i.zero, i.size, i.bytes)) = some (some (.int .u32 0), 1, 4) := by kernel_rfl
theorem decL_err {bs : List Nat} {l : List Q} {k : Nat} {q : Q} (h : l[k]? = some q) {d : Rc.D} {xs : List Int} {e : Nat} (he : decA bs q d xs = .error e) : decL bs (l.drop k) d xs = ([], d, xs, false) := by
  have h1 : k < l.length := (List.getElem?_eq_some_iff.1 h).1
  have h2 : l[k] = q := (List.getElem?_eq_some_iff.1 h).2
  rw [List.drop_eq_getElem_cons h1, h2, decL, he]
theorem decL_ok {bs : List Nat} {l : List Q} {k : Nat} {q : Q} (h : l[k]? = some q) {d d' : Rc.D} {xs xs' : List Int} {v : Nat} (he : decA bs q d xs = .ok (v, d', xs')) : decL bs (l.drop k) d xs = (v :: (decL bs (l.drop (k + 1)) d' xs').1, (decL bs (l.drop (k + 1)) d' xs').2) := by
  have h1 : k < l.length := (List.getElem?_eq_some_iff.1 h).1
  have h2 : l[k] = q := (List.getElem?_eq_some_iff.1 h).2
  rw [List.drop_eq_getElem_cons h1, h2, decL, he]
/-- What answered answers. -/
structure Told (Dec : World → Nat → Nat → Value → List Nat → Rc.D → Prop) (w0 w' : World) (B B' a s : Nat) (v u : Value) (bs : List Nat) (r : List Nat × Rc.D × List Int × Bool) (lv : Value) : Prop where
  row : w'.ownsRow w0.heap.size 71 1 lv r.1.length (ins .u32 (nums r.1))
  dec : Dec w' B a v bs r.2.1
  ok : OkD bs r.2.1
  st : St w' B' s u r.2.2.1
  inn : In31 r.2.2.1
  chg : Chg (Fd a u) w0 w'
theorem Dw.push {Dec : World → Nat → Nat → Value → List Nat → Rc.D → Prop} (S : DecSpec Dec) {w0 wr w3 w' : World} {B B' a s : Nat} {v u : Value} {bs : List Nat} {l : List Q} {d0 : Rc.D} {xs0 : List Int} {k : Nat} {lv lv' : Value} {vals : List Nat} {d d' : Rc.D} {xs xs' : List Int} {q : Q} {b : Nat} (hdig : Rc.Dig bs) (h : Dw Dec w0 wr B B' a s v u bs l d0 xs0 k lv vals d xs) (hq : l[k]? = some q) (he : decA bs q d xs = .ok (b, d', xs')) (hD : Dec w3 B a v bs d') (hS : St w3 B' s u xs') (hc : Chg (Fd a u) w0 w3) (ho : w'.ownsRow w0.heap.size 71 1 lv' (vals.length + 1) (ins .u32 (nums vals) ++ [.int .u32 (b : Int)])) (ho3 : w3.ownsRow w0.heap.size 71 1 lv vals.length (ins .u32 (nums vals))) (hg : w3.grownBy w' lv.ownBlock) : Dw Dec w0 w' B B' a s v u bs l d0 xs0 (k + 1) lv' (vals ++ [b]) d' xs' := by
  have c2 : Chg (fun z => lv.ownBlock = some z) w3 w' := (Chg.refl _ w3).grown hg (fun k e => .inl e)
  obtain ⟨h1, h2, h3, h4, h5⟩ := decA_ok hdig h.ok h.inn he
  have ms : ∀ g cs t, w3.heap[g]? = some (.cells cs t (0, 0)) → t ≠ 71 → lv.ownBlock ≠ some g := fun g cs t hb ht eg => by
    obtain ⟨cur, hcur⟩ := owns_blk ho3 eg
    exact ty_ne hb hcur ht
  refine ⟨hc.grown hg (fun k e => .inr (ho3.lt k e).1), S.keep hD c2 ?_ (fun g eg => ?_), h3, hS.keep c2 (ms _ _ _ hS.blk (by decide)) (fun g eg => ?_), h4, ?_, by rw [List.length_append, h.len]; rfl, ?_⟩
  · obtain ⟨cs, hb⟩ := S.blk hD
    exact ms _ _ _ hb (by decide)
  · obtain ⟨cur, hcur⟩ := owns_blk (S.own hD) eg
    exact ms _ _ _ hcur (by decide)
  · obtain ⟨cur, hcur⟩ := owns_blk hS.own eg
    exact ms _ _ _ hcur (by decide)
  · rw [List.length_append]
    simpa [ins, nums] using ho
  · rw [h.eq, decL_ok hq he]
    simp
theorem Dw.err {Dec : World → Nat → Nat → Value → List Nat → Rc.D → Prop} {w0 wr w' : World} {B B' a s : Nat} {v u : Value} {bs : List Nat} {l : List Q} {d0 : Rc.D} {xs0 : List Int} {k : Nat} {lv : Value} {vals : List Nat} {d : Rc.D} {xs : List Int} {q : Q} {e : Nat} (h : Dw Dec w0 wr B B' a s v u bs l d0 xs0 k lv vals d xs) (hq : l[k]? = some q) (he : decA bs q d xs = .error e) (hD : Dec w' B a v bs d) (hS : St w' B' s u xs) (hr : w'.ownsRow w0.heap.size 71 1 lv vals.length (ins .u32 (nums vals))) (hc : Chg (Fd a u) w0 w') : Told Dec w0 w' B B' a s v u bs (decL bs l d0 xs0) lv ∧ (decL bs l d0 xs0).2.1 = d := by
  have e1 : decL bs l d0 xs0 = (vals, d, xs, false) := by rw [h.eq, decL_err hq he]; simp
  rw [e1]
  exact ⟨⟨hr, hD, h.ok, hS, h.inn, hc⟩, rfl⟩
theorem Dw.end_ {Dec : World → Nat → Nat → Value → List Nat → Rc.D → Prop} {w0 wr : World} {B B' a s : Nat} {v u : Value} {bs : List Nat} {l : List Q} {d0 : Rc.D} {xs0 : List Int} {k : Nat} {lv : Value} {vals : List Nat} {d : Rc.D} {xs : List Int} (h : Dw Dec w0 wr B B' a s v u bs l d0 xs0 k lv vals d xs) (hk : l.length = k) : Told Dec w0 wr B B' a s v u bs (decL bs l d0 xs0) lv ∧ (decL bs l d0 xs0).2.1 = d := by
  have e1 : decL bs l d0 xs0 = (vals, d, xs, true) := by rw [h.eq, List.drop_eq_nil_of_le (by omega)]; simp [decL]
  rw [e1]
  exact ⟨⟨h.row, h.dec, h.ok, h.st, h.inn, h.chg⟩, rfl⟩
theorem form1 {w : World} {B : Nat} {t : TypeId} {lv : Value} {n : Nat} {xs : List Value} (h : w.ownsRow B t 1 lv n xs) : ∃ a c, lv = .slice a n c := by
  rcases h.2 with ⟨rfl, rfl⟩ | ⟨g, cap, cur, rfl, _⟩
  · exact ⟨none, 0, rfl⟩
  · exact ⟨_, cap, rfl⟩
theorem Told.new {Dec : World → Nat → Nat → Value → List Nat → Rc.D → Prop} (S : DecSpec Dec) {w0 w w' : World} {B B' a s : Nat} {v u lv : Value} {bs : List Nat} {r : List Nat × Rc.D × List Int × Bool} (h : Told Dec w0 w B B' a s v u bs r lv) (hc : Chg (fun _ => False) w w') : Told Dec w0 w' B B' a s v u bs r lv :=
  ⟨ownsRow_keep h.row hc (fun _ _ f => f), S.keep h.dec hc (fun f => f) (fun _ _ f => f), h.ok, h.st.new hc, h.inn, h.chg.trans hc (fun _ f => f.elim)⟩
end Go.Proofs.Ytibgjpifmpljkaa
