/- What is asked of the program's decoder ('DecSpec'), and the contract of the law's answered above it; of no statement by themselves. -/
import Derived.Test.YtejopgopcocapaaLawE
namespace Go.Proofs.Ytejopgopcocapaa
open Go.RowKit
set_option linter.unusedVariables false

/-- What a question may change: the decoder's block, the row of probabilities. -/
def Fd (a : Nat) (u : Value) (z : Nat) : Prop := z = a ∨ u.ownBlock = some z
structure DecSpec (Dec : World → Nat → Nat → Value → List Nat → Rc.D → Prop) : Prop where
  base : ∀ {w B a v bs d}, Dec w B a v bs d → B ≤ a
  blk : ∀ {w B a v bs d}, Dec w B a v bs d → ∃ cs, w.heap[a]? = some (.cells cs 70 (0, 0))
  own : ∀ {w B a v bs d}, Dec w B a v bs d → w.ownsRow B 5 1 v bs.length (ins .u8 (nums bs))
  keep : ∀ {w w' B a v bs d} {S : Nat → Prop}, Dec w B a v bs d → Chg S w w' → ¬ S a → (∀ g, v.ownBlock = some g → ¬ S g) → Dec w' B a v bs d
  down : ∀ {w B B' a v bs d}, Dec w B a v bs d → B' ≤ B → Dec w B' a v bs d
  new : ∀ (ad : Option Addr) (n c : Nat) (bs : List Nat) (w : World), Row8 w ad n c (nums bs) → Rc.Dig bs → n ≤ 140737488355328 → Calls Try.prog 9 #[.slice ad n c] w fun x w' =>
    (bs.length < 5 ∧ x = .returned (.tuple #[.pointer none, .int .i64 1]) ∧ Chg (fun _ => False) w w')
    ∨ (5 ≤ bs.length ∧ (bs.getD 0 0 ≠ 0 ∨ Rc.code5 bs = 4294967295) ∧ x = .returned (.tuple #[.pointer none, .int .i64 2]) ∧ Chg (fun _ => False) w w')
    ∨ (5 ≤ bs.length ∧ bs.getD 0 0 = 0 ∧ Rc.code5 bs < 4294967295 ∧ ∃ r v, x = .returned (.tuple #[.pointer (some ⟨r, 0, none⟩), .int .i64 0]) ∧ Dec w' w.heap.size r v bs ⟨5, 4294967295, Rc.code5 bs⟩ ∧ Chg (fun _ => False) w w')
  bit : ∀ (B B' a s : Nat) (v u : Value) (bs : List Nat) (d : Rc.D) (xs : List Int) (i : Int) (w : World), Dec w B a v bs d → OkD bs d → Rc.Dig bs → bs.length ≤ 140737488355328 → St w B' s u xs → In31 xs → B ≤ w.heap.size → Calls Try.prog 16 #[.pointer (some ⟨a, 0, none⟩), .pointer (some ⟨s, 0, none⟩), .int .i64 i] w fun x w' =>
    (∃ e, decA bs ⟨false, i, 0, 0⟩ d xs = .error e ∧ 0 < e ∧ x = .returned (.tuple #[.int .i64 0, .int .i64 (e : Int)]) ∧ Dec w' B a v bs d ∧ St w' B' s u xs ∧ Chg (Fd a u) w w')
    ∨ (∃ b d' xs', decA bs ⟨false, i, 0, 0⟩ d xs = .ok (b, d', xs') ∧ x = .returned (.tuple #[.int .i64 (b : Int), .int .i64 0]) ∧ Dec w' B a v bs d' ∧ St w' B' s u xs' ∧ Chg (Fd a u) w w')
  dir : ∀ (B a : Nat) (v : Value) (bs : List Nat) (d : Rc.D) (n : Int) (w : World), Dec w B a v bs d → OkD bs d → Rc.Dig bs → bs.length ≤ 140737488355328 → B ≤ w.heap.size → Calls Try.prog 15 #[.pointer (some ⟨a, 0, none⟩), .int .i64 n] w fun x w' =>
    (∃ e, decA bs ⟨true, 0, n, 0⟩ d [] = .error e ∧ 0 < e ∧ x = .returned (.tuple #[.int .u32 0, .int .i64 (e : Int)]) ∧ Dec w' B a v bs d ∧ Chg (fun z => z = a) w w')
    ∨ (∃ b d', decA bs ⟨true, 0, n, 0⟩ d [] = .ok (b, d', []) ∧ x = .returned (.tuple #[.int .u32 (b : Int), .int .i64 0]) ∧ Dec w' B a v bs d' ∧ Chg (fun z => z = a) w w')
  used : ∀ (B a : Nat) (v : Value) (bs : List Nat) (d : Rc.D) (w : World), Dec w B a v bs d → Calls Try.prog 18 #[.pointer (some ⟨a, 0, none⟩)] w fun x w' => x = .returned (.int .i64 (d.n : Int)) ∧ Chg (fun _ => False) w w'
  done : ∀ (B a : Nat) (v : Value) (bs : List Nat) (d : Rc.D) (w : World), Dec w B a v bs d → Calls Try.prog 19 #[.pointer (some ⟨a, 0, none⟩)] w fun x w' => x = .returned (.bool (decide (d.n = bs.length ∧ d.C = 0))) ∧ Chg (fun _ => False) w w'

theorem decA_bit (bs : List Nat) (i n : Int) (v : Nat) (d : Rc.D) (xs : List Int) : decA bs ⟨false, i, n, v⟩ d xs = decA bs ⟨false, i, 0, 0⟩ d xs := rfl
theorem decA_dir_err {bs : List Nat} {i n : Int} {v : Nat} {d : Rc.D} {xs : List Int} {e : Nat} (h : decA bs ⟨true, 0, n, 0⟩ d [] = .error e) : decA bs ⟨true, i, n, v⟩ d xs = .error e := by
  by_cases hn : 0 ≤ n ∧ n ≤ 32
  · have h1 : ∀ q : Q, q.d = true → q.n = n → ∀ len, q.ok len := fun q h1 h2 len => by unfold Q.ok; rw [if_pos h1, h2]; exact hn
    unfold decA at *
    rw [if_pos (h1 _ rfl rfl _)] at h ⊢
    cases e1 : dirD bs n.toNat 0 d with
    | error x => simp only [if_true, e1] at h ⊢; exact h
    | ok y => simp only [if_true, e1] at h; cases h
  · have h1 : ∀ q : Q, q.d = true → q.n = n → ∀ len, ¬ q.ok len := fun q h1 h2 len f => by unfold Q.ok at f; rw [if_pos h1, h2] at f; exact hn f
    unfold decA at *
    rw [if_neg (h1 _ rfl rfl _)] at h ⊢
    cases h
    rfl
theorem decA_dir_ok {bs : List Nat} {i n : Int} {v : Nat} {d d' : Rc.D} {xs : List Int} {b : Nat} (h : decA bs ⟨true, 0, n, 0⟩ d [] = .ok (b, d', [])) : decA bs ⟨true, i, n, v⟩ d xs = .ok (b, d', xs) := by
  by_cases hn : 0 ≤ n ∧ n ≤ 32
  · have h1 : ∀ q : Q, q.d = true → q.n = n → ∀ len, q.ok len := fun q h1 h2 len => by unfold Q.ok; rw [if_pos h1, h2]; exact hn
    unfold decA at *
    rw [if_pos (h1 _ rfl rfl _)] at h ⊢
    cases e1 : dirD bs n.toNat 0 d with
    | error x => simp only [if_true, e1] at h; cases h
    | ok y => simp only [if_true, e1] at h ⊢; simp only [Except.ok.injEq, Prod.mk.injEq] at h ⊢; exact ⟨h.1, h.2.1, trivial⟩
  · have h1 : ∀ q : Q, q.d = true → q.n = n → ∀ len, ¬ q.ok len := fun q h1 h2 len f => by unfold Q.ok at f; rw [if_pos h1, h2] at f; exact hn f
    unfold decA at *
    rw [if_neg (h1 _ rfl rfl _)] at h
    cases h
theorem Asks.keep {w w' : World} {S : Nat → Prop} {a : Option Addr} {l : List Q} (h : Asks w a l) (hc : Chg S w w') (hS : ∀ x, a = some x → l ≠ [] → ¬ S x.block) : Asks w' a l := fun k q hq => by
  obtain ⟨b, off, e, h0, h1, h2, h3, hX⟩ := h k q hq
  have hb : ¬ S b := hS _ e (fun f => by rw [f] at hq; simp at hq)
  have ck : ∀ {p : Addr} {v : Value}, p.block = b → w.cell? p = some v → w'.cell? p = some v := fun hp hv => by
    rw [World.cell?_of_block (w := w) (hc.block _ (World.block_lt_of_cell? w _ hv) (by rw [hp]; exact hb))]
    exact hv
  exact ⟨b, off, e, ck rfl h0, ck rfl h1, ck rfl h2, ck rfl h3, hX⟩
theorem Asks.old {w : World} {a : Option Addr} {l : List Q} (h : Asks w a l) : ∀ x, a = some x → l ≠ [] → x.block < w.heap.size := fun x ex hl => by
  cases l with
  | nil => exact absurd rfl hl
  | cons q t =>
    obtain ⟨b, off, e, h0, _⟩ := h 0 q rfl
    rw [e] at ex
    cases ex
    exact World.block_lt_of_cell? w ⟨b, off + 0 * 4, none⟩ h0

/-- A decoder, its row, the list of its answers under way. -/
structure Dw (Dec : World → Nat → Nat → Value → List Nat → Rc.D → Prop) (w0 wr : World) (B B' a s : Nat) (v u : Value) (bs : List Nat) (l : List Q) (d0 : Rc.D) (xs0 : List Int) (k : Nat) (lv : Value) (vals : List Nat) (d : Rc.D) (xs : List Int) : Prop where
  chg : Chg (Fd a u) w0 wr
  dec : Dec wr B a v bs d
  ok : OkD bs d
  st : St wr B' s u xs
  inn : In31 xs
  row : wr.ownsRow w0.heap.size 38 1 lv vals.length (ins .u32 (nums vals))
  len : vals.length = k
  eq : decL bs l d0 xs0 = (vals ++ (decL bs (l.drop k) d xs).1, (decL bs (l.drop k) d xs).2)
theorem Dw.new {Dec : World → Nat → Nat → Value → List Nat → Rc.D → Prop} (S : DecSpec Dec) {w0 wr w' : World} {B B' a s : Nat} {v u : Value} {bs : List Nat} {l : List Q} {d0 : Rc.D} {xs0 : List Int} {k : Nat} {lv : Value} {vals : List Nat} {d : Rc.D} {xs : List Int} (h : Dw Dec w0 wr B B' a s v u bs l d0 xs0 k lv vals d xs) (hc : Chg (fun _ => False) wr w') : Dw Dec w0 w' B B' a s v u bs l d0 xs0 k lv vals d xs :=
  ⟨h.chg.trans hc (fun _ f => f.elim), S.keep h.dec hc (fun f => f) (fun _ _ f => f), h.ok, h.st.new hc, h.inn, ownsRow_keep h.row hc (fun _ _ f => f), h.len, h.eq⟩
/-- A question was answered. -/
theorem Dw.turn {Dec : World → Nat → Nat → Value → List Nat → Rc.D → Prop} (S : DecSpec Dec) {w0 wr w' : World} {B B' a s : Nat} {v u : Value} {bs : List Nat} {l : List Q} {d0 : Rc.D} {xs0 : List Int} {k : Nat} {lv : Value} {vals : List Nat} {d d' : Rc.D} {xs xs' : List Int} (h : Dw Dec w0 wr B B' a s v u bs l d0 xs0 k lv vals d xs) (hc : Chg (Fd a u) wr w') : w'.ownsRow w0.heap.size 38 1 lv vals.length (ins .u32 (nums vals)) ∧ Chg (Fd a u) w0 w' := by
  refine ⟨ownsRow_keep h.row hc (fun g eg f => ?_), h.chg.trans hc (fun _ f => .inl f)⟩
  obtain ⟨cur, hcur⟩ := owns_blk h.row eg
  rcases f with f | f
  · obtain ⟨cs, hb⟩ := S.blk h.dec
    rw [f] at hcur
    exact ty_ne hb hcur (by decide)
  · obtain ⟨cur2, hcur2⟩ := owns_blk h.st.own f
    exact ty_ne hcur2 hcur (by decide)
theorem infoU32 : (Try.prog.info? 38).map (fun i => (i.zero, i.size, i.bytes)) = some (some (.int .u32 0), 1, 4) := by kernel_rfl
theorem decL_err {bs : List Nat} {l : List Q} {k : Nat} {q : Q} (h : l[k]? = some q) {d : Rc.D} {xs : List Int} {e : Nat} (he : decA bs q d xs = .error e) : decL bs (l.drop k) d xs = ([], d, xs, false) := by
  have h1 : k < l.length := (List.getElem?_eq_some_iff.1 h).1
  have h2 : l[k] = q := (List.getElem?_eq_some_iff.1 h).2
  rw [List.drop_eq_getElem_cons h1, h2, decL, he]
theorem decL_ok {bs : List Nat} {l : List Q} {k : Nat} {q : Q} (h : l[k]? = some q) {d d' : Rc.D} {xs xs' : List Int} {v : Nat} (he : decA bs q d xs = .ok (v, d', xs')) : decL bs (l.drop k) d xs = (v :: (decL bs (l.drop (k + 1)) d' xs').1, (decL bs (l.drop (k + 1)) d' xs').2) := by
  have h1 : k < l.length := (List.getElem?_eq_some_iff.1 h).1
  have h2 : l[k] = q := (List.getElem?_eq_some_iff.1 h).2
  rw [List.drop_eq_getElem_cons h1, h2, decL, he]
/-- What answered answers. -/
structure Told (Dec : World → Nat → Nat → Value → List Nat → Rc.D → Prop) (w0 w' : World) (B B' a s : Nat) (v u : Value) (bs : List Nat) (r : List Nat × Rc.D × List Int × Bool) (lv : Value) : Prop where
  row : w'.ownsRow w0.heap.size 38 1 lv r.1.length (ins .u32 (nums r.1))
  dec : Dec w' B a v bs r.2.1
  ok : OkD bs r.2.1
  st : St w' B' s u r.2.2.1
  inn : In31 r.2.2.1
  chg : Chg (Fd a u) w0 w'
theorem Dw.push {Dec : World → Nat → Nat → Value → List Nat → Rc.D → Prop} (S : DecSpec Dec) {w0 wr w3 w' : World} {B B' a s : Nat} {v u : Value} {bs : List Nat} {l : List Q} {d0 : Rc.D} {xs0 : List Int} {k : Nat} {lv lv' : Value} {vals : List Nat} {d d' : Rc.D} {xs xs' : List Int} {q : Q} {b : Nat} (hdig : Rc.Dig bs) (h : Dw Dec w0 wr B B' a s v u bs l d0 xs0 k lv vals d xs) (hq : l[k]? = some q) (he : decA bs q d xs = .ok (b, d', xs')) (hD : Dec w3 B a v bs d') (hS : St w3 B' s u xs') (hc : Chg (Fd a u) w0 w3) (ho : w'.ownsRow w0.heap.size 38 1 lv' (vals.length + 1) (ins .u32 (nums vals) ++ [.int .u32 (b : Int)])) (ho3 : w3.ownsRow w0.heap.size 38 1 lv vals.length (ins .u32 (nums vals))) (hg : w3.grownBy w' lv.ownBlock) : Dw Dec w0 w' B B' a s v u bs l d0 xs0 (k + 1) lv' (vals ++ [b]) d' xs' := by
  have c2 : Chg (fun z => lv.ownBlock = some z) w3 w' := (Chg.refl _ w3).grown hg (fun k e => .inl e)
  obtain ⟨h1, h2, h3, h4, h5⟩ := decA_ok hdig h.ok h.inn he
  have ms : ∀ g cs t, w3.heap[g]? = some (.cells cs t (0, 0)) → t ≠ 38 → lv.ownBlock ≠ some g := fun g cs t hb ht eg => by
    obtain ⟨cur, hcur⟩ := owns_blk ho3 eg
    exact ty_ne hb hcur ht
  refine ⟨hc.grown hg (fun k e => .inr (ho3.lt k e).1), S.keep hD c2 ?_ (fun g eg => ?_), h3, hS.keep c2 (ms _ _ _ hS.blk (by decide)) (fun g eg => ?_), h4, ?_, by rw [List.length_append, h.len]; rfl, ?_⟩
  · obtain ⟨cs, hb⟩ := S.blk hD
    exact ms _ _ _ hb (by decide)
  · obtain ⟨cur, hcur⟩ := owns_blk (S.own hD) eg
    exact ms _ _ _ hcur (by decide)
  · obtain ⟨cur, hcur⟩ := owns_blk hS.own eg
    exact ms _ _ _ hcur (by decide)
  · rw [List.length_append]
    simpa [ins, nums] using ho
  · rw [h.eq, decL_ok hq he]
    simp
theorem Dw.err {Dec : World → Nat → Nat → Value → List Nat → Rc.D → Prop} {w0 wr w' : World} {B B' a s : Nat} {v u : Value} {bs : List Nat} {l : List Q} {d0 : Rc.D} {xs0 : List Int} {k : Nat} {lv : Value} {vals : List Nat} {d : Rc.D} {xs : List Int} {q : Q} {e : Nat} (h : Dw Dec w0 wr B B' a s v u bs l d0 xs0 k lv vals d xs) (hq : l[k]? = some q) (he : decA bs q d xs = .error e) (hD : Dec w' B a v bs d) (hS : St w' B' s u xs) (hr : w'.ownsRow w0.heap.size 38 1 lv vals.length (ins .u32 (nums vals))) (hc : Chg (Fd a u) w0 w') : Told Dec w0 w' B B' a s v u bs (decL bs l d0 xs0) lv ∧ (decL bs l d0 xs0).2.1 = d := by
  have e1 : decL bs l d0 xs0 = (vals, d, xs, false) := by rw [h.eq, decL_err hq he]; simp
  rw [e1]
  exact ⟨⟨hr, hD, h.ok, hS, h.inn, hc⟩, rfl⟩
theorem Dw.end_ {Dec : World → Nat → Nat → Value → List Nat → Rc.D → Prop} {w0 wr : World} {B B' a s : Nat} {v u : Value} {bs : List Nat} {l : List Q} {d0 : Rc.D} {xs0 : List Int} {k : Nat} {lv : Value} {vals : List Nat} {d : Rc.D} {xs : List Int} (h : Dw Dec w0 wr B B' a s v u bs l d0 xs0 k lv vals d xs) (hk : l.length = k) : Told Dec w0 wr B B' a s v u bs (decL bs l d0 xs0) lv ∧ (decL bs l d0 xs0).2.1 = d := by
  have e1 : decL bs l d0 xs0 = (vals, d, xs, true) := by rw [h.eq, List.drop_eq_nil_of_le (by omega)]; simp [decL]
  rw [e1]
  exact ⟨⟨h.row, h.dec, h.ok, h.st, h.inn, h.chg⟩, rfl⟩
theorem form1 {w : World} {B : Nat} {t : TypeId} {lv : Value} {n : Nat} {xs : List Value} (h : w.ownsRow B t 1 lv n xs) : ∃ a c, lv = .slice a n c := by
  rcases h.2 with ⟨rfl, rfl⟩ | ⟨g, cap, cur, rfl, _⟩
  · exact ⟨none, 0, rfl⟩
  · exact ⟨_, cap, rfl⟩
theorem Told.new {Dec : World → Nat → Nat → Value → List Nat → Rc.D → Prop} (S : DecSpec Dec) {w0 w w' : World} {B B' a s : Nat} {v u lv : Value} {bs : List Nat} {r : List Nat × Rc.D × List Int × Bool} (h : Told Dec w0 w B B' a s v u bs r lv) (hc : Chg (fun _ => False) w w') : Told Dec w0 w' B B' a s v u bs r lv :=
  ⟨ownsRow_keep h.row hc (fun _ _ f => f), S.keep h.dec hc (fun f => f) (fun _ _ f => f), h.ok, h.st.new hc, h.inn, h.chg.trans hc (fun _ f => f.elim)⟩
set_option maxHeartbeats 8000000 in
set_option maxRecDepth 100000 in
theorem answered_any {Dec : World → Nat → Nat → Value → List Nat → Rc.D → Prop} (S : DecSpec Dec) (B B' a s : Nat) (v u : Value) (bs : List Nat) (d0 : Rc.D) (xs0 : List Int) (av : Option Addr) (L cv : Nat) (l : List Q) (w0 : World) (h : Dec w0 B a v bs d0) (hO : OkD bs d0) (hdig : Rc.Dig bs) (hlen : bs.length ≤ 140737488355328) (hS : St w0 B' s u xs0) (hI : In31 xs0) (hB : B ≤ w0.heap.size) (hA : Asks w0 av l) (hL : l.length = L) (hl : L ≤ 4398046510976) (hav : ∀ x, av = some x → l ≠ [] → ¬ Fd a u x.block) :
    Calls Try.prog 12 #[.pointer (some ⟨a, 0, none⟩), .pointer (some ⟨s, 0, none⟩), .slice av L cv] w0 fun x w' => ∃ lv, x = .returned (.tuple #[lv, .int .i64 ((decL bs l d0 xs0).2.1.n : Int)]) ∧ Told Dec w0 w' B B' a s v u bs (decL bs l d0 xs0) lv := by
  have HA0 : Hid (Asks w0 av l) := hA
  have HLL : Hid (l.length = L) := hL
  have HAV : Hid (∀ x, av = some x → l ≠ [] → ¬ Fd a u x.block) := hav
  have HW0 : Hid (Dw Dec w0 w0 B B' a s v u bs l d0 xs0 0 (.slice none 0 0) [] d0 xs0) := ⟨Chg.refl _ _, h, hO, hS, hI, World.ownsRow_nil _ _ _ _, rfl, by simp⟩
  clear hA hL hav h hO hS hI
  go_enter Try.func12, Try.ntmps12
  go_wp2_with fail
  go_loopw [8, 17] (fun lv iv wr => ∃ (k : Nat) (vals : List Nat) (d : Rc.D) (xs : List Int), k ≤ L ∧ iv = .int .i64 (k : Int) ∧ Hid (Dw Dec w0 wr B B' a s v u bs l d0 xs0 k lv vals d xs)) (fun _ iv _ => L - (intOf iv).toNat)
  case atStart => exact ⟨0, [], d0, xs0, Nat.zero_le _, rfl, HW0.out⟩
  case round =>
    clear HW0
    obtain ⟨k, vals, d, xs, hk, rfl, HW⟩ := hrel
    have HKV : Hid (vals.length = k) := HW.out.len
    by_cases hlt : k < L
    · obtain ⟨q, hq⟩ : ∃ q, l[k]? = some q := ⟨_, List.getElem?_eq_getElem (by rw [HLL.out]; exact hlt)⟩
      obtain ⟨b0, off, ea, h0, h1, h2, h3, hX⟩ := (HA0.out.keep HW.out.chg HAV.out) k q hq
      obtain ⟨dd, I, N, X⟩ := q
      subst ea
      obtain ⟨q, hqq⟩ : ∃ q : Q, q = ⟨dd, I, N, X⟩ := ⟨_, rfl⟩
      rw [← hqq] at hq
      have HL : Hid (l[k]? = some q) := hq
      have HQ : Hid (q = ⟨dd, I, N, X⟩) := hqq
      obtain ⟨la, lc, hlv⟩ := form1 HW.out.row
      rw [HKV.out] at hlv
      subst hlv
      have cB := chg_one wr (.cells #[.bool dd, .int .i64 I, .int .i64 N, .int .u32 (X : Int)] 40)
      have HW1 : Hid (Dw Dec w0 (wr.alloc (.cells #[.bool dd, .int .i64 I, .int .i64 N, .int .u32 (X : Int)] 40)) B B' a s v u bs l d0 xs0 k (.slice la k lc) vals d xs) := HW.out.new S cB
      have HBO1 : Hid ((wr.alloc (.cells #[.bool dd, .int .i64 I, .int .i64 N, .int .u32 (X : Int)] 40)).heap[wr.heap.size]? = some (.cells #[.bool dd, .int .i64 I, .int .i64 N, .int .u32 (X : Int)] 40 (0, 0))) := heap_alloc_last wr _
      have hB1 : B ≤ (wr.alloc (.cells #[.bool dd, .int .i64 I, .int .i64 N, .int .u32 (X : Int)] 40)).heap.size := Nat.le_trans hB HW1.out.chg.size
      clear cB hX hq hqq HW
      go_upto_region 5 with fail
      clear h0 h1 h2 h3
      generalize wr.alloc (.cells #[.bool dd, .int .i64 I, .int .i64 N, .int .u32 (X : Int)] 40) = w1 at *
      generalize wr.heap.size = O at *
      obtain ⟨o0, o1, o2, o3, _⟩ := rcells4 HBO1.out
      cases dd with
      | true =>
        go_wp2_with fail
        refine (S.dir B a v bs d N _ HW1.out.dec HW1.out.ok hdig hlen hB1).mono ?_
        rintro z w2 (⟨e, he, hep, rfl, hD2, c2⟩ | ⟨b, d', he, rfl, hD2, c2⟩)
        · have HEA : Hid (decA bs q d xs = .error e) := by show _ = _; rw [HQ.out]; exact decA_dir_err he
          have HEP : Hid (0 < e) := hep
          have HC2' : Hid (Chg (Fd a u) w1 w2) := c2.mono (fun z f => .inl (.inl f))
          have HR2 := HW1.out.turn S (d' := d) (xs' := xs) HC2'.out
          have HS2 : Hid (St w2 B' s u xs) := HW1.out.st.keep c2 (fun f => by
            obtain ⟨cs, hb⟩ := S.blk HW1.out.dec
            have h9 := HW1.out.st.blk
            rw [f] at h9
            exact ty_ne hb h9 (by decide)) (fun g eg f => by
            obtain ⟨cs, hb⟩ := S.blk HW1.out.dec
            obtain ⟨cur, hcur⟩ := owns_blk HW1.out.st.own eg
            rw [f] at hcur
            exact ty_ne hb hcur (by decide))
          have HD2 : Hid (Dec w2 B a v bs d) := hD2
          have HT : Hid (Told Dec w0 w2 B B' a s v u bs (decL bs l d0 xs0) (.slice la k lc) ∧ (decL bs l d0 xs0).2.1 = d) := HW1.out.err HL.out HEA.out hD2 HS2.out HR2.1 HR2.2
          clear he hep hD2 c2 HR2 o0 o1 o2 o3
          generalize hei : (e : Int) = ei
          have hne : ei ≠ 0 := by have := HEP.out; omega
          have hbe : (ei == 0) = false := by simpa using hne
          have hde : decide (ei = 0) = false := by simpa using hne
          clear hei hne
          go_wp2_with fail
          refine (num_any _ _).mono ?_
          rintro z w3 ⟨rfl, rfl⟩
          go_wp2_with fail
          refine (S.used B a v bs d _ HD2.out).mono ?_
          rintro z w3 ⟨rfl, c3⟩
          have HT3 : Hid (Told Dec w0 w3 B B' a s v u bs (decL bs l d0 xs0) (.slice la k lc)) := HT.out.1.new S c3
          clear c3
          go_wp2
          go_ret2
          exact ⟨_, by rw [HT.out.2]; rfl, HT3.out⟩
        · have HC2' : Hid (Chg (Fd a u) w1 w2) := c2.mono (fun z f => .inl (.inl f))
          obtain ⟨hr2, hc2⟩ := HW1.out.turn S (d' := d) (xs' := xs) HC2'.out
          have HR2 : Hid _ := hr2
          have HC2 : Hid (Chg (Fd a u) w0 w2) := hc2
          obtain ⟨xs', hxs⟩ : ∃ xs', xs' = xs := ⟨_, rfl⟩
          have HEA : Hid (decA bs q d xs = .ok (b, d', xs')) := by show _ = _; rw [hxs, HQ.out]; exact decA_dir_ok he
          have HS2 : Hid (St w2 B' s u xs') := by
            show St _ _ _ _ _
            rw [hxs]
            exact HW1.out.st.keep c2 (fun f => by
              obtain ⟨cs, hb⟩ := S.blk HW1.out.dec
              have h9 := HW1.out.st.blk
              rw [f] at h9
              exact ty_ne hb h9 (by decide)) (fun g eg f => by
              obtain ⟨cs, hb⟩ := S.blk HW1.out.dec
              obtain ⟨cur, hcur⟩ := owns_blk HW1.out.st.own eg
              rw [f] at hcur
              exact ty_ne hb hcur (by decide))
          have HD2 : Hid (Dec w2 B a v bs d') := hD2
          clear he hD2 c2 hr2 hc2 hxs o0 o1 o2 o3
          obtain ⟨jU, hjU, hjz, hj1, hj4⟩ := info_parts infoU32
          have c8 := chg_one w2 (.cells #[.int .u32 (b : Int)] 38)
          have hown : (w2.alloc (.cells #[.int .u32 (b : Int)] 38)).ownsRow w0.heap.size 38 1 (.slice la k lc) k (ins .u32 (nums vals)) := by
            have := ownsRow_keep HR2.out c8 (fun _ _ f => f)
            rw [HKV.out] at this
            exact this
          have hsz : w0.heap.size ≤ (w2.alloc (.cells #[.int .u32 (b : Int)] 38)).heap.size := Nat.le_trans HC2.out.size c8.size
          have hsrc := from_one8 w2 (.int .u32 (b : Int)) 38
          have HD8 : Hid (Dec (w2.alloc (.cells #[.int .u32 (b : Int)] 38)) B a v bs d') := S.keep HD2.out c8 (fun f => f) (fun _ _ f => f)
          have HS8 : Hid (St (w2.alloc (.cells #[.int .u32 (b : Int)] 38)) B' s u xs') := HS2.out.new c8
          have HC8 : Hid (Chg (Fd a u) w0 (w2.alloc (.cells #[.int .u32 (b : Int)] 38))) := HC2.out.trans c8 (fun _ f => f.elim)
          clear c8
          go_wp2_with fail
          refine (num_any _ _).mono ?_
          rintro z w3 ⟨rfl, rfl⟩
          go_wp2_with (at_builtin; refine wpList_append_moved rfl _ _ 35 rfl w0.heap.size 38 jU (.int .u32 0) 1 4 Try.underlying35 hjU hjz hj1 hj4 rfl (by decide) _ k (ins .u32 (nums vals)) rfl (some ⟨w2.heap.size, 0, none⟩) 1 1 rfl [.int .u32 (b : Int)] hown hsrc (fun u hu => by simp at hu; subst hu; rfl) (by unfold maxLen; omega) (by omega) hsz ?_)
          intro v9 w9 ho9 hg9 _
          have HS9 : Hid (Dw Dec w0 w9 B B' a s v u bs l d0 xs0 (k + 1) v9 (vals ++ [b]) d' xs') := HW1.out.push S hdig HL.out HEA.out HD8.out HS8.out HC8.out (by rw [HKV.out]; exact ho9) (by rw [HKV.out]; exact hown) hg9
          obtain ⟨la9, lc9, hv9⟩ := form1 HS9.out.row
          clear ho9 hg9 hown hsrc
          have hl9 : (vals ++ [b]).length = k + 1 := by rw [List.length_append, HKV.out]; rfl
          rw [hl9] at hv9
          subst hv9
          go_wp2_with fail
          go_roundw
          case rel => exact ⟨k + 1, vals ++ [b], d', xs', by omega, by go_num, HS9.out⟩
          case measure => simp [intOf]; omega
      | false =>
        go_wp2_with fail
        refine (S.bit B B' a s v u bs d xs I _ HW1.out.dec HW1.out.ok hdig hlen HW1.out.st HW1.out.inn hB1).mono ?_
        rintro z w2 (⟨e, he, hep, rfl, hD2, hS2, c2⟩ | ⟨b, d', xs', he, rfl, hD2, hS2, c2⟩)
        · have HEA : Hid (decA bs q d xs = .error e) := by show _ = _; rw [HQ.out]; exact he
          have HEP : Hid (0 < e) := hep
          have HR2 := HW1.out.turn S (d' := d) (xs' := xs) c2
          have HD2 : Hid (Dec w2 B a v bs d) := hD2
          have HT : Hid (Told Dec w0 w2 B B' a s v u bs (decL bs l d0 xs0) (.slice la k lc) ∧ (decL bs l d0 xs0).2.1 = d) := HW1.out.err HL.out HEA.out hD2 hS2 HR2.1 HR2.2
          clear he hep hD2 hS2 c2 HR2 o0 o1 o2 o3
          generalize hei : (e : Int) = ei
          have hne : ei ≠ 0 := by have := HEP.out; omega
          have hbe : (ei == 0) = false := by simpa using hne
          have hde : decide (ei = 0) = false := by simpa using hne
          clear hei hne
          go_wp2_with fail
          refine (num_any _ _).mono ?_
          rintro z w3 ⟨rfl, rfl⟩
          go_wp2_with fail
          refine (S.used B a v bs d _ HD2.out).mono ?_
          rintro z w3 ⟨rfl, c3⟩
          have HT3 : Hid (Told Dec w0 w3 B B' a s v u bs (decL bs l d0 xs0) (.slice la k lc)) := HT.out.1.new S c3
          clear c3
          go_wp2
          go_ret2
          exact ⟨_, by rw [HT.out.2]; rfl, HT3.out⟩
        · have HEA : Hid (decA bs q d xs = .ok (b, d', xs')) := by show _ = _; rw [HQ.out]; exact he
          obtain ⟨hr2, hc2⟩ := HW1.out.turn S (d' := d) (xs' := xs) c2
          have HR2 : Hid _ := hr2
          have HC2 : Hid (Chg (Fd a u) w0 w2) := hc2
          have HS2 : Hid (St w2 B' s u xs') := hS2
          have HD2 : Hid (Dec w2 B a v bs d') := hD2
          have hb2 : (b : Int) < 2 := by have h9 := (decA_ok hdig HW1.out.ok HW1.out.inn he).2.1; simp [Q.bits] at h9; omega
          have hwm : IntKind.u32.wrap (b : Int) = (b : Int) := by simp [IntKind.wrap, IntKind.signed, IntKind.bits]; omega
          clear he hD2 hS2 c2 hr2 hc2 o0 o1 o2 o3
          obtain ⟨jU, hjU, hjz, hj1, hj4⟩ := info_parts infoU32
          have c8 := chg_one w2 (.cells #[.int .u32 (b : Int)] 38)
          have hown : (w2.alloc (.cells #[.int .u32 (b : Int)] 38)).ownsRow w0.heap.size 38 1 (.slice la k lc) k (ins .u32 (nums vals)) := by
            have := ownsRow_keep HR2.out c8 (fun _ _ f => f)
            rw [HKV.out] at this
            exact this
          have hsz : w0.heap.size ≤ (w2.alloc (.cells #[.int .u32 (b : Int)] 38)).heap.size := Nat.le_trans HC2.out.size c8.size
          have hsrc := from_one8 w2 (.int .u32 (b : Int)) 38
          have HD8 : Hid (Dec (w2.alloc (.cells #[.int .u32 (b : Int)] 38)) B a v bs d') := S.keep HD2.out c8 (fun f => f) (fun _ _ f => f)
          have HS8 : Hid (St (w2.alloc (.cells #[.int .u32 (b : Int)] 38)) B' s u xs') := HS2.out.new c8
          have HC8 : Hid (Chg (Fd a u) w0 (w2.alloc (.cells #[.int .u32 (b : Int)] 38))) := HC2.out.trans c8 (fun _ f => f.elim)
          clear c8
          go_wp2_with fail
          refine (num_any _ _).mono ?_
          rintro z w3 ⟨rfl, rfl⟩
          go_wp2_with (at_builtin; refine wpList_append_moved rfl _ _ 35 rfl w0.heap.size 38 jU (.int .u32 0) 1 4 Try.underlying35 hjU hjz hj1 hj4 rfl (by decide) _ k (ins .u32 (nums vals)) rfl (some ⟨w2.heap.size, 0, none⟩) 1 1 rfl [.int .u32 (b : Int)] hown hsrc (fun u hu => by simp at hu; subst hu; rfl) (by unfold maxLen; omega) (by omega) hsz ?_)
          intro v9 w9 ho9 hg9 _
          have HS9 : Hid (Dw Dec w0 w9 B B' a s v u bs l d0 xs0 (k + 1) v9 (vals ++ [b]) d' xs') := HW1.out.push S hdig HL.out HEA.out HD8.out HS8.out HC8.out (by rw [HKV.out]; exact ho9) (by rw [HKV.out]; exact hown) hg9
          obtain ⟨la9, lc9, hv9⟩ := form1 HS9.out.row
          clear ho9 hg9 hown hsrc
          have hl9 : (vals ++ [b]).length = k + 1 := by rw [List.length_append, HKV.out]; rfl
          rw [hl9] at hv9
          subst hv9
          go_wp2_with fail
          go_roundw
          case rel => exact ⟨k + 1, vals ++ [b], d', xs', by omega, by go_num, HS9.out⟩
          case measure => simp [intOf]; omega
    · obtain rfl : k = L := by omega
      have hd : decide ((k : Int) < (k : Int)) = false := by simp
      obtain ⟨la, lc, hlv⟩ := form1 HW.out.row
      rw [HKV.out] at hlv
      subst hlv
      have HT := HW.out.end_ HLL.out
      have HT1 : Hid (Told Dec w0 wr B B' a s v u bs (decL bs l d0 xs0) (.slice la k lc)) := HT.1
      have HT2 : Hid ((decL bs l d0 xs0).2.1 = d) := HT.2
      clear HT
      go_wp2_with fail
      refine (S.used B a v bs d _ HW.out.dec).mono ?_
      rintro z w3 ⟨rfl, c3⟩
      have HT3 : Hid (Told Dec w0 w3 B B' a s v u bs (decL bs l d0 xs0) (.slice la k lc)) := HT1.out.new S c3
      clear c3
      go_wp2
      go_ret2
      exact ⟨_, by rw [HT2.out]; rfl, HT3.out⟩
end Go.Proofs.Ytejopgopcocapaa
