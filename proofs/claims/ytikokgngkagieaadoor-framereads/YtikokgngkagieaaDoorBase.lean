/- What a call may have turned in memory ('Chg'), what a list of bytes is in memory ('Row8'): definitions and small laws, of no statement by themselves. -/
import Derived.Test.YtikokgngkagieaaDoorRows
import Derived.WalkKit
import Derived.OneCell
import Derived.Laws.CopyOwn
import Derived.Laws.AppendOwnNone
namespace Go.Proofs.YtikokgngkagieaaDoor
open Go.RowKit

/-- Of the blocks that were there, only those in S may have turned; the streams are as they were. -/
structure Chg (S : Nat → Prop) (w w' : World) : Prop where
  os : w'.os = w.os
  tape : w'.tape = w.tape
  output : w'.output = w.output
  size : w.heap.size ≤ w'.heap.size
  block : ∀ k, k < w.heap.size → ¬ S k → w'.heap[k]? = w.heap[k]?

theorem Chg.refl (S : Nat → Prop) (w : World) : Chg S w w := ⟨rfl, rfl, rfl, Nat.le_refl _, fun _ _ _ => rfl⟩

theorem Chg.trans {S T : Nat → Prop} {a b c : World} (h : Chg S a b) (k : Chg T b c) (hT : ∀ i, T i → S i ∨ a.heap.size ≤ i) : Chg S a c :=
  ⟨k.os.trans h.os, k.tape.trans h.tape, k.output.trans h.output, Nat.le_trans h.size k.size, fun i hi hS =>
    (k.block i (Nat.lt_of_lt_of_le hi h.size) (fun t => by rcases hT i t with t | t; exact hS t; omega)).trans (h.block i hi hS)⟩

theorem Chg.mono {S T : Nat → Prop} {a b : World} (h : Chg S a b) (hT : ∀ i, S i → T i ∨ a.heap.size ≤ i) : Chg T a b :=
  (Chg.refl T a).trans h hT

theorem Chg.alloc {S : Nat → Prop} {a w : World} (h : Chg S a w) (o : Obj) : Chg S a (w.alloc o) :=
  h.trans (T := fun _ => False) ⟨rfl, rfl, rfl, by simp, fun k hk _ => Below.heap_alloc _ _ _ hk⟩ (fun _ f => f.elim)

theorem Chg.drew {S : Nat → Prop} {a w : World} (h : Chg S a w) : Chg S a w.drew := ⟨h.os, h.tape, h.output, h.size, h.block⟩

theorem Chg.setCell {S : Nat → Prop} {a w : World} (h : Chg S a w) {p : Addr} (hp : S p.block ∨ a.heap.size ≤ p.block) (u : Value) : Chg S a (w.setCell p u) :=
  h.trans (T := fun k => k = p.block) ⟨rfl, rfl, rfl, by simp [World.setCell], fun k _ hk => Below.heap_setCell _ _ _ _ hk⟩ (fun i e => by subst e; exact hp)

theorem Chg.grown {S : Nat → Prop} {a w w' : World} {row : Option Nat} (h : Chg S a w) (hg : w.grownBy w' row) (hr : ∀ k, row = some k → S k ∨ a.heap.size ≤ k) : Chg S a w' :=
  h.trans (T := fun k => row = some k) ⟨hg.os, hg.tape, hg.output, hg.size, fun k hk hne => hg.block k hk (fun e => hne e.symm)⟩ hr

theorem Chg.of_below {B : Nat} {w w' : World} (h : Below B w w') : Chg (fun k => B ≤ k) w w' :=
  ⟨h.os, h.tape, h.output, h.size, fun k _ hS => h.block k (by omega)⟩

theorem Chg.below {S : Nat → Prop} {w w' : World} (h : Chg S w w') {B : Nat} (hB : B ≤ w.heap.size) (hS : ∀ k, S k → B ≤ k) : Below B w w' :=
  ⟨h.os, h.tape, h.output, h.size, fun k hk => h.block k (by omega) (fun s => by have := hS k s; omega)⟩

/-- A list of bytes in memory, as a slice value tells it: its elements 'xs', whatever its capacity. -/
def Row8 (w : World) (ad : Option Addr) (m c : Nat) (xs : List Int) : Prop :=
  xs.length = m ∧ ((ad = none ∧ m = 0 ∧ c = 0) ∨ ∃ x, ad = some x ∧ ∀ j u, (xs.map (Value.int .u8))[j]? = some u → w.cell? (x.add j) = some u)

theorem lt_of_blk {w : World} {a : Nat} {o : Obj} (h : w.heap[a]? = some o) : a < w.heap.size := lt_of_block h

theorem cell0 {w : World} {a : Nat} {x y : Value} {t : TypeId} (h : w.heap[a]? = some (.cells #[x, y] t (0, 0))) : w.cell? ⟨a, 0, none⟩ = some x := by simp [World.cell?, h]
theorem cell1 {w : World} {a : Nat} {x y : Value} {t : TypeId} (h : w.heap[a]? = some (.cells #[x, y] t (0, 0))) : w.cell? ⟨a, 1, none⟩ = some y := by simp [World.cell?, h]
theorem free0 {w : World} {a : Nat} {x y : Value} {t : TypeId} (h : w.heap[a]? = some (.cells #[x, y] t (0, 0))) : w.frozen? ⟨a, 0, none⟩ = false := by simp [World.frozen?, h]
theorem free1 {w : World} {a : Nat} {x y : Value} {t : TypeId} (h : w.heap[a]? = some (.cells #[x, y] t (0, 0))) : w.frozen? ⟨a, 1, none⟩ = false := by simp [World.frozen?, h]
theorem blk_set0 {w : World} {a : Nat} {x y u : Value} {t : TypeId} (h : w.heap[a]? = some (.cells #[x, y] t (0, 0))) : (w.setCell ⟨a, 0, none⟩ u).heap[a]? = some (.cells #[u, y] t (0, 0)) := by
  have hlt := lt_of_blk h
  have h' : w.heap[a] = .cells #[x, y] t (0, 0) := by simpa [Array.getElem?_eq_getElem hlt] using h
  show (w.heap.modify a _)[a]? = _
  rw [Array.getElem?_eq_getElem (by simpa using hlt), Array.getElem_modify_self, h']
  rfl
theorem blk_set1 {w : World} {a : Nat} {x y u : Value} {t : TypeId} (h : w.heap[a]? = some (.cells #[x, y] t (0, 0))) : (w.setCell ⟨a, 1, none⟩ u).heap[a]? = some (.cells #[x, u] t (0, 0)) := by
  have hlt := lt_of_blk h
  have h' : w.heap[a] = .cells #[x, y] t (0, 0) := by simpa [Array.getElem?_eq_getElem hlt] using h
  show (w.heap.modify a _)[a]? = _
  rw [Array.getElem?_eq_getElem (by simpa using hlt), Array.getElem_modify_self, h']
  rfl

theorem ownsRow_blk {w : World} {B : Nat} {e : TypeId} {v : Value} {n : Nat} {xs : List Value} (h : w.ownsRow B e 1 v n xs) {g : Nat} (hg : v.ownBlock = some g) : ∃ cur, w.heap[g]? = some (.cells cur e (0, 0)) := by
  rcases h.2 with ⟨rfl, _⟩ | ⟨g', cap, cur, rfl, hb, hgg, _⟩
  · simp [Value.ownBlock] at hg
  · simp [Value.ownBlock] at hg
    subst hg
    exact ⟨cur, hgg⟩

/-- The row's block is not the struct's own: their cells are of other types. -/
theorem row_ne {w : World} {B : Nat} {v : Value} {n : Nat} {xs : List Value} (h : w.ownsRow B 5 1 v n xs) {a : Nat} {cs : Array Value} {t : TypeId} (hb : w.heap[a]? = some (.cells cs t (0, 0))) (ht : t ≠ 5) : v.ownBlock ≠ some a := by
  intro e
  obtain ⟨cur, hc⟩ := ownsRow_blk h e
  rw [hb] at hc
  simp at hc
  exact ht hc.2


theorem ownsRow_keep {w w' : World} {S : Nat → Prop} {B : Nat} {e : TypeId} {v : Value} {n : Nat} {xs : List Value} (h : w.ownsRow B e 1 v n xs) (hc : Chg S w w') (hS : ∀ g, v.ownBlock = some g → ¬ S g) : w'.ownsRow B e 1 v n xs := by
  refine ⟨h.1, ?_⟩
  rcases h.2 with hn | ⟨g, cap, cur, rfl, hb, hgg, rest⟩
  · exact .inl hn
  · exact .inr ⟨g, cap, cur, rfl, hb, (hc.block g (lt_of_blk hgg) (hS g rfl)).trans hgg, rest⟩


/-- What a writer's calls may turn: its own block and its row's. -/
def Foot (a : Nat) (v : Value) (k : Nat) : Prop := k = a ∨ v.ownBlock = some k

/-- Behind a call: the row's block is the one it was, or a new one. -/
def Moved (w : World) (v v' : Value) : Prop := ∀ g, v'.ownBlock = some g → v.ownBlock = some g ∨ w.heap.size ≤ g

theorem Moved.refl (w : World) (v : Value) : Moved w v v := fun _ h => .inl h
theorem Moved.trans {w w1 : World} {v v1 v2 : Value} (h : Moved w v v1) (hs : w.heap.size ≤ w1.heap.size) (k : Moved w1 v1 v2) : Moved w v v2 := fun g hg => by
  rcases k g hg with e | e
  · exact h g e
  · exact .inr (by omega)
theorem Moved.foot {w : World} {v v' : Value} (h : Moved w v v') (a : Nat) : ∀ k, Foot a v' k → Foot a v k ∨ w.heap.size ≤ k := by
  intro k hk
  rcases hk with e | e
  · exact .inl (.inl e)
  · rcases h k e with e | e
    · exact .inl (.inr e)
    · exact .inr e

theorem own_shape {w : World} {B : Nat} {v : Value} {n : Nat} {xs : List Value} (h : w.ownsRow B 5 1 v n xs) : v = .slice none 0 0 ∧ n = 0 ∨ ∃ g cap, v = .slice (some ⟨g, 0, none⟩) n cap := by
  rcases h.2 with h | ⟨g, cap, _, h, _⟩
  · exact .inl h
  · exact .inr ⟨g, cap, h⟩

theorem own_row8 {w : World} {B : Nat} {v : Value} {n : Nat} {bs : List Int} (h : w.ownsRow B 5 1 v n (bs.map (Value.int .u8))) : ∃ ad c, v = .slice ad n c ∧ Row8 w ad n c bs := by
  have hl : bs.length = n := by simpa using h.1
  rcases own_shape h with ⟨rfl, rfl⟩ | ⟨g, cap, rfl⟩
  · exact ⟨none, 0, rfl, hl, .inl ⟨rfl, rfl, rfl⟩⟩
  · exact ⟨_, cap, rfl, hl, .inr ⟨_, rfl, fun j u hu => h.cells (g := g) rfl j u hu⟩⟩

theorem row8_keep {w w' : World} {S : Nat → Prop} {ad : Option Addr} {m c : Nat} {xs : List Int} (h : Row8 w ad m c xs) (hc : Chg S w w') (hS : ∀ x, ad = some x → ¬ S x.block) : Row8 w' ad m c xs := by
  refine ⟨h.1, ?_⟩
  rcases h.2 with e | ⟨x, rfl, hx⟩
  · exact .inl e
  · refine .inr ⟨x, rfl, fun j u hu => ?_⟩
    have h0 := hx j u hu
    have hb : (x.add j).block = x.block := by simp [Addr.add]; split <;> rfl
    have hlt := World.block_lt_of_cell? w _ h0
    rw [World.cell?_of_block (w := w) (hc.block _ hlt (by rw [hb]; exact hS x rfl))]
    exact h0

/-- What is appended, from whatever source: nothing at nil, or cells at an address. -/
def From (w : World) (ad : Option Addr) (m c : Nat) (size : Nat) (news : List Value) : Prop :=
  news.length = m * size ∧ ((ad = none ∧ m = 0 ∧ c = 0) ∨ ∃ x, ad = some x ∧ ∀ j u, news[j]? = some u → w.cell? (x.add j) = some u)

theorem Row8.src {w : World} {ad : Option Addr} {m c : Nat} {xs : List Int} (h : Row8 w ad m c xs) : From w ad m c 1 (xs.map (Value.int .u8)) :=
  ⟨by simp [h.1], h.2⟩

/-- 'append' on a row of the call's own: what it answers, that nothing else has turned, and that the row lies where it lay or in new memory. -/
theorem run_append_moved {P : Program} (w : World) (B : Nat) (t ty e : TypeId) (i : TypeInfo) (z : Value) (size bytes : Nat) (ht : P.underlying t = some (.slice e)) (hi : P.info? e = some i) (hz : i.zero = some z)
    (hsize : i.size = size) (hby : i.bytes = bytes) (hzs : z.cells.size = size) (hsz : 0 < size)
    (v : Value) (n : Nat) (xs : List Value) (hown : w.ownsRow B e size v n xs) (ad : Option Addr) (m c : Nat) (news : List Value) (hsrc : From w ad m c size news) (h1 : ∀ u ∈ news, u.oneCell' = true)
    (h63 : n + m ≤ maxLen) (hbytes : (n + m) * bytes ≤ 140737488355328) (hB : B ≤ w.heap.size) :
    ∃ v' w', (Builtin.append_ #[t, t] ty #[v, .slice ad m c]).run P w = .ok v' w' ∧ w'.ownsRow B e size v' (n + m) (xs ++ news) ∧ w.grownBy w' v.ownBlock ∧ Moved w v v' := by
  obtain ⟨hl, hs⟩ := hsrc
  rcases hs with ⟨rfl, rfl, rfl⟩ | ⟨x, rfl, hnews⟩
  · have hn : news = [] := List.eq_nil_of_length_eq_zero (by simpa using hl)
    subst hn
    exact ⟨v, w, run_append_owned_none w B t ty e i size ht hi v n xs hown, by simpa using hown, ⟨rfl, rfl, rfl, Nat.le_refl _, fun _ _ _ => rfl⟩, Moved.refl w v⟩
  · obtain ⟨v', w', hr, h2, h3, h4⟩ := run_append_own (P := P) w B t ty e i z size bytes ht hi hz hsize hby hzs hsz v n xs hown x m c news hl hnews h1 h63 hbytes hB
    refine ⟨v', w', hr, h2, h3, ?_⟩
    rcases hown.2 with ⟨rfl, rfl⟩ | ⟨g, cap, cur, rfl, hbg, hg, hnc, hcm, hcs, htake⟩
    · have hx0 : xs = [] := List.eq_nil_of_length_eq_zero (by simpa using hown.1)
      subst hx0
      obtain ⟨v2, w2, hr2, k2, _, _⟩ := run_append_own (P := P) w w.heap.size t ty e i z size bytes ht hi hz hsize hby hzs hsz _ 0 [] (World.ownsRow_nil w _ e size) x m c news hl hnews h1 h63 hbytes (Nat.le_refl _)
      rw [hr] at hr2
      simp only [Result.ok.injEq] at hr2
      obtain ⟨rfl, rfl⟩ := hr2
      exact fun k hk => .inr (k2.lt k hk).1
    · subst hsize
      by_cases hroom : n + m ≤ cap
      · have hfit : n * i.size + news.length ≤ cur.size := by rw [hl, hcs, ← Nat.add_mul]; exact Nat.mul_le_mul_right _ hroom
        have hr2 := run_append_room (P := P) w t ty e i ht hi g n cap cur hg x m c news hl hnews h1 hroom hfit
        rw [hr] at hr2
        simp only [Result.ok.injEq] at hr2
        rw [hr2.1]
        exact fun k hk => .inl (by simpa [Value.ownBlock] using hk)
      · have holds : ∀ j u, xs[j]? = some u → w.cell? ((⟨g, 0, none⟩ : Addr).add j) = some u := hown.cells (g := g) rfl
        have hr2 := run_append_grow (P := P) w t ty e i z ht hi hz ⟨g, 0, none⟩ n cap xs hown.1 holds x m c news hl hnews (by omega) (by simp only [maxLen] at h63; omega) (growslice_fits (by omega) (by rw [hby]; exact hbytes))
        rw [hr] at hr2
        simp only [Result.ok.injEq] at hr2
        rw [hr2.1]
        exact fun k hk => .inr (by simp [Value.ownBlock] at hk; omega)

theorem wpList_append_moved {P : Program} {w : World} {ops : Array Oper} {rest : List Oper} {o : Oper} {a : Act} {Q : Exit → Act → World → Prop} (hgd : o.guard = none) (s x : Operand) (t : TypeId)
    (ho : o.op = .call { callee := .builtin .append, args := #[s, x], argTypes := #[t, t] })
    (B : Nat) (e : TypeId) (i : TypeInfo) (z : Value) (size bytes : Nat) (ht : P.underlying t = some (.slice e)) (hi : P.info? e = some i) (hz : i.zero = some z)
    (hsize : i.size = size) (hby : i.bytes = bytes) (hzs : z.cells.size = size) (hsz : 0 < size)
    (v : Value) (n : Nat) (xs : List Value) (hs : a.eval s = v) (ad : Option Addr) (m c : Nat) (hx : a.eval x = .slice ad m c) (news : List Value)
    (hown : w.ownsRow B e size v n xs) (hsrc : From w ad m c size news) (h1 : ∀ u ∈ news, u.oneCell' = true)
    (h63 : n + m ≤ maxLen) (hbytes : (n + m) * bytes ≤ 140737488355328) (hB : B ≤ w.heap.size)
    (h : ∀ v' w', w'.ownsRow B e size v' (n + m) (xs ++ news) → w.grownBy w' v.ownBlock → Moved w v v' → wpList P ops Q rest (a.put o.dst v') w') : wpList P ops Q (o :: rest) a w := by
  refine wpList_plain hgd fun K hK => ?_
  obtain ⟨v', w', hr, h2, h3, h4⟩ := run_append_moved (P := P) w B t o.type e i z size bytes ht hi hz hsize hby hzs hsz v n xs hown ad m c news hsrc h1 h63 hbytes hB
  unfold Oper.wp
  simp [execOp, ho, resolve, invoke, builtin, hs, hx, hr, Result.andThen]
  exact hK _ _ (h v' w' h2 h3 h4)

end Go.Proofs.YtikokgngkagieaaDoor
