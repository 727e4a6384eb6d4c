/- Several texts in one, none of a statement by itself: Base, Mem, Prob, Num, Free, Last, Facts, Set, New, Ref, RefSet, Fork, Play. -/
import Derived.Test.YtibgjpifmpljkaaRows
import Derived.WalkKit
import Derived.OneCell
import Derived.Laws.CopyOwn
import Derived.Laws.AppendOwnNone
import Derived.Deep.WholeRow
import Derived.Deep.OwnRows
import Derived.BigQuiet
import Derived.Deep.QuietTactic
import Derived.Deep.RegionHeld3
import Derived.Deep.DeepCutAuto
import Derived.Great.BuildSlice
/- What a call may have turned in memory ('Chg'), what a list of bytes is in memory ('Row8'): definitions and small laws, of no statement by themselves. -/
namespace Go.Proofs.Ytibgjpifmpljkaa
open Go.RowKit

/-- Of the blocks that were there, only those in S may have turned; the streams are as they were. -/
structure Chg (S : Nat → Prop) (w w' : World) : Prop where
  os : w'.os = w.os
  tape : w'.tape = w.tape
  output : w'.output = w.output
  size : w.heap.size ≤ w'.heap.size
  block : ∀ k, k < w.heap.size → ¬ S k → w'.heap[k]? = w.heap[k]?

theorem Chg.refl (S : Nat → Prop) (w : World) : Chg S w w := ⟨rfl, rfl, rfl, Nat.le_refl _, fun _ _ _ => rfl⟩

theorem Chg.trans {S T : Nat → Prop} {a b c : World} (h : Chg S a b) (k : Chg T b c) (hT : ∀ i, T i → S i ∨ a.heap.size ≤ i) : Chg S a c :=
  ⟨k.os.trans h.os, k.tape.trans h.tape, k.output.trans h.output, Nat.le_trans h.size k.size, fun i hi hS =>
    (k.block i (Nat.lt_of_lt_of_le hi h.size) (fun t => by rcases hT i t with t | t; exact hS t; omega)).trans (h.block i hi hS)⟩

theorem Chg.mono {S T : Nat → Prop} {a b : World} (h : Chg S a b) (hT : ∀ i, S i → T i ∨ a.heap.size ≤ i) : Chg T a b :=
  (Chg.refl T a).trans h hT

theorem Chg.alloc {S : Nat → Prop} {a w : World} (h : Chg S a w) (o : Obj) : Chg S a (w.alloc o) :=
  h.trans (T := fun _ => False) ⟨rfl, rfl, rfl, by simp, fun k hk _ => Below.heap_alloc _ _ _ hk⟩ (fun _ f => f.elim)

theorem Chg.drew {S : Nat → Prop} {a w : World} (h : Chg S a w) : Chg S a w.drew := ⟨h.os, h.tape, h.output, h.size, h.block⟩

theorem Chg.setCell {S : Nat → Prop} {a w : World} (h : Chg S a w) {p : Addr} (hp : S p.block ∨ a.heap.size ≤ p.block) (u : Value) : Chg S a (w.setCell p u) :=
  h.trans (T := fun k => k = p.block) ⟨rfl, rfl, rfl, by simp [World.setCell], fun k _ hk => Below.heap_setCell _ _ _ _ hk⟩ (fun i e => by subst e; exact hp)

theorem Chg.grown {S : Nat → Prop} {a w w' : World} {row : Option Nat} (h : Chg S a w) (hg : w.grownBy w' row) (hr : ∀ k, row = some k → S k ∨ a.heap.size ≤ k) : Chg S a w' :=
  h.trans (T := fun k => row = some k) ⟨hg.os, hg.tape, hg.output, hg.size, fun k hk hne => hg.block k hk (fun e => hne e.symm)⟩ hr

theorem Chg.of_below {B : Nat} {w w' : World} (h : Below B w w') : Chg (fun k => B ≤ k) w w' :=
  ⟨h.os, h.tape, h.output, h.size, fun k _ hS => h.block k (by omega)⟩

theorem Chg.below {S : Nat → Prop} {w w' : World} (h : Chg S w w') {B : Nat} (hB : B ≤ w.heap.size) (hS : ∀ k, S k → B ≤ k) : Below B w w' :=
  ⟨h.os, h.tape, h.output, h.size, fun k hk => h.block k (by omega) (fun s => by have := hS k s; omega)⟩

/-- A list of bytes in memory, as a slice value tells it: its elements 'xs', whatever its capacity. -/
def Row8 (w : World) (ad : Option Addr) (m c : Nat) (xs : List Int) : Prop :=
  xs.length = m ∧ ((ad = none ∧ m = 0 ∧ c = 0) ∨ ∃ x, ad = some x ∧ ∀ j u, (xs.map (Value.int .u8))[j]? = some u → w.cell? (x.add j) = some u)

theorem lt_of_blk {w : World} {a : Nat} {o : Obj} (h : w.heap[a]? = some o) : a < w.heap.size := lt_of_block h

theorem cell0 {w : World} {a : Nat} {x y : Value} {t : TypeId} (h : w.heap[a]? = some (.cells #[x, y] t (0, 0))) : w.cell? ⟨a, 0, none⟩ = some x := by simp [World.cell?, h]
theorem cell1 {w : World} {a : Nat} {x y : Value} {t : TypeId} (h : w.heap[a]? = some (.cells #[x, y] t (0, 0))) : w.cell? ⟨a, 1, none⟩ = some y := by simp [World.cell?, h]
theorem free0 {w : World} {a : Nat} {x y : Value} {t : TypeId} (h : w.heap[a]? = some (.cells #[x, y] t (0, 0))) : w.frozen? ⟨a, 0, none⟩ = false := by simp [World.frozen?, h]
theorem free1 {w : World} {a : Nat} {x y : Value} {t : TypeId} (h : w.heap[a]? = some (.cells #[x, y] t (0, 0))) : w.frozen? ⟨a, 1, none⟩ = false := by simp [World.frozen?, h]
theorem blk_set0 {w : World} {a : Nat} {x y u : Value} {t : TypeId} (h : w.heap[a]? = some (.cells #[x, y] t (0, 0))) : (w.setCell ⟨a, 0, none⟩ u).heap[a]? = some (.cells #[u, y] t (0, 0)) := by
  have hlt := lt_of_blk h
  have h' : w.heap[a] = .cells #[x, y] t (0, 0) := by simpa [Array.getElem?_eq_getElem hlt] using h
  show (w.heap.modify a _)[a]? = _
  rw [Array.getElem?_eq_getElem (by simpa using hlt), Array.getElem_modify_self, h']
  rfl
theorem blk_set1 {w : World} {a : Nat} {x y u : Value} {t : TypeId} (h : w.heap[a]? = some (.cells #[x, y] t (0, 0))) : (w.setCell ⟨a, 1, none⟩ u).heap[a]? = some (.cells #[x, u] t (0, 0)) := by
  have hlt := lt_of_blk h
  have h' : w.heap[a] = .cells #[x, y] t (0, 0) := by simpa [Array.getElem?_eq_getElem hlt] using h
  show (w.heap.modify a _)[a]? = _
  rw [Array.getElem?_eq_getElem (by simpa using hlt), Array.getElem_modify_self, h']
  rfl

theorem ownsRow_blk {w : World} {B : Nat} {e : TypeId} {v : Value} {n : Nat} {xs : List Value} (h : w.ownsRow B e 1 v n xs) {g : Nat} (hg : v.ownBlock = some g) : ∃ cur, w.heap[g]? = some (.cells cur e (0, 0)) := by
  rcases h.2 with ⟨rfl, _⟩ | ⟨g', cap, cur, rfl, hb, hgg, _⟩
  · simp [Value.ownBlock] at hg
  · simp [Value.ownBlock] at hg
    subst hg
    exact ⟨cur, hgg⟩

/-- The row's block is not the struct's own: their cells are of other types. -/
theorem row_ne {w : World} {B : Nat} {v : Value} {n : Nat} {xs : List Value} (h : w.ownsRow B 5 1 v n xs) {a : Nat} {cs : Array Value} {t : TypeId} (hb : w.heap[a]? = some (.cells cs t (0, 0))) (ht : t ≠ 5) : v.ownBlock ≠ some a := by
  intro e
  obtain ⟨cur, hc⟩ := ownsRow_blk h e
  rw [hb] at hc
  simp at hc
  exact ht hc.2


theorem ownsRow_keep {w w' : World} {S : Nat → Prop} {B : Nat} {e : TypeId} {v : Value} {n : Nat} {xs : List Value} (h : w.ownsRow B e 1 v n xs) (hc : Chg S w w') (hS : ∀ g, v.ownBlock = some g → ¬ S g) : w'.ownsRow B e 1 v n xs := by
  refine ⟨h.1, ?_⟩
  rcases h.2 with hn | ⟨g, cap, cur, rfl, hb, hgg, rest⟩
  · exact .inl hn
  · exact .inr ⟨g, cap, cur, rfl, hb, (hc.block g (lt_of_blk hgg) (hS g rfl)).trans hgg, rest⟩


/-- What a writer's calls may turn: its own block and its row's. -/
def Foot (a : Nat) (v : Value) (k : Nat) : Prop := k = a ∨ v.ownBlock = some k

/-- Behind a call: the row's block is the one it was, or a new one. -/
def Moved (w : World) (v v' : Value) : Prop := ∀ g, v'.ownBlock = some g → v.ownBlock = some g ∨ w.heap.size ≤ g

theorem Moved.refl (w : World) (v : Value) : Moved w v v := fun _ h => .inl h
theorem Moved.trans {w w1 : World} {v v1 v2 : Value} (h : Moved w v v1) (hs : w.heap.size ≤ w1.heap.size) (k : Moved w1 v1 v2) : Moved w v v2 := fun g hg => by
  rcases k g hg with e | e
  · exact h g e
  · exact .inr (by omega)
theorem Moved.foot {w : World} {v v' : Value} (h : Moved w v v') (a : Nat) : ∀ k, Foot a v' k → Foot a v k ∨ w.heap.size ≤ k := by
  intro k hk
  rcases hk with e | e
  · exact .inl (.inl e)
  · rcases h k e with e | e
    · exact .inl (.inr e)
    · exact .inr e

theorem own_shape {w : World} {B : Nat} {v : Value} {n : Nat} {xs : List Value} (h : w.ownsRow B 5 1 v n xs) : v = .slice none 0 0 ∧ n = 0 ∨ ∃ g cap, v = .slice (some ⟨g, 0, none⟩) n cap := by
  rcases h.2 with h | ⟨g, cap, _, h, _⟩
  · exact .inl h
  · exact .inr ⟨g, cap, h⟩

theorem own_row8 {w : World} {B : Nat} {v : Value} {n : Nat} {bs : List Int} (h : w.ownsRow B 5 1 v n (bs.map (Value.int .u8))) : ∃ ad c, v = .slice ad n c ∧ Row8 w ad n c bs := by
  have hl : bs.length = n := by simpa using h.1
  rcases own_shape h with ⟨rfl, rfl⟩ | ⟨g, cap, rfl⟩
  · exact ⟨none, 0, rfl, hl, .inl ⟨rfl, rfl, rfl⟩⟩
  · exact ⟨_, cap, rfl, hl, .inr ⟨_, rfl, fun j u hu => h.cells (g := g) rfl j u hu⟩⟩

theorem row8_keep {w w' : World} {S : Nat → Prop} {ad : Option Addr} {m c : Nat} {xs : List Int} (h : Row8 w ad m c xs) (hc : Chg S w w') (hS : ∀ x, ad = some x → ¬ S x.block) : Row8 w' ad m c xs := by
  refine ⟨h.1, ?_⟩
  rcases h.2 with e | ⟨x, rfl, hx⟩
  · exact .inl e
  · refine .inr ⟨x, rfl, fun j u hu => ?_⟩
    have h0 := hx j u hu
    have hb : (x.add j).block = x.block := by simp [Addr.add]; split <;> rfl
    have hlt := World.block_lt_of_cell? w _ h0
    rw [World.cell?_of_block (w := w) (hc.block _ hlt (by rw [hb]; exact hS x rfl))]
    exact h0

/-- What is appended, from whatever source: nothing at nil, or cells at an address. -/
def From (w : World) (ad : Option Addr) (m c : Nat) (size : Nat) (news : List Value) : Prop :=
  news.length = m * size ∧ ((ad = none ∧ m = 0 ∧ c = 0) ∨ ∃ x, ad = some x ∧ ∀ j u, news[j]? = some u → w.cell? (x.add j) = some u)

theorem Row8.src {w : World} {ad : Option Addr} {m c : Nat} {xs : List Int} (h : Row8 w ad m c xs) : From w ad m c 1 (xs.map (Value.int .u8)) :=
  ⟨by simp [h.1], h.2⟩

/-- 'append' on a row of the call's own: what it answers, that nothing else has turned, and that the row lies where it lay or in new memory. -/
theorem run_append_moved {P : Program} (w : World) (B : Nat) (t ty e : TypeId) (i : TypeInfo) (z : Value) (size bytes : Nat) (ht : P.underlying t = some (.slice e)) (hi : P.info? e = some i) (hz : i.zero = some z)
    (hsize : i.size = size) (hby : i.bytes = bytes) (hzs : z.cells.size = size) (hsz : 0 < size)
    (v : Value) (n : Nat) (xs : List Value) (hown : w.ownsRow B e size v n xs) (ad : Option Addr) (m c : Nat) (news : List Value) (hsrc : From w ad m c size news) (h1 : ∀ u ∈ news, u.oneCell' = true)
    (h63 : n + m ≤ maxLen) (hbytes : (n + m) * bytes ≤ 140737488355328) (hB : B ≤ w.heap.size) :
    ∃ v' w', (Builtin.append_ #[t, t] ty #[v, .slice ad m c]).run P w = .ok v' w' ∧ w'.ownsRow B e size v' (n + m) (xs ++ news) ∧ w.grownBy w' v.ownBlock ∧ Moved w v v' := by
  obtain ⟨hl, hs⟩ := hsrc
  rcases hs with ⟨rfl, rfl, rfl⟩ | ⟨x, rfl, hnews⟩
  · have hn : news = [] := List.eq_nil_of_length_eq_zero (by simpa using hl)
    subst hn
    exact ⟨v, w, run_append_owned_none w B t ty e i size ht hi v n xs hown, by simpa using hown, ⟨rfl, rfl, rfl, Nat.le_refl _, fun _ _ _ => rfl⟩, Moved.refl w v⟩
  · obtain ⟨v', w', hr, h2, h3, h4⟩ := run_append_own (P := P) w B t ty e i z size bytes ht hi hz hsize hby hzs hsz v n xs hown x m c news hl hnews h1 h63 hbytes hB
    refine ⟨v', w', hr, h2, h3, ?_⟩
    rcases hown.2 with ⟨rfl, rfl⟩ | ⟨g, cap, cur, rfl, hbg, hg, hnc, hcm, hcs, htake⟩
    · have hx0 : xs = [] := List.eq_nil_of_length_eq_zero (by simpa using hown.1)
      subst hx0
      obtain ⟨v2, w2, hr2, k2, _, _⟩ := run_append_own (P := P) w w.heap.size t ty e i z size bytes ht hi hz hsize hby hzs hsz _ 0 [] (World.ownsRow_nil w _ e size) x m c news hl hnews h1 h63 hbytes (Nat.le_refl _)
      rw [hr] at hr2
      simp only [Result.ok.injEq] at hr2
      obtain ⟨rfl, rfl⟩ := hr2
      exact fun k hk => .inr (k2.lt k hk).1
    · subst hsize
      by_cases hroom : n + m ≤ cap
      · have hfit : n * i.size + news.length ≤ cur.size := by rw [hl, hcs, ← Nat.add_mul]; exact Nat.mul_le_mul_right _ hroom
        have hr2 := run_append_room (P := P) w t ty e i ht hi g n cap cur hg x m c news hl hnews h1 hroom hfit
        rw [hr] at hr2
        simp only [Result.ok.injEq] at hr2
        rw [hr2.1]
        exact fun k hk => .inl (by simpa [Value.ownBlock] using hk)
      · have holds : ∀ j u, xs[j]? = some u → w.cell? ((⟨g, 0, none⟩ : Addr).add j) = some u := hown.cells (g := g) rfl
        have hr2 := run_append_grow (P := P) w t ty e i z ht hi hz ⟨g, 0, none⟩ n cap xs hown.1 holds x m c news hl hnews (by omega) (by simp only [maxLen] at h63; omega) (growslice_fits (by omega) (by rw [hby]; exact hbytes))
        rw [hr] at hr2
        simp only [Result.ok.injEq] at hr2
        rw [hr2.1]
        exact fun k hk => .inr (by simp [Value.ownBlock] at hk; omega)

theorem wpList_append_moved {P : Program} {w : World} {ops : Array Oper} {rest : List Oper} {o : Oper} {a : Act} {Q : Exit → Act → World → Prop} (hgd : o.guard = none) (s x : Operand) (t : TypeId)
    (ho : o.op = .call { callee := .builtin .append, args := #[s, x], argTypes := #[t, t] })
    (B : Nat) (e : TypeId) (i : TypeInfo) (z : Value) (size bytes : Nat) (ht : P.underlying t = some (.slice e)) (hi : P.info? e = some i) (hz : i.zero = some z)
    (hsize : i.size = size) (hby : i.bytes = bytes) (hzs : z.cells.size = size) (hsz : 0 < size)
    (v : Value) (n : Nat) (xs : List Value) (hs : a.eval s = v) (ad : Option Addr) (m c : Nat) (hx : a.eval x = .slice ad m c) (news : List Value)
    (hown : w.ownsRow B e size v n xs) (hsrc : From w ad m c size news) (h1 : ∀ u ∈ news, u.oneCell' = true)
    (h63 : n + m ≤ maxLen) (hbytes : (n + m) * bytes ≤ 140737488355328) (hB : B ≤ w.heap.size)
    (h : ∀ v' w', w'.ownsRow B e size v' (n + m) (xs ++ news) → w.grownBy w' v.ownBlock → Moved w v v' → wpList P ops Q rest (a.put o.dst v') w') : wpList P ops Q (o :: rest) a w := by
  refine wpList_plain hgd fun K hK => ?_
  obtain ⟨v', w', hr, h2, h3, h4⟩ := run_append_moved (P := P) w B t o.type e i z size bytes ht hi hz hsize hby hzs hsz v n xs hown ad m c news hsrc h1 h63 hbytes hB
  unfold Oper.wp
  simp [execOp, ho, resolve, invoke, builtin, hs, hx, hr, Result.andThen]
  exact hK _ _ (h v' w' h2 h3 h4)

end Go.Proofs.Ytibgjpifmpljkaa

/- Rows of probabilities in memory ('St': the program's, 'Rt': the document's): definitions and laws; of no statement by themselves. -/
namespace Go.Proofs.Ytibgjpifmpljkaa
open Go.RowKit
set_option linter.unusedVariables false

theorem addk (a o j : Nat) : (⟨a, o, none⟩ : Addr).add j = ⟨a, o + j, none⟩ := by unfold Addr.add; split <;> simp_all
theorem blk_setk {w : World} {a : Nat} {l : List Value} {t : TypeId} (h : w.heap[a]? = some (.cells l.toArray t (0, 0))) (k : Nat) (u : Value) : (w.setCell ⟨a, k, none⟩ u).heap[a]? = some (.cells (l.set k u).toArray t (0, 0)) := by
  have hlt := lt_of_blk h
  have h' : w.heap[a] = .cells l.toArray t (0, 0) := by simpa [Array.getElem?_eq_getElem hlt] using h
  show (w.heap.modify a _)[a]? = _
  rw [Array.getElem?_eq_getElem (by simpa using hlt), Array.getElem_modify_self, h']
  simp
theorem blk_keep {S : Nat → Prop} {w w' : World} {g : Nat} {o : Obj} (h : w.heap[g]? = some o) (hc : Chg S w w') (hS : ¬ S g) : w'.heap[g]? = some o := (hc.block g (lt_of_blk h) hS).trans h
theorem chg_one (w : World) (o : Obj) : Chg (fun _ => False) w (w.alloc o) := (Chg.refl _ w).alloc o
theorem chg_then {a b c : World} (h : Chg (fun _ => False) a b) (k : Chg (fun _ => False) b c) : Chg (fun _ => False) a c := h.trans k (fun _ f => f.elim)
theorem cell_chg {w w' : World} {p : Addr} {v : Value} (h : w.cell? p = some v) (hc : Chg (fun _ => False) w w') : w'.cell? p = some v := by
  rw [World.cell?_of_block (w := w) (hc.block _ (World.block_lt_of_cell? w _ h) (fun f => f))]
  exact h
theorem below_of {w w' : World} (h : Chg (fun _ => False) w w') : Below w.heap.size w w' := h.below (Nat.le_refl _) (fun _ f => f.elim)
theorem chg_drewN (w : World) (n : Nat) : Chg (fun _ => False) w (w.drewN n) := ⟨rfl, rfl, rfl, Nat.le_refl _, fun _ _ _ => rfl⟩

/-- Numbers of one kind as cells. -/
def ins (k : IntKind) (xs : List Int) : List Value := xs.map (Value.int k)
theorem ins_len (k : IntKind) (xs : List Int) : (ins k xs).length = xs.length := by simp [ins]
theorem ins_at (k : IntKind) (xs : List Int) (j : Nat) (h : j < xs.length) : (ins k xs)[j]? = some (.int k xs[j]) := by simp [ins, h]
theorem ins_set (k : IntKind) (xs : List Int) (j : Nat) (p : Int) : (ins k xs).set j (.int k p) = ins k (xs.set j p) := by simp [ins, List.map_set]
theorem ins_one (k : IntKind) (xs : List Int) : ∀ u ∈ ins k xs, u.oneCell' = true := by
  intro u hu
  obtain ⟨x, _, rfl⟩ := List.mem_map.1 hu
  rfl

/-- A row of the call's own, told by its block. -/
theorem own_some {w : World} {B : Nat} {e : TypeId} {v : Value} {n : Nat} {xs : List Value} (h : w.ownsRow B e 1 v n xs) (hn : 0 < n) : ∃ g cap, v = .slice (some ⟨g, 0, none⟩) n cap ∧ n ≤ cap ∧ B ≤ g ∧ g < w.heap.size ∧ w.frozen? ⟨g, 0, none⟩ = false ∧ (∀ j, w.frozen? ⟨g, j, none⟩ = false) ∧ ∀ j u, xs[j]? = some u → w.cell? ⟨g, j, none⟩ = some u := by
  rcases h.2 with ⟨rfl, e0⟩ | ⟨g, cap, cur, rfl, hb, hg, hc, _⟩
  · omega
  · refine ⟨g, cap, rfl, hc, hb, lt_of_blk hg, by simp [World.frozen?, hg], fun j => by simp [World.frozen?, hg], fun j u hu => ?_⟩
    have := h.cells (g := g) rfl j u hu
    rw [addk, Nat.zero_add] at this
    exact this
/-- A row of the call's own, whatever it holds. -/
theorem own_any {w : World} {B : Nat} {e : TypeId} {v : Value} {n : Nat} {xs : List Value} (h : w.ownsRow B e 1 v n xs) : ∃ ad cap, v = .slice ad n cap ∧ (n = 0 ∨ ∃ g, ad = some ⟨g, 0, none⟩) := by
  rcases h.2 with ⟨rfl, rfl⟩ | ⟨g, cap, cur, rfl, _⟩
  · exact ⟨none, 0, rfl, .inl rfl⟩
  · exact ⟨_, cap, rfl, .inr ⟨g, rfl⟩⟩

/-- One cell of an own row is written. -/
theorem own_set {w : World} {B : Nat} {e : TypeId} {g n cap : Nat} {xs : List Value} (h : w.ownsRow B e 1 (.slice (some ⟨g, 0, none⟩) n cap) n xs) (j : Nat) (u : Value) (hj : j < n) :
    (w.setCell ⟨g, j, none⟩ u).ownsRow B e 1 (.slice (some ⟨g, 0, none⟩) n cap) n (xs.set j u) := by
  refine ⟨by rw [List.length_set]; exact h.1, ?_⟩
  rcases h.2 with ⟨e0, _⟩ | ⟨g', cap', cur, e0, hb, hg, hc, hm, hs, ht⟩
  · cases e0
  · simp only [Value.slice.injEq, Option.some.injEq, Addr.mk.injEq, true_and, and_true] at e0
    obtain ⟨rfl, rfl⟩ := e0
    have hg2 : w.heap[g]? = some (.cells cur.toList.toArray e (0, 0)) := by rw [hg]
    refine .inr ⟨g, cap, _, rfl, hb, blk_setk hg2 j u, hc, hm, by simpa using hs, ?_⟩
    rw [← ht]
    simp [List.take_set]

theorem owns_blk {w : World} {B size : Nat} {e : TypeId} {v : Value} {n : Nat} {xs : List Value} (h : w.ownsRow B e size v n xs) {g : Nat} (hg : v.ownBlock = some g) : ∃ cur, w.heap[g]? = some (.cells cur e (0, 0)) := by
  rcases h.2 with ⟨rfl, _⟩ | ⟨g', cap, cur, rfl, hb, hgg, _⟩
  · simp [Value.ownBlock] at hg
  · simp [Value.ownBlock] at hg
    subst hg
    exact ⟨cur, hgg⟩
theorem owns_base {w : World} {B B' : Nat} {e : TypeId} {size : Nat} {v : Value} {n : Nat} {xs : List Value} (h : w.ownsRow B e size v n xs) (hB : B' ≤ B) : w.ownsRow B' e size v n xs := by
  refine ⟨h.1, ?_⟩
  rcases h.2 with hn | ⟨g, cap, cur, rfl, hb, rest⟩
  · exact .inl hn
  · exact .inr ⟨g, cap, cur, rfl, by omega, rest⟩
theorem ty_ne {w : World} {g : Nat} {cs cs' : Array Value} {t t' : TypeId} (h : w.heap[g]? = some (.cells cs t (0, 0))) (h' : w.heap[g]? = some (.cells cs' t' (0, 0))) (hne : t ≠ t') : False := by
  rw [h] at h'
  simp at h'
  exact hne h'.2
theorem info_parts {P : Program} {t : TypeId} {z : Value} {s b : Nat} (h : (P.info? t).map (fun i => (i.zero, i.size, i.bytes)) = some (some z, s, b)) : ∃ i, P.info? t = some i ∧ i.zero = some z ∧ i.size = s ∧ i.bytes = b := by
  cases hi : P.info? t with
  | none => rw [hi] at h; cases h
  | some i => rw [hi] at h; simp at h; exact ⟨i, rfl, h.1, h.2.1, h.2.2⟩

/-- The program's row. -/
structure St (w : World) (B a : Nat) (v : Value) (xs : List Int) : Prop where
  ha : B ≤ a
  blk : w.heap[a]? = some (.cells #[v] 70 (0, 0))
  own : w.ownsRow B 81 1 v xs.length (ins .u16 xs)
/-- The document's. -/
structure Rt (w : World) (B r : Nat) (n : Int) (v : Value) (xs : List Int) : Prop where
  hr : B ≤ r
  blk : w.heap[r]? = some (.cells #[.int .i64 n, v] 105 (0, 0))
  own : w.ownsRow B 3 1 v xs.length (ins .i64 xs)
/-- All are probabilities. -/
def In (xs : List Int) : Prop := ∀ p ∈ xs, 0 ≤ p ∧ p ≤ 2047

theorem St.keep {w w' : World} {S : Nat → Prop} {B a : Nat} {v : Value} {xs : List Int} (h : St w B a v xs) (hc : Chg S w w') (ha : ¬ S a) (hv : ∀ g, v.ownBlock = some g → ¬ S g) : St w' B a v xs :=
  ⟨h.ha, blk_keep h.blk hc ha, ownsRow_keep h.own hc hv⟩
theorem Rt.keep {w w' : World} {S : Nat → Prop} {B r : Nat} {n : Int} {v : Value} {xs : List Int} (h : Rt w B r n v xs) (hc : Chg S w w') (hr : ¬ S r) (hv : ∀ g, v.ownBlock = some g → ¬ S g) : Rt w' B r n v xs :=
  ⟨h.hr, blk_keep h.blk hc hr, ownsRow_keep h.own hc hv⟩
theorem St.new {w w' : World} {B a : Nat} {v : Value} {xs : List Int} (h : St w B a v xs) (hc : Chg (fun _ => False) w w') : St w' B a v xs := h.keep hc (fun f => f) (fun _ _ f => f)
theorem Rt.new {w w' : World} {B r : Nat} {n : Int} {v : Value} {xs : List Int} (h : Rt w B r n v xs) (hc : Chg (fun _ => False) w w') : Rt w' B r n v xs := h.keep hc (fun f => f) (fun _ _ f => f)

theorem In.set {xs : List Int} (h : In xs) (j : Nat) (p : Int) (hp : 0 ≤ p ∧ p ≤ 2047) : In (xs.set j p) := fun q hq => by
  rcases List.mem_or_eq_of_mem_set hq with e | e
  · exact h q e
  · subst e; exact hp
theorem In.half (n : Nat) : In (List.replicate n 1024) := fun q hq => by
  obtain ⟨_, rfl⟩ := List.mem_replicate.1 hq
  omega
theorem In.at {xs : List Int} (h : In xs) (j : Nat) (hj : j < xs.length) : 0 ≤ xs[j] ∧ xs[j] ≤ 2047 := h _ (List.getElem_mem hj)
end Go.Proofs.Ytibgjpifmpljkaa

/- Probabilities over the whole numbers: moving, cutting, costing, and what is true of them; of no statement by itself. -/
namespace Go.Proofs.Ytibgjpifmpljkaa.Prob

/-- Brought into 0 to 2047. -/
def cl (p : Int) : Int := if p < 0 then 0 else if 2047 < p then 2047 else p
theorem cl_lo (p : Int) : 0 ≤ cl p := by unfold cl; split <;> (try split) <;> omega
theorem cl_hi (p : Int) : cl p ≤ 2047 := by unfold cl; split <;> (try split) <;> omega
theorem cl_id {p : Int} (h : 0 ≤ p) (h2 : p ≤ 2047) : cl p = p := by unfold cl; split <;> (try split) <;> omega

/-- Behind a 0. -/
def up (p : Int) : Int := p + (2048 - p) / 32
/-- Behind a 1. -/
def dn (p : Int) : Int := p - p / 32
def nx (p b : Int) : Int := if b = 0 then up (cl p) else dn (cl p)
theorem nx0 {p : Int} (h : 0 ≤ p) (h2 : p ≤ 2047) : nx p 0 = up p := by unfold nx; rw [if_pos rfl, cl_id h h2]
theorem nx1 {p b : Int} (hb : b ≠ 0) (h : 0 ≤ p) (h2 : p ≤ 2047) : nx p b = dn p := by unfold nx; rw [if_neg hb, cl_id h h2]
theorem up_le {p q : Int} (h : p ≤ q) : up p ≤ up q := by unfold up; omega
theorem dn_le {p q : Int} (h : p ≤ q) : dn p ≤ dn q := by unfold dn; omega
theorem up_ge {p : Int} (h : p ≤ 2047) : p ≤ up p := by unfold up; omega
theorem dn_ge {p : Int} (h : 0 ≤ p) : dn p ≤ p := by unfold dn; omega
theorem up_lo {p : Int} (h : 31 ≤ p) (h2 : p ≤ 2017) : 31 ≤ up p ∧ up p ≤ 2017 := by unfold up; omega
theorem dn_lo {p : Int} (h : 31 ≤ p) (h2 : p ≤ 2017) : 31 ≤ dn p ∧ dn p ≤ 2017 := by unfold dn; omega
theorem nx_lo {p b : Int} (h : 31 ≤ p) (h2 : p ≤ 2017) : 31 ≤ nx p b ∧ nx p b ≤ 2017 := by
  by_cases hb : b = 0
  · subst hb; rw [nx0 (by omega) (by omega)]; exact up_lo h h2
  · rw [nx1 hb (by omega) (by omega)]; exact dn_lo h h2
theorem nx_in (p b : Int) : 0 ≤ nx p b ∧ nx p b ≤ 2047 := by
  have h1 := cl_lo p
  have h2 := cl_hi p
  unfold nx up dn
  split <;> omega

/-- From 31 on, n zeros. -/
def ups : Nat → Int
  | 0 => 31
  | n + 1 => up (ups n)
/-- From 2017 on, n ones. -/
def dns : Nat → Int
  | 0 => 2017
  | n + 1 => dn (dns n)
theorem ups_end : ups 300 = 2017 := by decide +kernel
theorem dns_end : dns 300 = 31 := by decide +kernel

/-- Halved until it is below 65536, and how often. -/
def halve : Nat → Int → Int → Int × Int
  | 0, w, c => (w, c)
  | n + 1, w, c => if 65536 ≤ w then halve n (w / 2) (c + 1) else (w, c)
theorem halve_end (n : Nat) (w c : Int) (h : w < 65536) : halve n w c = (w, c) := by
  cases n with
  | zero => rfl
  | succ n => unfold halve; rw [if_neg (by omega)]
theorem halve_step (n : Nat) (w c : Int) (h : 65536 ≤ w) : halve (n + 1) w c = halve n (w / 2) (c + 1) := by
  conv => lhs; unfold halve
  rw [if_pos h]
/-- 65536, doubled n times. -/
def big : Nat → Int
  | 0 => 65536
  | n + 1 => 2 * big n
/-- What may have been counted behind n squarings. -/
def cap : Nat → Int
  | 0 => 0
  | n + 1 => 2 * cap n + 16
theorem cap_le : ∀ k, k < 5 → cap k ≤ 240 := by decide +kernel
theorem big_le : ∀ k, k < 17 → big k ≤ 4294967296 := by decide +kernel
/-- n squarings more. -/
def rest : Nat → Int → Int → Int
  | 0, _, c => c
  | n + 1, w, c => rest n (halve 16 (w * w) (2 * c)).1 (halve 16 (w * w) (2 * c)).2
def cost (p : Int) : Int := 161 - rest 4 (16 * (p / 16) + 8) 0
def costs (k : Nat) : Int := 161 - rest 4 (16 * (k : Int) + 8) 0
theorem cost_at (p : Int) (h : 0 ≤ p) : cost p = costs (p.toNat / 16) := by
  unfold cost costs
  rw [show ((p.toNat / 16 : Nat) : Int) = p / 16 by omega]
theorem costs_step : ∀ k, k < 127 → costs (k + 1) ≤ costs k := by decide +kernel
theorem costs_in : ∀ k, k < 127 → 1 ≤ k → 1 ≤ costs k ∧ costs k ≤ 103 := by decide +kernel
theorem costs_all : ∀ k, k < 128 → 1 ≤ costs k ∧ costs k ≤ 161 := by decide +kernel
theorem costs_le : ∀ (d k : Nat), k + d < 128 → costs (k + d) ≤ costs k
  | 0, k, _ => Int.le_refl _
  | d + 1, k, h => Int.le_trans (costs_step (k + d) (by omega)) (costs_le d k (by omega))
theorem cost_le {p q : Int} (h : 0 ≤ p) (hq : q ≤ 2047) (hpq : p ≤ q) : cost q ≤ cost p := by
  rw [cost_at p h, cost_at q (by omega)]
  have e : q.toNat / 16 = p.toNat / 16 + (q.toNat / 16 - p.toNat / 16) := by omega
  rw [e]
  exact costs_le _ _ (by omega)
theorem cost_in {p : Int} (h : 31 ≤ p) (h2 : p ≤ 2017) : 1 ≤ cost p ∧ cost p ≤ 103 := by
  rw [cost_at p (by omega)]
  exact costs_in _ (by omega) (by omega)
theorem cost_in2 {p : Int} (h : 16 ≤ p) (h2 : p ≤ 2031) : 1 ≤ cost p ∧ cost p ≤ 103 := by
  rw [cost_at p (by omega)]
  exact costs_in _ (by omega) (by omega)
theorem cost_all {p : Int} (h : 0 ≤ p) (h2 : p ≤ 2047) : 1 ≤ cost p ∧ cost p ≤ 161 := by
  rw [cost_at p (by omega)]
  exact costs_all _ (by omega)
theorem cost_half : cost 1024 = 16 := by decide +kernel
/-- What a bit costs. -/
def co (p b : Int) : Int := if b = 0 then cost (cl p) else cost (2047 - cl p)
theorem co0 {p : Int} (h : 0 ≤ p) (h2 : p ≤ 2047) : co p 0 = cost p := by unfold co; rw [if_pos rfl, cl_id h h2]
theorem co1 {p b : Int} (hb : b ≠ 0) (h : 0 ≤ p) (h2 : p ≤ 2047) : co p b = cost (2047 - p) := by unfold co; rw [if_neg hb, cl_id h h2]

/-- Where a range is cut. -/
def bo (r p : Int) : Int := r / 2048 * cl p
theorem mul_le {a p q : Int} (ha : 0 ≤ a) (h : p ≤ q) : a * p ≤ a * q := Int.mul_le_mul_of_nonneg_left h ha
theorem bo_le {r p q : Int} (hr : 0 ≤ r) (hp : 0 ≤ p) (hq : q ≤ 2047) (h : p ≤ q) : bo r p ≤ bo r q := by
  unfold bo
  rw [cl_id hp (by omega), cl_id (by omega) hq]
  exact mul_le (by omega) h
theorem bo_in (r p : Int) (hr : 0 ≤ r) : 0 ≤ bo r p ∧ bo r p ≤ r := by
  unfold bo
  have h1 := cl_lo p
  have h2 := cl_hi p
  have e1 := mul_le (a := r / 2048) (by omega) h1
  have e2 := mul_le (a := r / 2048) (by omega) h2
  omega
end Go.Proofs.Ytibgjpifmpljkaa.Prob

/- The contracts of within, Next, Bound, costOfZero, Cost; of no statement by themselves. -/
namespace Go.Proofs.Ytibgjpifmpljkaa
open Go.RowKit
set_option linter.unusedVariables false

/-- A number of 64 bits. -/
def I64 (p : Int) : Prop := -9223372036854775808 ≤ p ∧ p ≤ 9223372036854775807

theorem within_any (p : Int) (w : World) (hp : I64 p) : Calls Try.prog 65 #[.int .i64 p] w fun e w' => e = .returned (.int .i64 (Prob.cl p)) ∧ w = w' := by
  have h1 := hp.1
  have h2 := hp.2
  go_enter Try.func65, Try.ntmps65
  go_wp2
  all_goals
    go_ret
    refine ⟨?_, rfl⟩
    unfold Prob.cl
    congr 2
    repeat' split
    all_goals first | rfl | (exfalso; rename_i hh _; revert hh; split <;> omega) | omega

theorem next_any (p b : Int) (w : World) (hp : I64 p) : Calls Try.prog 45 #[.int .i64 p, .int .i64 b] w fun e w' => e = .returned (.int .i64 (Prob.nx p b)) ∧ w = w' := by
  have l := Prob.cl_lo p
  have r := Prob.cl_hi p
  have HN : Hid (Prob.nx p b = if b = 0 then Prob.cl p + (2048 - Prob.cl p) / 32 else Prob.cl p - Prob.cl p / 32) := rfl
  go_enter Try.func45, Try.ntmps45
  go_wp2_with fail
  refine (within_any p _ hp).mono ?_
  rintro e w1 ⟨rfl, rfl⟩
  generalize Prob.cl p = q at *
  by_cases hb : b = 0
  · go_wp2
    go_ret
    exact ⟨by rw [HN.out, if_pos hb]; rfl, rfl⟩
  · go_wp2
    go_ret
    exact ⟨by rw [HN.out, if_neg hb]; rfl, rfl⟩

/-- A number of 32 bits. -/
def U32 (r : Int) : Prop := 0 ≤ r ∧ r ≤ 4294967295

theorem bound_any (r p : Int) (w : World) (hr : U32 r) (hp : I64 p) : Calls Try.prog 68 #[.int .u32 r, .int .i64 p] w fun e w' => e = .returned (.int .u32 (Prob.bo r p)) ∧ w = w' := by
  have l := Prob.cl_lo p
  have h := Prob.cl_hi p
  have h1 := hr.1
  have h2 := hr.2
  have HN : Hid (Prob.bo r p = r / 2048 * Prob.cl p) := rfl
  have b1 := (Prob.bo_in r p h1).1
  have b2 := (Prob.bo_in r p h1).2
  rw [HN.out] at b1 b2
  go_enter Try.func68, Try.ntmps68
  go_wp2_with fail
  refine (within_any p _ hp).mono ?_
  rintro e w1 ⟨rfl, rfl⟩
  generalize Prob.cl p = q at *
  generalize hm : r / 2048 * q = m at *
  go_wp2
  go_ret
  exact ⟨by rw [HN.out]; rfl, rfl⟩

theorem sq_in {W : Int} (h : 0 ≤ W) (h2 : W < 65536) : 0 ≤ W * W ∧ W * W < 4294967296 := by
  have e : W * W ≤ 65535 * 65535 := Int.mul_le_mul (by omega) (by omega) h (by omega)
  have e0 : 0 ≤ W * W := Int.mul_nonneg h h
  omega

set_option maxHeartbeats 1000000 in
theorem costOfZero_any (p : Int) (w : World) (h0 : 0 ≤ p) (h1 : p ≤ 2047) : Calls Try.prog 66 #[.int .i64 p] w fun e w' => e = .returned (.int .i64 (Prob.cost p)) ∧ w = w' := by
  obtain ⟨R, hR⟩ : ∃ R, Prob.rest 4 (16 * (p / 16) + 8) 0 = R := ⟨_, rfl⟩
  have HR : Hid (Prob.rest 4 (16 * (p / 16) + 8) 0 = R) := hR
  have HC : Hid (Prob.cost p = 161 - R) := by show _ = _; unfold Prob.cost; rw [hR]
  have hlo : 0 ≤ 16 * (p / 16) + 8 ∧ 16 * (p / 16) + 8 < 65536 := by omega
  clear hR
  go_enter Try.func66, Try.ntmps66
  go_wp2
  go_loop [10, 3, 4] (fun i z c => ∃ (k : Nat) (W C : Int), k ≤ 4 ∧ i = .int .i64 k ∧ z = .int .u32 W ∧ c = .int .i64 C ∧ 0 ≤ W ∧ W < 65536 ∧ 0 ≤ C ∧ C ≤ Prob.cap k ∧ Hid (Prob.rest (4 - k) W C = R)) (fun i _ _ => 4 - (intOf i).toNat)
  case atStart => exact ⟨0, _, 0, by omega, rfl, rfl, rfl, by omega, by omega, by omega, Int.le_refl _, by show _ = _; rw [Int.mul_comm]; exact HR.out⟩
  case round =>
    obtain ⟨k, W, C, hk, rfl, rfl, rfl, hW0, hW1, hC0, hC1, HRk⟩ := hrel
    have hcl := Prob.cap_le k (by omega)
    by_cases hlt : k < 4
    · have hS := sq_in hW0 hW1
      have HK : Hid (Prob.cap (k + 1) = 2 * Prob.cap k + 16) := rfl
      have HRn : Hid (Prob.rest (4 - (k + 1)) (Prob.halve 16 (W * W) (2 * C)).1 (Prob.halve 16 (W * W) (2 * C)).2 = R) := by
        have e : 4 - k = 4 - (k + 1) + 1 := by omega
        have h := HRk.out
        rw [e] at h
        exact h
      clear HRk
      have hs1 := hS.1
      have hs2 := hS.2
      clear hS
      generalize Prob.cap k = cp at *
      generalize hS : W * W = SS at *
      go_wp2
      go_loop [3, 4] (fun z c => ∃ (n : Nat) (W2 C2 : Int), n ≤ 16 ∧ z = .int .u32 W2 ∧ c = .int .i64 C2 ∧ 0 ≤ W2 ∧ W2 < Prob.big n ∧ 2 * C ≤ C2 ∧ C2 ≤ 2 * C + 16 - n ∧ Hid (Prob.halve 16 SS (2 * C) = Prob.halve n W2 C2)) (fun z _ => (intOf z).toNat)
      case atStart => exact ⟨16, _, _, by omega, rfl, rfl, hs1, hs2, by omega, by omega, by show _ = _; rw [Int.mul_comm 2 C]⟩
      case round =>
        obtain ⟨n, W2, C2, hn, rfl, rfl, h20, h21, hc0, hc1, Hh⟩ := hrel
        have hbl := Prob.big_le n (by omega)
        by_cases hge : 65536 ≤ W2
        · cases n with
          | zero => exact absurd h21 (by show ¬ W2 < 65536; omega)
          | succ n =>
            have HB : Hid (Prob.big (n + 1) = 2 * Prob.big n) := rfl
            have HT := Prob.halve_step n W2 C2 hge
            go_wp2
            go_round
            case rel => exact ⟨n, _, _, by omega, rfl, rfl, by omega, by have := HB.out; omega, by omega, by omega, Hh.out.trans HT⟩
            case measure => simp [intOf]; omega
        · have HE := Prob.halve_end n W2 C2 (by omega)
          go_wp2
          go_round
          case rel => exact ⟨k + 1, W2, C2, by omega, by go_num, rfl, rfl, h20, by omega, by omega, by have := HK.out; omega, by show _ = _; rw [← HRn.out, Hh.out, HE]⟩
          case measure => simp [intOf]; omega
    · obtain rfl : k = 4 := by omega
      have HE : C = R := HRk.out
      go_wp2
      go_ret
      exact ⟨by rw [HC.out]; rfl, rfl⟩

theorem cost_any (p b : Int) (w : World) (hp : I64 p) : Calls Try.prog 40 #[.int .i64 p, .int .i64 b] w fun e w' => e = .returned (.int .i64 (Prob.co p b)) ∧ w = w' := by
  have l := Prob.cl_lo p
  have r := Prob.cl_hi p
  have HN : Hid (Prob.co p b = if b = 0 then Prob.cost (Prob.cl p) else Prob.cost (2047 - Prob.cl p)) := rfl
  go_enter Try.func40, Try.ntmps40
  go_wp2_with fail
  refine (within_any p _ hp).mono ?_
  rintro e w1 ⟨rfl, rfl⟩
  generalize Prob.cl p = q at *
  by_cases hb : b = 0
  · go_wp2_with fail
    refine (costOfZero_any q _ l r).mono ?_
    rintro e w1 ⟨rfl, rfl⟩
    go_wp2
    go_ret
    exact ⟨by rw [HN.out, if_pos hb]; rfl, rfl⟩
  · go_wp2_with fail
    refine (costOfZero_any (2047 - q) _ (by omega) (by omega)).mono ?_
    rintro e w1 ⟨rfl, rfl⟩
    go_wp2
    go_ret
    exact ⟨by rw [HN.out, if_neg hb]; rfl, rfl⟩

end Go.Proofs.Ytibgjpifmpljkaa

/- A region that draws its order, gone through once an operation, whatever the order: each operation's slot has its own fact, which memory that is only added to does not take away; of no statement by itself. -/
namespace Go.Proofs.Ytibgjpifmpljkaa
open Go.RowKit

/-- One slot told anew. -/
def upd (u : Nat → Value) (t : Nat) (v : Value) : Nat → Value := fun s => if s = t then v else u s

section
variable {P : Program} {ops : Array Oper} {Q : Exit → Act → World → Prop} {F : Nat → Value → World → Prop} {mk : (Nat → Value) → Array Value}

/-- The slot that operation number i writes. -/
def slotOf (ops : Array Oper) (i : Nat) : Nat := ((ops[i]?).bind (·.dst)).getD 0

/-- What an operation waited for has its fact. -/
def Deps (ops : Array Oper) (F : Nat → Value → World → Prop) (u : Nat → Value) (w : World) : List Edge → Prop
  | [] => True
  | e :: es => (Region.binds .any e = true → F (slotOf ops e.on) (u (slotOf ops e.on)) w) ∧ Deps ops F u w es

theorem deps_of {u : Nat → Value} {w : World} : ∀ (es : List Edge), (∀ e ∈ es, Region.binds .any e = true → F (slotOf ops e.on) (u (slotOf ops e.on)) w) → Deps ops F u w es
  | [], _ => trivial
  | e :: es, h => ⟨h e List.mem_cons_self, deps_of es fun x hx => h x (List.mem_cons_of_mem _ hx)⟩

/-- Each operation, from any state in which what it waited for has its fact, gives its slot a value with its own fact, and memory is only added to. -/
def Steps (P : Program) (ops : Array Oper) (Q : Exit → Act → World → Prop) (mk : (Nat → Value) → Array Value) (F : Nat → Value → World → Prop) (w0 : World) : List Oper → Prop
  | [] => True
  | o :: rest => (∀ (u : Nat → Value) (w : World), Chg (fun _ => False) w0 w → Deps ops F u w o.after.toList →
      ∀ K : Act → World → Prop, Shut (∀ v w', Chg (fun _ => False) w w' → F (o.dst.getD 0) v w' → K ((⟨mk u, []⟩ : Act).put o.dst v) w') →
      if Region.wanted o (yielded ops (mk u)) = true then Oper.wp P o ⟨mk u, []⟩ w K Q else K ((⟨mk u, []⟩ : Act).put o.dst undef) w) ∧ Steps P ops Q mk F w0 rest

/-- Writing an operation's slot is telling it anew. -/
def Puts (mk : (Nat → Value) → Array Value) : List Oper → Prop
  | [] => True
  | o :: rest => (∃ t, o.dst = some t ∧ ∀ u v, (mk u).setIfInBounds t v = mk (upd u t v)) ∧ Puts mk rest

/-- All slots have their facts. -/
def Alls (F : Nat → Value → World → Prop) (u : Nat → Value) (w : World) : List Oper → Prop
  | [] => True
  | o :: rest => F (o.dst.getD 0) (u (o.dst.getD 0)) w ∧ Alls F u w rest

theorem alls_of {u : Nat → Value} {w : World} : ∀ (l : List Oper), (∀ o ∈ l, F (o.dst.getD 0) (u (o.dst.getD 0)) w) → Alls F u w l
  | [], _ => trivial
  | o :: l, h => ⟨h o List.mem_cons_self, alls_of l fun x hx => h x (List.mem_cons_of_mem _ hx)⟩

theorem steps_at {w0 : World} : ∀ {l : List Oper}, Steps P ops Q mk F w0 l → ∀ o ∈ l, ∀ (u : Nat → Value) (w : World), Chg (fun _ => False) w0 w → Deps ops F u w o.after.toList →
      ∀ K : Act → World → Prop, Shut (∀ v w', Chg (fun _ => False) w w' → F (o.dst.getD 0) v w' → K ((⟨mk u, []⟩ : Act).put o.dst v) w') →
      if Region.wanted o (yielded ops (mk u)) = true then Oper.wp P o ⟨mk u, []⟩ w K Q else K ((⟨mk u, []⟩ : Act).put o.dst undef) w
  | [], _, o, ho => by cases ho
  | o' :: l, h, o, ho => by
    rcases List.mem_cons.1 ho with e | e
    · subst e; exact h.1
    · exact steps_at h.2 o e

theorem puts_at : ∀ {l : List Oper}, Puts mk l → ∀ o ∈ l, ∃ t, o.dst = some t ∧ ∀ u v, (mk u).setIfInBounds t v = mk (upd u t v)
  | [], _, o, ho => by cases ho
  | o' :: l, h, o, ho => by
    rcases List.mem_cons.1 ho with e | e
    · subst e; exact h.1
    · exact puts_at h.2 o e

/-- The operations' slots are distinct, and none waits for a later one. -/
def tidy (ops : Array Oper) : Bool :=
  (List.range ops.size).all fun i => (List.range ops.size).all (fun j => i == j || slotOf ops i != slotOf ops j) && ((ops[i]?).map fun o => o.after.toList.all fun e => decide (e.on < i)).getD true

theorem tidy_slot (h : tidy ops = true) {i j : Nat} (hi : i < ops.size) (hj : j < ops.size) (e : slotOf ops i = slotOf ops j) : i = j := by
  have h1 := List.all_eq_true.1 h i (List.mem_range.2 hi)
  simp only [Bool.and_eq_true] at h1
  have h2 := List.all_eq_true.1 h1.1 j (List.mem_range.2 hj)
  simpa [e] using h2

theorem tidy_after (h : tidy ops = true) {i : Nat} {o : Oper} (ho : ops[i]? = some o) {e : Edge} (he : e ∈ o.after) : e.on < i := by
  have hi : i < ops.size := (Array.getElem?_eq_some_iff.1 ho).1
  have h1 := List.all_eq_true.1 h i (List.mem_range.2 hi)
  simp only [Bool.and_eq_true, ho, Option.map_some, Option.getD_some] at h1
  have h2 := List.all_eq_true.1 h1.2 e (by simpa using he)
  simpa using h2

theorem slotOf_eq {i t : Nat} {o : Oper} (ho : ops[i]? = some o) (hd : o.dst = some t) : slotOf ops i = t := by simp [slotOf, ho, hd]

theorem free_go (w0 : World) (ht : tidy ops = true) (hp : Puts mk ops.toList) (hst : ∀ t v w w', Chg (fun _ => False) w w' → F t v w → F t v w')
    (hs : Steps P ops Q mk F w0 ops.toList) (hend : ∀ u w, Chg (fun _ => False) w0 w → Alls F u w ops.toList → Q .normal ⟨mk u, []⟩ w) :
    ∀ (fuel : Nat) (listed : Array Bool) (u : Nat → Value) (w : World), listed.size = ops.size → listed.toList.countP (fun b => !b) ≤ fuel → Chg (fun _ => False) w0 w →
      (∀ i, i < ops.size → listed.getD i false = true → F (slotOf ops i) (u (slotOf ops i)) w) → wpAny P .any ops Q fuel listed ⟨mk u, []⟩ w := by
  have hfin : ∀ (listed : Array Bool) (u : Nat → Value) (w : World), listed.size = ops.size → Chg (fun _ => False) w0 w →
      (∀ i, i < ops.size → listed.getD i false = true → F (slotOf ops i) (u (slotOf ops i)) w) → Region.ready .any ops listed = [] → Q .normal ⟨mk u, []⟩ w := by
    intro listed u w hsz hc hF hr
    have hall : ∀ i, i < ops.size → listed.getD i false = true := by
      intro i
      induction i using Nat.strongRecOn with
      | ind i ih =>
        intro hi
        cases hl : listed.getD i false with
        | true => rfl
        | false =>
          exfalso
          have : i ∈ Region.ready .any ops listed := by
            refine mem_ready.2 ⟨?_, ops[i], Array.getElem?_eq_getElem hi, fun e he _ => ?_⟩
            · have hi' : i < listed.size := by omega
              simpa [hi'] using hl
            · have := tidy_after ht (Array.getElem?_eq_getElem hi) he
              exact ih _ this (by omega)
          rw [hr] at this
          cases this
    refine hend u w hc (alls_of _ fun o ho => ?_)
    obtain ⟨i, hi, he⟩ := List.mem_iff_getElem.1 ho
    have hi' : i < ops.size := by simpa using hi
    obtain ⟨t, hd, _⟩ := puts_at hp o ho
    have hoi : ops[i]? = some o := by rw [Array.getElem?_eq_getElem hi', ← he]; simp
    have := hF i hi' (hall i hi')
    rw [slotOf_eq hoi hd] at this
    simpa [hd] using this
  intro fuel
  induction fuel with
  | zero =>
    intro listed u w hsz hn hc hF
    have hr : Region.ready .any ops listed = [] := by
      cases h : Region.ready .any ops listed with
      | nil => rfl
      | cons j l =>
        exfalso
        have hj : j ∈ Region.ready .any ops listed := by rw [h]; exact List.mem_cons_self
        obtain ⟨h0, o, ho, _⟩ := mem_ready.1 hj
        have hjs : j < listed.size := by have := (Array.getElem?_eq_some_iff.1 ho).1; omega
        have h1 : listed[j] = false := by simpa [hjs] using h0
        have h2 : 0 < listed.toList.countP (fun b => !b) := List.countP_pos_iff.2 ⟨false, by rw [← h1]; simp, rfl⟩
        omega
    exact ⟨hr, hfin listed u w hsz hc hF hr⟩
  | succ fuel ih =>
    intro listed u w hsz hn hc hF
    refine ⟨hfin listed u w hsz hc hF, fun i hi => ?_⟩
    obtain ⟨h0, o, ho, hall⟩ := mem_ready.1 hi
    have hio : i < ops.size := (Array.getElem?_eq_some_iff.1 ho).1
    have his : i < listed.size := by omega
    have hl0 : listed[i] = false := by simpa [his] using h0
    have hmem : o ∈ ops.toList := by
      have := (Array.getElem?_eq_some_iff.1 ho).2
      rw [← this]
      simp
    obtain ⟨t, hd, hput⟩ := puts_at hp o hmem
    refine wpOp_step ho (fun K hK => steps_at hs o hmem u w hc (deps_of _ fun e he hb => ?_) K ?_)
    · have he' : e ∈ o.after := by simpa using he
      have := tidy_after ht ho he'
      exact hF e.on (by omega) (hall e he' hb)
    · intro v w' hcw hFv
      refine hK _ _ ?_
      rw [hd] at hFv ⊢
      have e1 : (⟨mk u, []⟩ : Act).put (some t) v = ⟨mk (upd u t v), []⟩ := by
        show Act.mk ((mk u).setIfInBounds t v) [] = _
        rw [hput]
      rw [e1]
      refine ih _ _ w' (by simpa using hsz) ?_ (hc.trans hcw (fun _ f => f.elim)) ?_
      · have : (listed.setIfInBounds i true).toList = listed.toList.set i true := by simp
        rw [this, List.countP_set (by simpa using his)]
        have h2 : 0 < listed.toList.countP (fun b => !b) := List.countP_pos_iff.2 ⟨false, by rw [← hl0]; simp, rfl⟩
        have h3 : (!(listed.toList[i]'(by simpa using his))) = true := by simp [hl0]
        rw [if_pos h3]
        simp only [Bool.not_true, Bool.false_eq_true, if_false]
        omega
      · intro j hj hlj
        by_cases e : j = i
        · subst e
          rw [slotOf_eq ho hd]
          simpa [upd] using hFv
        · have hne : slotOf ops j ≠ t := fun h => e (tidy_slot ht hj hio (by rw [h, slotOf_eq ho hd]))
          have hlj' : listed.getD j false = true := by
            rw [getD_set_ne false (Ne.symm e)] at hlj
            exact hlj
          have := hst _ _ _ _ hcw (hF j hj hlj')
          simpa [upd, hne] using this

/-- THE LAW: a region that draws its order, each operation shown once. -/
theorem wp_region_free {id : Nat} {a : Act} {w0 : World} (mk : (Nat → Value) → Array Value) (F : Nat → Value → World → Prop) (u0 : Nat → Value) (ha : a = ⟨mk u0, []⟩) (hm : P.follows .mixedOrders = true) (ht : tidy ops = true) (hp : Puts mk ops.toList)
    (hst : ∀ t v w w', Chg (fun _ => False) w w' → F t v w → F t v w')
    (hs : Steps P ops Q mk F w0 ops.toList) (hend : ∀ u w, Chg (fun _ => False) w0 w → Alls F u w ops.toList → Q .normal ⟨mk u, []⟩ w) : (Code.region id ops true).wp P Q a w0 := by
  subst ha
  refine wp_region_any hm (free_go w0 ht hp hst hs hend _ _ u0 _ (by simp) ?_ ((Chg.refl _ w0).drew) ?_)
  · have := List.countP_le_length (p := fun b => !b) (l := (Array.replicate ops.size false).toList)
    simpa using this
  · intro i hi h
    simp [hi] at h
end
end Go.Proofs.Ytibgjpifmpljkaa

/- A region that draws its order and whose last operation, for which all others are waited, writes memory: gone through once an operation; of no statement by itself. -/
namespace Go.Proofs.Ytibgjpifmpljkaa
open Go.RowKit

section
variable {P : Program} {ops : Array Oper} {Q : Exit → Act → World → Prop} {F : Nat → Value → World → Prop} {mk : (Nat → Value) → Array Value}

/-- The first n operations' slots are distinct, none waits for a later one, and for each a later one waits. -/
def tidyL (ops : Array Oper) (n : Nat) : Bool :=
  ((List.range n).all fun i => (List.range n).all (fun j => i == j || slotOf ops i != slotOf ops j) && ((List.range (n + 1)).any fun j => decide (i < j) && ((ops[j]?).map fun o => o.after.toList.any fun e => e.on == i && Region.binds .any e).getD false))
  && (List.range (n + 1)).all fun i => ((ops[i]?).map fun o => o.after.toList.all fun e => decide (e.on < i)).getD true

theorem tidyL_slot {n : Nat} (h : tidyL ops n = true) {i j : Nat} (hi : i < n) (hj : j < n) (e : slotOf ops i = slotOf ops j) : i = j := by
  simp only [tidyL, Bool.and_eq_true] at h
  have h1 := List.all_eq_true.1 h.1 i (List.mem_range.2 hi)
  simp only [Bool.and_eq_true] at h1
  have h2 := List.all_eq_true.1 h1.1 j (List.mem_range.2 hj)
  simpa [e] using h2

theorem tidyL_after {n : Nat} (h : tidyL ops n = true) {i : Nat} (hi : i < n + 1) {o : Oper} (ho : ops[i]? = some o) {e : Edge} (he : e ∈ o.after) : e.on < i := by
  simp only [tidyL, Bool.and_eq_true] at h
  have h1 := List.all_eq_true.1 h.2 i (List.mem_range.2 hi)
  simp only [ho, Option.map_some, Option.getD_some] at h1
  have h2 := List.all_eq_true.1 h1 e (by simpa using he)
  simpa using h2

theorem tidyL_wait {n : Nat} (h : tidyL ops n = true) {i : Nat} (hi : i < n) : ∃ j o e, i < j ∧ j < n + 1 ∧ ops[j]? = some o ∧ e ∈ o.after ∧ e.on = i ∧ Region.binds .any e = true := by
  simp only [tidyL, Bool.and_eq_true] at h
  have h1 := List.all_eq_true.1 h.1 i (List.mem_range.2 hi)
  simp only [Bool.and_eq_true] at h1
  obtain ⟨j, hj, h2⟩ := List.any_eq_true.1 h1.2
  simp only [Bool.and_eq_true, decide_eq_true_eq] at h2
  cases ho : ops[j]? with
  | none => simp [ho] at h2
  | some o =>
    simp only [ho, Option.map_some, Option.getD_some] at h2
    obtain ⟨e, he, h3⟩ := List.any_eq_true.1 h2.2
    simp only [Bool.and_eq_true, beq_iff_eq] at h3
    exact ⟨j, o, e, h2.1, List.mem_range.1 hj, ho, by simpa using he, h3.1, h3.2⟩

theorem last_go (w0 : World) (front : List Oper) (last : Oper) (hops : ops.toList = front ++ [last]) (ht : tidyL ops front.length = true) (hp : Puts mk front) (hst : ∀ t v w w', Chg (fun _ => False) w w' → F t v w → F t v w')
    (hs : Steps P ops Q mk F w0 front)
    (hend : ∀ u w, Chg (fun _ => False) w0 w → Alls F u w front → ∀ K : Act → World → Prop, Shut (∀ a w', Q .normal a w' → K a w') →
      if Region.wanted last (yielded ops (mk u)) = true then Oper.wp P last ⟨mk u, []⟩ w K Q else K ((⟨mk u, []⟩ : Act).put last.dst undef) w) :
    ∀ (fuel : Nat) (listed : Array Bool) (u : Nat → Value) (w : World), listed.size = ops.size → listed.toList.countP (fun b => !b) ≤ fuel → Chg (fun _ => False) w0 w →
      listed.getD front.length false = false →
      (∀ i o e, listed.getD i false = true → ops[i]? = some o → e ∈ o.after → Region.binds .any e = true → listed.getD e.on false = true) →
      (∀ i, i < front.length → listed.getD i false = true → F (slotOf ops i) (u (slotOf ops i)) w) → wpAny P .any ops Q fuel listed ⟨mk u, []⟩ w := by
  have hsz0 : ops.size = front.length + 1 := by
    have := congrArg List.length hops
    simpa using this
  have hfr : ∀ i, i < front.length → ∃ o, ops[i]? = some o ∧ o ∈ front := by
    intro i hi
    refine ⟨front[i], ?_, List.getElem_mem _⟩
    rw [← Array.getElem?_toList, hops, List.getElem?_append_left hi, List.getElem?_eq_getElem hi]
  have hla : ops[front.length]? = some last := by
    rw [← Array.getElem?_toList, hops]
    simp
  have hno : ∀ (listed : Array Bool), listed.size = ops.size → listed.getD front.length false = false → Region.ready .any ops listed = [] → False := by
    intro listed hsz hl hr
    have hall : ∀ i, i < ops.size → listed.getD i false = true := by
      intro i
      induction i using Nat.strongRecOn with
      | ind i ih =>
        intro hi
        cases hl : listed.getD i false with
        | true => rfl
        | false =>
          exfalso
          have : i ∈ Region.ready .any ops listed := by
            refine mem_ready.2 ⟨?_, ops[i], Array.getElem?_eq_getElem hi, fun e he _ => ?_⟩
            · have hi' : i < listed.size := by omega
              simpa [hi'] using hl
            · have := tidyL_after ht (by omega) (Array.getElem?_eq_getElem hi) he
              exact ih _ this (by omega)
          rw [hr] at this
          cases this
    rw [hall _ (by omega)] at hl
    cases hl
  intro fuel
  induction fuel with
  | zero =>
    intro listed u w hsz hn hc hL hC hF
    exfalso
    have hjs : front.length < listed.size := by omega
    have h1 : listed[front.length] = false := by simpa [hjs] using hL
    have h2 : 0 < listed.toList.countP (fun b => !b) := List.countP_pos_iff.2 ⟨false, by rw [← h1]; simp, rfl⟩
    omega
  | succ fuel ih =>
    intro listed u w hsz hn hc hL hC hF
    refine ⟨fun hr => (hno listed hsz hL hr).elim, fun i hi => ?_⟩
    obtain ⟨h0, o, ho, hall⟩ := mem_ready.1 hi
    have hio : i < ops.size := (Array.getElem?_eq_some_iff.1 ho).1
    have his : i < listed.size := by omega
    have hl0 : listed[i] = false := by simpa [his] using h0
    have hcnt : (listed.setIfInBounds i true).toList.countP (fun b => !b) ≤ fuel := by
      have : (listed.setIfInBounds i true).toList = listed.toList.set i true := by simp
      rw [this, List.countP_set (by simpa using his)]
      have h2 : 0 < listed.toList.countP (fun b => !b) := List.countP_pos_iff.2 ⟨false, by rw [← hl0]; simp, rfl⟩
      have h3 : (!(listed.toList[i]'(by simpa using his))) = true := by simp [hl0]
      rw [if_pos h3]
      simp only [Bool.not_true, Bool.false_eq_true, if_false]
      omega
    by_cases hin : i < front.length
    · obtain ⟨o', ho', hmem⟩ := hfr i hin
      obtain rfl : o' = o := Option.some.inj (ho'.symm.trans ho)
      obtain ⟨t, hd, hput⟩ := puts_at hp o' hmem
      refine wpOp_step ho (fun K hK => steps_at hs o' hmem u w hc (deps_of _ fun e he hb => ?_) K ?_)
      · have he' : e ∈ o'.after := by simpa using he
        have := tidyL_after ht (by omega) ho he'
        exact hF e.on (by omega) (hall e he' hb)
      · intro v w' hcw hFv
        refine hK _ _ ?_
        rw [hd] at hFv ⊢
        have e1 : (⟨mk u, []⟩ : Act).put (some t) v = ⟨mk (upd u t v), []⟩ := by
          show Act.mk ((mk u).setIfInBounds t v) [] = _
          rw [hput]
        rw [e1]
        refine ih _ _ w' (by simpa using hsz) hcnt (hc.trans hcw (fun _ f => f.elim)) ?_ ?_ ?_
        · rw [getD_set_ne false (by omega)]
          exact hL
        · intro j oj e hlj hoj he hb
          by_cases ej : j = i
          · subst ej
            obtain rfl : oj = o' := Option.some.inj (hoj.symm.trans ho)
            have := tidyL_after ht (by omega) ho he
            rw [getD_set_ne false (by omega)]
            exact hall e he hb
          · rw [getD_set_ne false (Ne.symm ej)] at hlj
            have := hC j oj e hlj hoj he hb
            by_cases ee : e.on = i
            · rw [ee]
              simp [his]
            · rw [getD_set_ne false (Ne.symm ee)]
              exact this
        · intro j hj hlj
          by_cases e : j = i
          · subst e
            rw [slotOf_eq ho hd]
            simpa [upd] using hFv
          · have hne : slotOf ops j ≠ t := fun h => e (tidyL_slot ht hj hin (by rw [h, slotOf_eq ho hd]))
            have hlj' : listed.getD j false = true := by
              rw [getD_set_ne false (Ne.symm e)] at hlj
              exact hlj
            have := hst _ _ _ _ hcw (hF j hj hlj')
            simpa [upd, hne] using this
    · obtain rfl : i = front.length := by omega
      obtain rfl : last = o := Option.some.inj (hla.symm.trans ho)
      have hall2 : ∀ d j, j + d + 1 = front.length → listed.getD j false = true := by
        intro d
        induction d using Nat.strongRecOn with
        | ind d ihd =>
          intro j hj
          obtain ⟨k, o, e, hjk, hkn, hok, he, heo, hb⟩ := tidyL_wait ht (show j < front.length by omega)
          by_cases hk : k = front.length
          · subst hk
            obtain rfl : o = last := Option.some.inj (hok.symm.trans ho)
            have := hall e he hb
            rwa [heo] at this
          · have h1 := ihd (front.length - k - 1) (by omega) k (by omega)
            have := hC k o e h1 hok he hb
            rwa [heo] at this
      have hA : Alls F u w front := by
        refine alls_of _ fun o hmo => ?_
        obtain ⟨j, hj, rfl⟩ := List.mem_iff_getElem.1 hmo
        obtain ⟨t, hd, _⟩ := puts_at hp _ hmo
        have hoj : ops[j]? = some front[j] := by rw [← Array.getElem?_toList, hops, List.getElem?_append_left hj, List.getElem?_eq_getElem hj]
        have := hF j hj (hall2 (front.length - j - 1) j (by omega))
        rw [slotOf_eq hoj hd] at this
        simpa [hd] using this
      refine wpOp_step ho (fun K hK => hend u w hc hA K (fun a w' hq => hK _ _ ?_))
      have hr : Region.ready .any ops (listed.setIfInBounds front.length true) = [] := by
        cases h : Region.ready .any ops (listed.setIfInBounds front.length true) with
        | nil => rfl
        | cons j l =>
          exfalso
          have hj : j ∈ Region.ready .any ops (listed.setIfInBounds front.length true) := by rw [h]; exact List.mem_cons_self
          obtain ⟨h0, o, ho, _⟩ := mem_ready.1 hj
          have hjs : j < ops.size := (Array.getElem?_eq_some_iff.1 ho).1
          by_cases e : j = front.length
          · subst e
            simp [his] at h0
          · have := hall2 (front.length - j - 1) j (by omega)
            have h1 : (listed.setIfInBounds front.length true).getD j false = true := by rw [getD_set_ne false (Ne.symm e)]; exact this
            have hj2 : j < (listed.setIfInBounds front.length true).size := by simp; omega
            rw [Array.getD_eq_getD_getElem?, Array.getElem?_eq_getElem hj2] at h1
            simp only [Option.getD_some] at h1
            rw [Array.getD_eq_getD_getElem?, Array.getElem?_eq_getElem hj2] at h0
            simp only [Option.getD_some] at h0
            rw [h1] at h0
            cases h0
      cases fuel with
      | zero => exact ⟨hr, hq⟩
      | succ f => exact ⟨fun _ => hq, fun i hi => by rw [hr] at hi; cases hi⟩

theorem rep_getD (n i : Nat) : (Array.replicate n false).getD i false = false := by
  rw [Array.getD_eq_getD_getElem?, Array.getElem?_replicate]
  split <;> rfl

/-- THE LAW: a region that draws its order; its last operation, for which all others are waited, is the prover's. -/
theorem wp_region_last {id : Nat} {a : Act} {w0 : World} (mk : (Nat → Value) → Array Value) (F : Nat → Value → World → Prop) (u0 : Nat → Value) (ha : a = ⟨mk u0, []⟩) (hm : P.follows .mixedOrders = true) (n : Nat) (last : Oper) (hn : ops.size = n + 1) (hl : ops[n]? = some last) (ht : tidyL ops n = true) (hp : Puts mk (ops.toList.take n))
    (hst : ∀ t v w w', Chg (fun _ => False) w w' → F t v w → F t v w')
    (hs : Steps P ops Q mk F w0 (ops.toList.take n))
    (hend : ∀ u w, Chg (fun _ => False) w0 w → Alls F u w (ops.toList.take n) → ∀ K : Act → World → Prop, Shut (∀ a w', Q .normal a w' → K a w') →
      if Region.wanted last (yielded ops (mk u)) = true then Oper.wp P last ⟨mk u, []⟩ w K Q else K ((⟨mk u, []⟩ : Act).put last.dst undef) w) : (Code.region id ops true).wp P Q a w0 := by
  subst ha
  have hlen : (ops.toList.take n).length = n := by simp; omega
  have hops : ops.toList = ops.toList.take n ++ [last] := by
    have h1 : ops.toList[n]? = some last := by simpa using hl
    obtain ⟨h2, h3⟩ := List.getElem?_eq_some_iff.1 h1
    have h4 := List.take_succ_eq_append_getElem h2
    rw [h3] at h4
    rw [← h4, List.take_of_length_le (by simp; omega)]
  refine wp_region_any hm (last_go w0 (ops.toList.take n) last hops (by rw [hlen]; exact ht) hp hst hs hend _ _ u0 _ (by simp) ?_ ((Chg.refl _ w0).drew) ?_ ?_ ?_)
  · have := List.countP_le_length (p := fun b => !b) (l := (Array.replicate ops.size false).toList)
    simpa using this
  · exact rep_getD _ _
  · intro i o e h
    rw [rep_getD] at h
    cases h
  · intro i hi h
    rw [rep_getD] at h
    cases h
end
end Go.Proofs.Ytibgjpifmpljkaa

/- What a slot of a region may be known to hold ('Fact'): a value, a block; that memory that is only added to keeps it; of no statement by itself. -/
namespace Go.Proofs.Ytibgjpifmpljkaa
open Go.RowKit

inductive Fact where
  | any
  | val (v : Value)
  | blk (B : Nat) (cs : List Value) (t : TypeId)
  | is (p : Value → World → Prop)

def Fact.holds : Fact → Value → World → Prop
  | .any, _, _ => True
  | .val u, v, _ => v = u
  | .blk B cs t, v, w => ∃ g, v = .pointer (some ⟨g, 0, none⟩) ∧ B ≤ g ∧ w.heap[g]? = some (.cells cs.toArray t (0, 0))
  | .is p, v, w => ∃ w0, p v w0 ∧ Chg (fun _ => False) w0 w

theorem Fact.stays (f : Fact) (v : Value) (w w' : World) (hc : Chg (fun _ => False) w w') (h : f.holds v w) : f.holds v w' := by
  cases f with
  | any => trivial
  | val u => exact h
  | blk B cs t => obtain ⟨g, e, hB, hb⟩ := h; exact ⟨g, e, hB, blk_keep hb hc (fun f => f)⟩
  | is p => obtain ⟨w0, e, hp⟩ := h; exact ⟨w0, e, chg_then hp hc⟩

theorem Deps.get {ops : Array Oper} {F : Nat → Value → World → Prop} {u : Nat → Value} {w : World} : ∀ {es : List Edge}, Deps ops F u w es → ∀ i, (es.any fun e => e.on == i && Region.binds .any e) = true → F (slotOf ops i) (u (slotOf ops i)) w
  | [], _, i, h => by cases h
  | e :: es, hd, i, h => by
    rw [List.any_cons, Bool.or_eq_true] at h
    rcases h with h | h
    · simp only [Bool.and_eq_true, beq_iff_eq] at h
      obtain ⟨rfl, h⟩ := h
      exact hd.1 h
    · exact Deps.get hd.2 i h

theorem Alls.at {F : Nat → Value → World → Prop} {u : Nat → Value} {w : World} : ∀ {l : List Oper}, Alls F u w l → ∀ t, (l.any fun o => o.dst.getD 0 == t) = true → F t (u t) w
  | [], _, t, h => by cases h
  | o :: l, hd, t, h => by
    rw [List.any_cons, Bool.or_eq_true] at h
    rcases h with h | h
    · simp only [beq_iff_eq] at h
      subst h
      exact hd.1
    · exact Alls.at hd.2 t h

/-- Facts by a list of slots. -/
def look (l : List (Nat × Fact)) (t : Nat) : Fact := (l.lookup t).getD .any

end Go.Proofs.Ytibgjpifmpljkaa

/- The contracts of a row's calls: Len, has, At, Turn, Reset, New; of no statement by themselves. -/
namespace Go.Proofs.Ytibgjpifmpljkaa
open Go.RowKit
set_option linter.unusedVariables false

theorem cell00 {w : World} {a : Nat} {x : Value} {t : TypeId} (h : w.heap[a]? = some (.cells #[x] t (0, 0))) : w.cell? ⟨a, 0, none⟩ = some x := by simp [World.cell?, h]

theorem len_any (B a : Nat) (v : Value) (xs : List Int) (w : World) (h : St w B a v xs) : Calls Try.prog 16 #[.pointer (some ⟨a, 0, none⟩)] w fun e w' => e = .returned (.int .i64 (xs.length : Int)) ∧ w = w' := by
  obtain ⟨ad, cap, rfl, _⟩ := own_any h.own
  have hc := cell00 h.blk
  generalize xs.length = n at *
  clear h
  go_enter Try.func16, Try.ntmps16
  go_wp2
  go_ret
  exact ⟨rfl, rfl⟩

theorem has_in (B a : Nat) (v : Value) (xs : List Int) (j : Nat) (w : World) (h : St w B a v xs) (hj : j < xs.length) : Calls Try.prog 44 #[.pointer (some ⟨a, 0, none⟩), .int .i64 j] w fun e w' => e = .returned (.bool true) ∧ w = w' := by
  obtain ⟨ad, cap, rfl, _⟩ := own_any h.own
  have hc := cell00 h.blk
  generalize xs.length = n at *
  clear h
  go_enter Try.func44, Try.ntmps44
  go_wp2
  go_ret
  exact ⟨rfl, rfl⟩

theorem has_out (B a : Nat) (v : Value) (xs : List Int) (i : Int) (w : World) (h : St w B a v xs) (hi : i < 0 ∨ (xs.length : Int) ≤ i) : Calls Try.prog 44 #[.pointer (some ⟨a, 0, none⟩), .int .i64 i] w fun e w' => e = .returned (.bool false) ∧ w = w' := by
  obtain ⟨ad, cap, rfl, _⟩ := own_any h.own
  have hc := cell00 h.blk
  generalize xs.length = n at *
  clear h
  by_cases h0 : i < 0
  · have hd : decide (0 ≤ i) = false := by simp; omega
    go_enter Try.func44, Try.ntmps44
    go_wp2
    go_ret
    exact ⟨rfl, rfl⟩
  · have h1 : 0 ≤ i := by omega
    have h2 : (n : Int) ≤ i := by omega
    have hd : decide (i < (n : Int)) = false := by simp; omega
    clear hi h0
    go_enter Try.func44, Try.ntmps44
    go_wp2
    go_ret
    exact ⟨rfl, rfl⟩

theorem at_out (B a : Nat) (v : Value) (xs : List Int) (i : Int) (w : World) (h : St w B a v xs) (hi : i < 0 ∨ (xs.length : Int) ≤ i) : Calls Try.prog 19 #[.pointer (some ⟨a, 0, none⟩), .int .i64 i] w fun e w' => e = .returned (.tuple #[.int .i64 0, .int .i64 7]) ∧ w = w' := by
  go_enter Try.func19, Try.ntmps19
  go_wp2_with fail
  refine (has_out B a v xs i _ h hi).mono ?_
  rintro e w1 ⟨rfl, rfl⟩
  go_wp2
  go_ret2
  exact ⟨rfl, rfl⟩

theorem turn_out (B a : Nat) (v : Value) (xs : List Int) (i : Int) (b : Value) (w : World) (h : St w B a v xs) (hi : i < 0 ∨ (xs.length : Int) ≤ i) : Calls Try.prog 15 #[.pointer (some ⟨a, 0, none⟩), .int .i64 i, b] w fun e w' => e = .returned (.int .i64 7) ∧ w = w' := by
  go_enter Try.func15, Try.ntmps15
  go_wp2_with fail
  refine (has_out B a v xs i _ h hi).mono ?_
  rintro e w1 ⟨rfl, rfl⟩
  go_wp2
  go_ret
  exact ⟨rfl, rfl⟩

theorem at_in (B a : Nat) (v : Value) (xs : List Int) (j : Nat) (w : World) (h : St w B a v xs) (hI : In xs) (hj : j < xs.length) : Calls Try.prog 19 #[.pointer (some ⟨a, 0, none⟩), .int .i64 j] w fun e w' => e = .returned (.tuple #[.int .i64 xs[j], .int .i64 0]) ∧ w = w' := by
  obtain ⟨g, cap, rfl, hnc, _, _, _, _, hcell⟩ := own_some h.own (by omega)
  have hc := cell00 h.blk
  have hx := hcell j _ (ins_at .u16 xs j hj)
  have hI1 := (hI.at j hj).1
  have hI2 := (hI.at j hj).2
  have HH : Hid (∀ w2, w2 = w → Calls Try.prog 44 #[.pointer (some ⟨a, 0, none⟩), .int .i64 j] w2 fun e w' => e = .returned (.bool true) ∧ w2 = w') := fun w2 e => by subst e; exact has_in B a _ xs j w2 h hj
  clear h hcell hI
  generalize xs[j] = p at *
  generalize xs.length = n at *
  go_enter Try.func19, Try.ntmps19
  go_wp2_with fail
  refine (HH.out _ rfl).mono ?_
  rintro e w1 ⟨rfl, rfl⟩
  go_wp2
  go_ret2
  exact ⟨rfl, rfl⟩

theorem wrap_i64 {p : Int} (h : 0 ≤ p) (h2 : p ≤ 2047) : IntKind.i64.wrap p = p := by simp [IntKind.wrap, IntKind.signed, IntKind.bits]; omega
theorem wrap_u16 {p : Int} (h : 0 ≤ p) (h2 : p ≤ 2047) : IntKind.u16.wrap p = p := by simp [IntKind.wrap, IntKind.signed, IntKind.bits]; omega

set_option maxHeartbeats 1000000 in
set_option maxRecDepth 100000 in
theorem turn_in (B a : Nat) (v : Value) (xs : List Int) (j : Nat) (b : Int) (w0 : World) (h : St w0 B a v xs) (hI : In xs) (hj : j < xs.length) : Calls Try.prog 15 #[.pointer (some ⟨a, 0, none⟩), .int .i64 j, .int .i64 b] w0 fun e w' => e = .returned (.int .i64 0) ∧ St w' B a v (xs.set j (Prob.nx xs[j] b)) ∧ Chg (fun k => v.ownBlock = some k) w0 w' := by
  obtain ⟨g, cap, rfl, hnc, _, hg, _, hfz, hcell⟩ := own_some h.own (by omega)
  have hca := cell00 h.blk
  have hx := hcell j _ (ins_at .u16 xs j hj)
  have hz := hfz j
  have hI1 := (hI.at j hj).1
  have hI2 := (hI.at j hj).2
  have hn1 := (Prob.nx_in xs[j] b).1
  have hn2 := (Prob.nx_in xs[j] b).2
  have HH : Hid (∀ w2, w2 = w0 → Calls Try.prog 44 #[.pointer (some ⟨a, 0, none⟩), .int .i64 j] w2 fun e w' => e = .returned (.bool true) ∧ w2 = w') := fun w2 e => by subst e; exact has_in B a _ xs j w2 h hj
  have HX : Hid (∀ w2, Calls Try.prog 45 #[.int .i64 xs[j], .int .i64 b] w2 fun e w' => e = .returned (.int .i64 (Prob.nx xs[j] b)) ∧ w2 = w') := fun w2 => next_any _ _ _ ⟨by omega, by omega⟩
  have HF : Hid (∀ w2, Chg (fun _ => False) w0 w2 → w2.frozen? ⟨g, j, none⟩ = false) := fun w2 c0 => by
    obtain ⟨cur, hcur⟩ := owns_blk h.own (g := g) rfl
    simp [World.frozen?, blk_keep hcur c0 (fun f => f)]
  have HE : Hid (∀ w2 : World, Chg (fun _ => False) w0 w2 → St (w2.setCell ⟨g, j, none⟩ (.int .u16 (Prob.nx xs[j] b))) B a (Value.slice (some ⟨g, 0, none⟩) xs.length cap) (xs.set j (Prob.nx xs[j] b)) ∧ Chg (fun k => (Value.slice (some ⟨g, 0, none⟩) xs.length cap).ownBlock = some k) w0 (w2.setCell ⟨g, j, none⟩ (.int .u16 (Prob.nx xs[j] b)))) := by
    intro w2 c0
    have h2 := h.new c0
    have c1 : Chg (fun k => k = g) w2 (w2.setCell ⟨g, j, none⟩ (.int .u16 (Prob.nx xs[j] b))) := (Chg.refl (fun k => k = g) w2).setCell (p := ⟨g, j, none⟩) (.inl rfl) _
    refine ⟨⟨h2.ha, blk_keep h2.blk c1 (fun e => ?_), ?_⟩, ?_⟩
    · obtain ⟨cur, hcur⟩ := owns_blk h2.own (g := g) rfl
      rw [e] at h2
      exact ty_ne hcur h2.blk (by decide)
    · have := own_set h2.own j (.int .u16 (Prob.nx xs[j] b)) hj
      rw [ins_set] at this
      rw [List.length_set]
      exact this
    · exact (c0.mono (T := fun k => (Value.slice (some ⟨g, 0, none⟩) xs.length cap).ownBlock = some k) (fun _ f => f.elim)).trans c1 (fun i e => .inl (by subst e; rfl))
  clear h hcell hI hfz
  generalize Prob.nx xs[j] b = q at *
  generalize xs[j] = p at *
  generalize xs.length = n at *
  have HW1 : Hid (IntKind.i64.wrap p = p) := wrap_i64 hI1 hI2
  have HW2 : Hid (IntKind.u16.wrap q = q) := wrap_u16 hn1 hn2
  go_enter Try.func15, Try.ntmps15
  go_wp2_with fail
  refine (HH.out _ rfl).mono ?_
  rintro e w1 ⟨rfl, rfl⟩
  go_wp2_with fail
  refine wp_region_last (mk := fun u => #[_, _, _, _, _, _, _, _, _, _, _, u 11, u 12, u 13, u 14, u 15, u 16, u 17, u 18, u 19, u 20, u 21, u 22, u 23, u 24, u 25, u 26, u 27]) (F := fun slot vv ww => (look [(11, .val (.pointer (some ⟨a, 0, none⟩))), (12, .val (.pointer (some ⟨a, 0, none⟩))), (13, .val (.pointer (some ⟨a, 0, none⟩))), (14, .val (.slice (some ⟨g, 0, none⟩) n cap)), (15, .val (.int .i64 (j : Int))), (16, .val (.pointer (some ⟨a, 0, none⟩))), (17, .val (.pointer (some ⟨a, 0, none⟩))), (18, .val (.pointer (some ⟨a, 0, none⟩))), (19, .val (.slice (some ⟨g, 0, none⟩) n cap)), (20, .val (.int .i64 (j : Int))), (21, .val (.pointer (some ⟨g, j, none⟩))), (22, .val (.int .u16 p)), (23, .val (.int .i64 p)), (24, .val (.int .i64 b)), (25, .val (.int .i64 q)), (26, .val (.int .u16 q)), (27, .val (.pointer (some ⟨g, j, none⟩)))] slot).holds vv ww) (fun _ => undef) rfl (by kernel_rfl) 17 _ rfl rfl (by kernel_rfl) ?_ (fun _ v w w' hc h => Fact.stays _ v w w' hc h) ?_ ?_
  · repeat (refine ⟨⟨_, rfl, fun _ _ => rfl⟩, ?_⟩)
    exact trivial
  · refine ⟨?_, ?_, ?_, ?_, ?_, ?_, ?_, ?_, ?_, ?_, ?_, ?_, ?_, ?_, ?_, ?_, ?_, trivial⟩
    · intro u w hc hd K hK -- 11
      clear hd
      go_simp
      exact hK.out (.pointer (some ⟨a, 0, none⟩)) w (Chg.refl _ _) rfl
    · intro u w hc hd K hK -- 12
      have h11 : (Fact.val (.pointer (some ⟨a, 0, none⟩))).holds (u 11) w := hd.get 0 (by kernel_rfl)
      simp only [Fact.holds] at h11
      clear hd
      simp only [h11] at hK
      go_simp
      exact hK.out (.pointer (some ⟨a, 0, none⟩)) w (Chg.refl _ _) rfl
    · intro u w hc hd K hK -- 13
      have h12 : (Fact.val (.pointer (some ⟨a, 0, none⟩))).holds (u 12) w := hd.get 1 (by kernel_rfl)
      simp only [Fact.holds] at h12
      clear hd
      simp only [h12] at hK
      go_simp
      exact hK.out (.pointer (some ⟨a, 0, none⟩)) w (Chg.refl _ _) rfl
    · intro u w hc hd K hK -- 14
      have h13 : (Fact.val (.pointer (some ⟨a, 0, none⟩))).holds (u 13) w := hd.get 2 (by kernel_rfl)
      simp only [Fact.holds] at h13
      clear hd
      simp only [h13] at hK
      have hcell := cell_chg hca hc
      go_simp
      exact hK.out _ _ (Chg.refl _ _) rfl
    · intro u w hc hd K hK -- 15
      clear hd
      go_simp
      exact hK.out (.int .i64 (j : Int)) w (Chg.refl _ _) rfl
    · intro u w hc hd K hK -- 16
      clear hd
      go_simp
      exact hK.out (.pointer (some ⟨a, 0, none⟩)) w (Chg.refl _ _) rfl
    · intro u w hc hd K hK -- 17
      have h16 : (Fact.val (.pointer (some ⟨a, 0, none⟩))).holds (u 16) w := hd.get 5 (by kernel_rfl)
      simp only [Fact.holds] at h16
      clear hd
      simp only [h16] at hK
      go_simp
      exact hK.out (.pointer (some ⟨a, 0, none⟩)) w (Chg.refl _ _) rfl
    · intro u w hc hd K hK -- 18
      have h17 : (Fact.val (.pointer (some ⟨a, 0, none⟩))).holds (u 17) w := hd.get 6 (by kernel_rfl)
      simp only [Fact.holds] at h17
      clear hd
      simp only [h17] at hK
      go_simp
      exact hK.out (.pointer (some ⟨a, 0, none⟩)) w (Chg.refl _ _) rfl
    · intro u w hc hd K hK -- 19
      have h18 : (Fact.val (.pointer (some ⟨a, 0, none⟩))).holds (u 18) w := hd.get 7 (by kernel_rfl)
      simp only [Fact.holds] at h18
      clear hd
      simp only [h18] at hK
      have hcell := cell_chg hca hc
      go_simp
      exact hK.out _ _ (Chg.refl _ _) rfl
    · intro u w hc hd K hK -- 20
      clear hd
      go_simp
      exact hK.out (.int .i64 (j : Int)) w (Chg.refl _ _) rfl
    · intro u w hc hd K hK -- 21
      have h19 : (Fact.val (.slice (some ⟨g, 0, none⟩) n cap)).holds (u 19) w := hd.get 8 (by kernel_rfl)
      simp only [Fact.holds] at h19
      have h20 : (Fact.val (.int .i64 (j : Int))).holds (u 20) w := hd.get 9 (by kernel_rfl)
      simp only [Fact.holds] at h20
      clear hd
      simp only [h19, h20] at hK
      go_simp
      exact hK.out (.pointer (some ⟨g, j, none⟩)) w (Chg.refl _ _) rfl
    · intro u w hc hd K hK -- 22
      have h21 : (Fact.val (.pointer (some ⟨g, j, none⟩))).holds (u 21) w := hd.get 10 (by kernel_rfl)
      simp only [Fact.holds] at h21
      clear hd
      simp only [h21] at hK
      have hcell := cell_chg hx hc
      go_simp
      exact hK.out _ _ (Chg.refl _ _) rfl
    · intro u w hc hd K hK -- 23
      have h22 : (Fact.val (.int .u16 p)).holds (u 22) w := hd.get 11 (by kernel_rfl)
      simp only [Fact.holds] at h22
      clear hd
      simp only [h22] at hK
      go_simp
      rw [HW1.out]
      exact hK.out (.int .i64 p) w (Chg.refl _ _) rfl
    · intro u w hc hd K hK -- 24
      clear hd
      go_simp
      exact hK.out (.int .i64 b) w (Chg.refl _ _) rfl
    · intro u w hc hd K hK -- 25
      have h23 : (Fact.val (.int .i64 p)).holds (u 23) w := hd.get 12 (by kernel_rfl)
      simp only [Fact.holds] at h23
      have h24 : (Fact.val (.int .i64 b)).holds (u 24) w := hd.get 13 (by kernel_rfl)
      simp only [Fact.holds] at h24
      clear hd
      simp only [h23, h24] at hK
      go_simp
      go_at_call 45
      refine (HX.out w).mono ?_
      rintro e w2 ⟨rfl, rfl⟩
      exact hK.out _ _ (Chg.refl _ _) rfl
    · intro u w hc hd K hK -- 26
      have h25 : (Fact.val (.int .i64 q)).holds (u 25) w := hd.get 14 (by kernel_rfl)
      simp only [Fact.holds] at h25
      clear hd
      simp only [h25] at hK
      go_simp
      rw [HW2.out]
      exact hK.out (.int .u16 q) w (Chg.refl _ _) rfl
    · intro u w hc hd K hK -- 27
      have h14 : (Fact.val (.slice (some ⟨g, 0, none⟩) n cap)).holds (u 14) w := hd.get 3 (by kernel_rfl)
      simp only [Fact.holds] at h14
      have h15 : (Fact.val (.int .i64 (j : Int))).holds (u 15) w := hd.get 4 (by kernel_rfl)
      simp only [Fact.holds] at h15
      clear hd
      simp only [h14, h15] at hK
      go_simp
      exact hK.out (.pointer (some ⟨g, j, none⟩)) w (Chg.refl _ _) rfl
  · intro u w hc hA K hK
    have a26 := hA.at 26 (by kernel_rfl)
    have a27 := hA.at 27 (by kernel_rfl)
    clear hA
    have e26 : u 26 = .int .u16 q := a26
    have e27 : u 27 = .pointer (some ⟨g, j, none⟩) := a27
    have hx2 := cell_chg hx hc
    have hz2 := HF.out w hc
    have HE2 : Hid (St (w.setCell ⟨g, j, none⟩ (.int .u16 q)) B a (Value.slice (some ⟨g, 0, none⟩) n cap) (xs.set j q) ∧ Chg (fun k => (Value.slice (some ⟨g, 0, none⟩) n cap).ownBlock = some k) w0 (w.setCell ⟨g, j, none⟩ (.int .u16 q))) := HE.out w hc
    go_simp
    refine hK.out _ _ ?_
    go_simp
    go_wp2
    go_ret
    exact ⟨rfl, HE2.out.1, HE2.out.2⟩
end Go.Proofs.Ytibgjpifmpljkaa

/- The contracts of Reset and New; of no statement by themselves. -/
namespace Go.Proofs.Ytibgjpifmpljkaa
open Go.RowKit
set_option linter.unusedVariables false

/-- The first k are 1024. -/
def half (k : Nat) (xs : List Int) : List Int := List.replicate k 1024 ++ xs.drop k
theorem half_len {k : Nat} {xs : List Int} (h : k ≤ xs.length) : (half k xs).length = xs.length := by simp [half]; omega
theorem half_set {k : Nat} {xs : List Int} (h : k < xs.length) : (half k xs).set k 1024 = half (k + 1) xs := by
  unfold half
  rw [List.set_append_right _ _ (by simp), List.length_replicate, Nat.sub_self, List.drop_eq_getElem_cons h, List.set_cons_zero, List.replicate_succ', List.append_assoc]
  rfl
theorem half_all (xs : List Int) : half xs.length xs = List.replicate xs.length 1024 := by simp [half]

/-- A cell that can be written. -/
def w_cf (w : World) (g k : Nat) : Prop := (∃ z, w.cell? ⟨g, k, none⟩ = some z) ∧ w.frozen? ⟨g, k, none⟩ = false

/-- One cell of the program's row is written. -/
theorem St.put {w : World} {B a g cap : Nat} {xs : List Int} (h : St w B a (.slice (some ⟨g, 0, none⟩) xs.length cap) xs) (j : Nat) (q : Int) (hj : j < xs.length) :
    St (w.setCell ⟨g, j, none⟩ (.int .u16 q)) B a (.slice (some ⟨g, 0, none⟩) xs.length cap) (xs.set j q) ∧ Chg (fun k => (Value.slice (some ⟨g, 0, none⟩) xs.length cap).ownBlock = some k) w (w.setCell ⟨g, j, none⟩ (.int .u16 q)) := by
  have c1 : Chg (fun k => k = g) w (w.setCell ⟨g, j, none⟩ (.int .u16 q)) := (Chg.refl (fun k => k = g) w).setCell (p := ⟨g, j, none⟩) (.inl rfl) _
  refine ⟨⟨h.ha, blk_keep h.blk c1 (fun e => ?_), ?_⟩, ?_⟩
  · obtain ⟨cur, hcur⟩ := owns_blk h.own (g := g) rfl
    rw [e] at h
    exact ty_ne hcur h.blk (by decide)
  · have := own_set h.own j (.int .u16 q) hj
    rw [ins_set] at this
    rw [List.length_set]
    exact this
  · exact c1.mono (fun i e => .inl (by subst e; rfl))

set_option maxHeartbeats 1000000 in
set_option maxRecDepth 100000 in
theorem reset_any (B a : Nat) (v : Value) (xs : List Int) (w0 : World) (h : St w0 B a v xs) (hn : xs.length ≤ 1048576) : Calls Try.prog 36 #[.pointer (some ⟨a, 0, none⟩)] w0 fun e w' => e = .returned (.tuple #[]) ∧ St w' B a v (List.replicate xs.length 1024) ∧ Chg (fun k => v.ownBlock = some k) w0 w' := by
  by_cases h0 : xs.length = 0
  · have hx : xs = [] := List.eq_nil_of_length_eq_zero h0
    subst hx
    have HH : Hid (St w0 B a v []) := h
    obtain ⟨ad, cap, rfl, _⟩ := own_any h.own
    have hca := cell00 h.blk
    clear h
    go_enter Try.func36, Try.ntmps36
    go_wp2_with fail
    refine wp_loop_rounds 1 ?_
    rw [rounds_succ]
    go_wp2
    go_end0
    exact ⟨rfl, HH.out, Chg.refl _ _⟩
  · obtain ⟨g, cap, rfl, hnc, _, hg, _, hfz, hcell⟩ := own_some h.own (by omega)
    have HA : Hid (half xs.length xs = List.replicate xs.length 1024) := half_all xs
    have HS : Hid (∀ k, k < xs.length → (half k xs).set k 1024 = half (k + 1) xs) := fun k hk => half_set hk
    have HL : Hid (∀ k, k ≤ xs.length → (half k xs).length = xs.length) := fun k hk => half_len hk
    have hca := cell00 h.blk
    have h0s : St w0 B a (.slice (some ⟨g, 0, none⟩) xs.length cap) (half 0 xs) := h
    clear hcell h hfz
    generalize xs.length = n at *
    go_enter Try.func36, Try.ntmps36
    go_wp2_with fail
    go_loopw [8] (fun i wr => ∃ k : Nat, k ≤ n ∧ i = .int .i64 k ∧ St wr B a (.slice (some ⟨g, 0, none⟩) n cap) (half k xs) ∧ Chg (fun k => (Value.slice (some ⟨g, 0, none⟩) n cap).ownBlock = some k) w0 wr) (fun i _ => n - (intOf i).toNat)
    case atStart => exact ⟨0, Nat.zero_le _, rfl, h0s, Chg.refl _ _⟩
    case round =>
      clear h0s hca
      obtain ⟨k, hk, rfl, ho, hc⟩ := hrel
      have hl := HL.out k hk
      have hca := cell00 ho.blk
      have HO : Hid (St wr B a (.slice (some ⟨g, 0, none⟩) n cap) (half k xs)) := ho
      by_cases hlt : k < n
      · have hcf : w_cf wr g k := by
          have hown := ho.own
          rw [hl] at hown
          obtain ⟨g2, cap2, e, _, _, _, _, hfz, hcell⟩ := own_some hown (by omega)
          simp only [Value.slice.injEq, Option.some.injEq, Addr.mk.injEq, true_and, and_true] at e
          obtain ⟨rfl, _⟩ := e
          exact ⟨⟨_, hcell k _ (ins_at .u16 (half k xs) k (by omega))⟩, hfz k⟩
        obtain ⟨⟨z, ck⟩, fk⟩ := hcf
        have R : Hid (St (wr.setCell ⟨g, k, none⟩ (.int .u16 1024)) B a (.slice (some ⟨g, 0, none⟩) n cap) (half (k + 1) xs) ∧ Chg (fun k => (Value.slice (some ⟨g, 0, none⟩) n cap).ownBlock = some k) w0 (wr.setCell ⟨g, k, none⟩ (.int .u16 1024))) := by
          have h1 := HO.out
          rw [← hl] at h1
          obtain ⟨h2, c2⟩ := h1.put k 1024 (by omega)
          rw [HS.out k hlt, hl] at h2
          rw [hl] at c2
          exact ⟨h2, hc.trans c2 (fun i e => .inl e)⟩
        clear ho hc HO hl
        go_wp2
        go_roundw
        case rel => exact ⟨k + 1, by omega, by go_num, R.out.1, R.out.2⟩
        case measure => simp [intOf]; omega
      · obtain rfl : k = n := by omega
        rw [HA.out] at ho
        clear HO
        go_wp2
        go_end0
        exact ⟨rfl, ho, hc⟩

theorem infoU16 : (Try.prog.info? 81).map (fun i => (i.zero, i.size, i.bytes)) = some (some (.int .u16 0), 1, 2) := by kernel_rfl

theorem new_out (i : Int) (w : World) (hi : i < 0 ∨ 1048576 < i) : Calls Try.prog 9 #[.int .i64 i] w fun e w' => e = .returned (.tuple #[.pointer none, .int .i64 7]) ∧ w = w' := by
  by_cases h0 : i < 0
  · go_enter Try.func9, Try.ntmps9
    go_wp2
    go_ret2
    exact ⟨rfl, rfl⟩
  · have h1 : 1048576 < i := by omega
    have hd : decide (i < 0) = false := by simp; omega
    clear hi h0
    go_enter Try.func9, Try.ntmps9
    go_wp2
    go_ret2
    exact ⟨rfl, rfl⟩

set_option maxHeartbeats 1000000 in
set_option maxRecDepth 100000 in
theorem new_in (n : Nat) (w : World) (hn : n ≤ 1048576) : Calls Try.prog 9 #[.int .i64 n] w fun e w' => ∃ a v, e = .returned (.tuple #[.pointer (some ⟨a, 0, none⟩), .int .i64 0]) ∧ w.heap.size ≤ a ∧ St w' w.heap.size a v (List.replicate n 1024) ∧ Chg (fun _ => False) w w' := by
  obtain ⟨i0, hi, hz0, hz1, hz2⟩ := info_parts infoU16
  have hd : decide ((n : Int) < 0) = false := by simp
  have hd2 : decide (1048576 < (n : Int)) = false := by simp; omega
  go_enter Try.func9, Try.ntmps9
  go_wp2_with (at_make; refine wpList_make_full _ rfl (.tmp 11) (.tmp 11) 68 rfl w.heap.size 81 i0 (.int .u16 0) 1 Try.underlying68 hi hz0 hz1 .i64 .i64 _ _ n rfl rfl rfl rfl (by rw [hz2]; omega) (by unfold maxLen; omega) (Nat.le_refl _) ?_)
  intro w1 ho hg
  have c1 : Chg (fun _ => False) w w1 := (Chg.refl _ w).grown hg (fun k e => by cases e)
  have c2 := chg_then c1 (chg_one w1 (.cells #[.slice (some ⟨w.heap.size, 0, none⟩) n n] 70))
  have HS : Hid (St (w1.alloc (.cells #[.slice (some ⟨w.heap.size, 0, none⟩) n n] 70)) w.heap.size w1.heap.size (.slice (some ⟨w.heap.size, 0, none⟩) n n) (List.replicate n 0)) := by
    refine ⟨c1.size, heap_alloc_last w1 _, ?_⟩
    have h2 := ho.alloc (.cells #[.slice (some ⟨w.heap.size, 0, none⟩) n n] 70)
    rw [toList_madeCells_one] at h2
    simpa [ins] using h2
  have hs1 := c1.size
  clear ho hg c1
  go_wp2_with fail
  have hl : (List.replicate n (0 : Int)).length = n := by simp
  refine (reset_any w.heap.size w1.heap.size _ (List.replicate n 0) _ HS.out (by omega)).mono ?_
  rintro e w3 ⟨rfl, h3, c3⟩
  rw [hl] at h3
  have HC : Hid (Chg (fun _ => False) w w3) := c2.trans c3 (fun i e => .inr (by simp only [Value.ownBlock, Option.some.injEq] at e; omega))
  have H3 : Hid (St w3 w.heap.size w1.heap.size (.slice (some ⟨w.heap.size, 0, none⟩) n n) (List.replicate n 1024)) := h3
  clear h3 c3 c2 HS
  go_wp2
  go_ret2
  exact ⟨_, _, rfl, hs1, H3.out, HC.out⟩
end Go.Proofs.Ytibgjpifmpljkaa

/- The contracts of the document's own answer: bound, Next, Bound, cost, Cost; of no statement by themselves. -/
namespace Go.Proofs.Ytibgjpifmpljkaa
open Go.RowKit
set_option linter.unusedVariables false

theorem rbound_any (p : Int) (w : World) (hp : I64 p) : Calls Try.prog 97 #[.int .i64 p] w fun e w' => e = .returned (.int .i64 (Prob.cl p)) ∧ w = w' := by
  have h1 := hp.1
  have h2 := hp.2
  go_enter Try.func97, Try.ntmps97
  go_wp2
  all_goals
    go_ret
    refine ⟨?_, rfl⟩
    unfold Prob.cl
    congr 2
    repeat' split
    all_goals first | rfl | omega

theorem rnext_any (p b : Int) (w : World) (hp : I64 p) : Calls Try.prog 98 #[.int .i64 p, .int .i64 b] w fun e w' => e = .returned (.int .i64 (Prob.nx p b)) ∧ w = w' := by
  have l := Prob.cl_lo p
  have r := Prob.cl_hi p
  have HN : Hid (Prob.nx p b = if b = 0 then Prob.cl p + (2048 - Prob.cl p) / 32 else Prob.cl p - Prob.cl p / 32) := rfl
  go_enter Try.func98, Try.ntmps98
  go_wp2_with fail
  refine (rbound_any p _ hp).mono ?_
  rintro e w1 ⟨rfl, rfl⟩
  generalize Prob.cl p = q at *
  by_cases hb : b = 0
  · go_wp2
    go_ret
    exact ⟨by rw [HN.out, if_pos hb]; rfl, rfl⟩
  · go_wp2
    go_ret
    exact ⟨by rw [HN.out, if_neg hb]; rfl, rfl⟩

theorem rBound_any (r p : Int) (w : World) (hr : U32 r) (hp : I64 p) : Calls Try.prog 85 #[.int .u32 r, .int .i64 p] w fun e w' => e = .returned (.int .u32 (Prob.bo r p)) ∧ w = w' := by
  have l := Prob.cl_lo p
  have h := Prob.cl_hi p
  have h1 := hr.1
  have h2 := hr.2
  have HN : Hid (Prob.bo r p = r / 2048 * Prob.cl p) := rfl
  have b1 := (Prob.bo_in r p h1).1
  have b2 := (Prob.bo_in r p h1).2
  rw [HN.out] at b1 b2
  go_enter Try.func85, Try.ntmps85
  go_wp2_with fail
  refine (rbound_any p _ hp).mono ?_
  rintro e w1 ⟨rfl, rfl⟩
  generalize Prob.cl p = q at *
  generalize hm : r / 2048 * q = m at *
  go_wp2
  go_ret
  exact ⟨by rw [HN.out]; rfl, rfl⟩

set_option maxHeartbeats 1000000 in
theorem rcost_any (p : Int) (w : World) (h0 : 0 ≤ p) (h1 : p ≤ 2047) : Calls Try.prog 99 #[.int .i64 p] w fun e w' => e = .returned (.int .i64 (Prob.cost p)) ∧ w = w' := by
  obtain ⟨R, hR⟩ : ∃ R, Prob.rest 4 (16 * (p / 16) + 8) 0 = R := ⟨_, rfl⟩
  have HR : Hid (Prob.rest 4 (16 * (p / 16) + 8) 0 = R) := hR
  have HC : Hid (Prob.cost p = 161 - R) := by show _ = _; unfold Prob.cost; rw [hR]
  have hlo : 0 ≤ 16 * (p / 16) + 8 ∧ 16 * (p / 16) + 8 < 65536 := by omega
  clear hR
  go_enter Try.func99, Try.ntmps99
  go_wp2
  go_loop [5, 3, 4] (fun i z c => ∃ (k : Nat) (W C : Int), k ≤ 4 ∧ i = .int .i64 k ∧ z = .int .i64 W ∧ c = .int .i64 C ∧ 0 ≤ W ∧ W < 65536 ∧ 0 ≤ C ∧ C ≤ Prob.cap k ∧ Hid (Prob.rest (4 - k) W C = R)) (fun i _ _ => 4 - (intOf i).toNat)
  case atStart => exact ⟨0, _, 0, by omega, rfl, rfl, rfl, by omega, by omega, by omega, Int.le_refl _, HR.out⟩
  case round =>
    obtain ⟨k, W, C, hk, rfl, rfl, rfl, hW0, hW1, hC0, hC1, HRk⟩ := hrel
    have hcl := Prob.cap_le k (by omega)
    by_cases hlt : k < 4
    · have hS := sq_in hW0 hW1
      have HK : Hid (Prob.cap (k + 1) = 2 * Prob.cap k + 16) := rfl
      have HRn : Hid (Prob.rest (4 - (k + 1)) (Prob.halve 16 (W * W) (2 * C)).1 (Prob.halve 16 (W * W) (2 * C)).2 = R) := by
        have e : 4 - k = 4 - (k + 1) + 1 := by omega
        have h := HRk.out
        rw [e] at h
        exact h
      clear HRk
      have hs1 := hS.1
      have hs2 := hS.2
      clear hS
      generalize Prob.cap k = cp at *
      generalize hS : W * W = SS at *
      go_wp2
      go_loop [3, 4] (fun z c => ∃ (n : Nat) (W2 C2 : Int), n ≤ 16 ∧ z = .int .i64 W2 ∧ c = .int .i64 C2 ∧ 0 ≤ W2 ∧ W2 < Prob.big n ∧ 2 * C ≤ C2 ∧ C2 ≤ 2 * C + 16 - n ∧ Hid (Prob.halve 16 SS (2 * C) = Prob.halve n W2 C2)) (fun z _ => (intOf z).toNat)
      case atStart => exact ⟨16, _, _, by omega, rfl, rfl, hs1, hs2, by omega, by omega, rfl⟩
      case round =>
        obtain ⟨n, W2, C2, hn, rfl, rfl, h20, h21, hc0, hc1, Hh⟩ := hrel
        have hbl := Prob.big_le n (by omega)
        by_cases hge : 65536 ≤ W2
        · cases n with
          | zero => exact absurd h21 (by show ¬ W2 < 65536; omega)
          | succ n =>
            have HB : Hid (Prob.big (n + 1) = 2 * Prob.big n) := rfl
            have HT := Prob.halve_step n W2 C2 hge
            go_wp2
            go_round
            case rel => exact ⟨n, _, _, by omega, rfl, rfl, by omega, by have := HB.out; omega, by omega, by omega, Hh.out.trans HT⟩
            case measure => simp [intOf]; omega
        · have HE := Prob.halve_end n W2 C2 (by omega)
          go_wp2
          go_round
          case rel => exact ⟨k + 1, W2, C2, by omega, by go_num, rfl, rfl, h20, by omega, by omega, by have := HK.out; omega, by show _ = _; rw [← HRn.out, Hh.out, HE]⟩
          case measure => simp [intOf]; omega
    · obtain rfl : k = 4 := by omega
      have HE : C = R := HRk.out
      go_wp2
      go_ret
      exact ⟨by rw [HC.out]; rfl, rfl⟩

theorem rCost_any (p b : Int) (w : World) (hp : I64 p) : Calls Try.prog 89 #[.int .i64 p, .int .i64 b] w fun e w' => e = .returned (.int .i64 (Prob.co p b)) ∧ w = w' := by
  have l := Prob.cl_lo p
  have r := Prob.cl_hi p
  have HN : Hid (Prob.co p b = if b = 0 then Prob.cost (Prob.cl p) else Prob.cost (2047 - Prob.cl p)) := rfl
  go_enter Try.func89, Try.ntmps89
  go_wp2_with fail
  refine (rbound_any p _ hp).mono ?_
  rintro e w1 ⟨rfl, rfl⟩
  generalize Prob.cl p = q at *
  by_cases hb : b = 0
  · go_wp2_with fail
    refine (rcost_any q _ l r).mono ?_
    rintro e w1 ⟨rfl, rfl⟩
    go_wp2
    go_ret
    exact ⟨by rw [HN.out, if_pos hb]; rfl, rfl⟩
  · go_wp2_with fail
    refine (rcost_any (2047 - q) _ (by omega) (by omega)).mono ?_
    rintro e w1 ⟨rfl, rfl⟩
    go_wp2
    go_ret
    exact ⟨by rw [HN.out, if_neg hb]; rfl, rfl⟩

end Go.Proofs.Ytibgjpifmpljkaa

/- The contracts of the document's rows: At, Turn, Reset, New; of no statement by themselves. -/
namespace Go.Proofs.Ytibgjpifmpljkaa
open Go.RowKit
set_option linter.unusedVariables false

/-- One cell of the document's row is written. -/
theorem Rt.put {w : World} {B r g cap : Nat} {m : Int} {xs : List Int} (h : Rt w B r m (.slice (some ⟨g, 0, none⟩) xs.length cap) xs) (j : Nat) (q : Int) (hj : j < xs.length) :
    Rt (w.setCell ⟨g, j, none⟩ (.int .i64 q)) B r m (.slice (some ⟨g, 0, none⟩) xs.length cap) (xs.set j q) ∧ Chg (fun k => (Value.slice (some ⟨g, 0, none⟩) xs.length cap).ownBlock = some k) w (w.setCell ⟨g, j, none⟩ (.int .i64 q)) := by
  have c1 : Chg (fun k => k = g) w (w.setCell ⟨g, j, none⟩ (.int .i64 q)) := (Chg.refl (fun k => k = g) w).setCell (p := ⟨g, j, none⟩) (.inl rfl) _
  refine ⟨⟨h.hr, blk_keep h.blk c1 (fun e => ?_), ?_⟩, ?_⟩
  · obtain ⟨cur, hcur⟩ := owns_blk h.own (g := g) rfl
    rw [e] at h
    exact ty_ne hcur h.blk (by decide)
  · have := own_set h.own j (.int .i64 q) hj
    rw [ins_set] at this
    rw [List.length_set]
    exact this
  · exact c1.mono (fun i e => .inl (by subst e; rfl))

theorem rat_out (B r : Nat) (m : Int) (v : Value) (xs : List Int) (i : Int) (w : World) (h : Rt w B r m v xs) (hi : i < 0 ∨ (xs.length : Int) ≤ i) : Calls Try.prog 83 #[.pointer (some ⟨r, 0, none⟩), .int .i64 i] w fun e w' => e = .returned (.tuple #[.int .i64 0, .int .i64 7]) ∧ w = w' := by
  obtain ⟨ad, cap, rfl, _⟩ := own_any h.own
  have hc := cell1 h.blk
  generalize xs.length = n at *
  clear h
  by_cases h0 : i < 0
  · go_enter Try.func83, Try.ntmps83
    go_wp2
    go_ret2
    exact ⟨rfl, rfl⟩
  · have h2 : (n : Int) ≤ i := by omega
    have hd : decide (i < 0) = false := by simp; omega
    clear hi h0
    go_enter Try.func83, Try.ntmps83
    go_wp2
    go_ret2
    exact ⟨rfl, rfl⟩

theorem rturn_out (B r : Nat) (m : Int) (v : Value) (xs : List Int) (i : Int) (b : Value) (w : World) (h : Rt w B r m v xs) (hi : i < 0 ∨ (xs.length : Int) ≤ i) : Calls Try.prog 86 #[.pointer (some ⟨r, 0, none⟩), .int .i64 i, b] w fun e w' => e = .returned (.int .i64 7) ∧ w = w' := by
  obtain ⟨ad, cap, rfl, _⟩ := own_any h.own
  have hc := cell1 h.blk
  generalize xs.length = n at *
  clear h
  by_cases h0 : i < 0
  · go_enter Try.func86, Try.ntmps86
    go_wp2
    go_ret
    exact ⟨rfl, rfl⟩
  · have h2 : (n : Int) ≤ i := by omega
    have hd : decide (i < 0) = false := by simp; omega
    clear hi h0
    go_enter Try.func86, Try.ntmps86
    go_wp2
    go_ret
    exact ⟨rfl, rfl⟩

theorem rat_in (B r : Nat) (m : Int) (v : Value) (xs : List Int) (j : Nat) (w : World) (h : Rt w B r m v xs) (hj : j < xs.length) : Calls Try.prog 83 #[.pointer (some ⟨r, 0, none⟩), .int .i64 j] w fun e w' => e = .returned (.tuple #[.int .i64 xs[j], .int .i64 0]) ∧ w = w' := by
  obtain ⟨g, cap, rfl, hnc, _, _, _, _, hcell⟩ := own_some h.own (by omega)
  have hc := cell1 h.blk
  have hx := hcell j _ (ins_at .i64 xs j hj)
  have hd : decide ((j : Int) < 0) = false := by simp
  clear h hcell
  generalize xs[j] = p at *
  generalize xs.length = n at *
  go_enter Try.func83, Try.ntmps83
  go_wp2
  go_ret2
  exact ⟨rfl, rfl⟩

set_option maxHeartbeats 1000000 in
set_option maxRecDepth 100000 in
theorem rturn_in (B r : Nat) (m : Int) (v : Value) (xs : List Int) (j : Nat) (b : Int) (w0 : World) (h : Rt w0 B r m v xs) (hI : In xs) (hj : j < xs.length) : Calls Try.prog 86 #[.pointer (some ⟨r, 0, none⟩), .int .i64 j, .int .i64 b] w0 fun e w' => e = .returned (.int .i64 0) ∧ Rt w' B r m v (xs.set j (Prob.nx xs[j] b)) ∧ Chg (fun k => v.ownBlock = some k) w0 w' := by
  obtain ⟨g, cap, rfl, hnc, _, hg, _, hfz, hcell⟩ := own_some h.own (by omega)
  have hca := cell1 h.blk
  have hx := hcell j _ (ins_at .i64 xs j hj)
  have hz := hfz j
  have hI1 := (hI.at j hj).1
  have hI2 := (hI.at j hj).2
  have hn1 := (Prob.nx_in xs[j] b).1
  have hn2 := (Prob.nx_in xs[j] b).2
  have hd : decide ((j : Int) < 0) = false := by simp
  have HX : Hid (∀ w2, Calls Try.prog 98 #[.int .i64 xs[j], .int .i64 b] w2 fun e w' => e = .returned (.int .i64 (Prob.nx xs[j] b)) ∧ w2 = w') := fun w2 => rnext_any _ _ _ ⟨by omega, by omega⟩
  have HF : Hid (∀ w2, Chg (fun _ => False) w0 w2 → w2.frozen? ⟨g, j, none⟩ = false) := fun w2 c0 => by
    obtain ⟨cur, hcur⟩ := owns_blk h.own (g := g) rfl
    simp [World.frozen?, blk_keep hcur c0 (fun f => f)]
  have HE : Hid (∀ w2 : World, Chg (fun _ => False) w0 w2 → Rt (w2.setCell ⟨g, j, none⟩ (.int .i64 (Prob.nx xs[j] b))) B r m (Value.slice (some ⟨g, 0, none⟩) xs.length cap) (xs.set j (Prob.nx xs[j] b)) ∧ Chg (fun k => (Value.slice (some ⟨g, 0, none⟩) xs.length cap).ownBlock = some k) w0 (w2.setCell ⟨g, j, none⟩ (.int .i64 (Prob.nx xs[j] b)))) := by
    intro w2 c0
    have h2 := h.new c0
    have c1 : Chg (fun k => k = g) w2 (w2.setCell ⟨g, j, none⟩ (.int .i64 (Prob.nx xs[j] b))) := (Chg.refl (fun k => k = g) w2).setCell (p := ⟨g, j, none⟩) (.inl rfl) _
    refine ⟨⟨h2.hr, blk_keep h2.blk c1 (fun e => ?_), ?_⟩, ?_⟩
    · obtain ⟨cur, hcur⟩ := owns_blk h2.own (g := g) rfl
      rw [e] at h2
      exact ty_ne hcur h2.blk (by decide)
    · have := own_set h2.own j (.int .i64 (Prob.nx xs[j] b)) hj
      rw [ins_set] at this
      rw [List.length_set]
      exact this
    · exact (c0.mono (T := fun k => (Value.slice (some ⟨g, 0, none⟩) xs.length cap).ownBlock = some k) (fun _ f => f.elim)).trans c1 (fun i e => .inl (by subst e; rfl))
  clear h hcell hI hfz
  generalize Prob.nx xs[j] b = q at *
  generalize xs[j] = p at *
  generalize xs.length = n at *
  have hd2 : decide (n ≤ j) = false := by simp; omega
  go_enter Try.func86, Try.ntmps86
  go_wp2_with fail
  refine wp_region_last (mk := fun u => #[_, _, _, _, _, _, _, _, _, _, _, _, _, _, _, _, _, _, u 18, u 19, u 20, u 21, u 22, u 23, u 24, u 25, u 26, u 27, u 28, u 29, u 30, u 31, u 32]) (F := fun slot vv ww => (look [(18, .val (.pointer (some ⟨r, 0, none⟩))), (19, .val (.pointer (some ⟨r, 0, none⟩))), (20, .val (.pointer (some ⟨r, 1, none⟩))), (21, .val (.slice (some ⟨g, 0, none⟩) n cap)), (22, .val (.int .i64 (j : Int))), (23, .val (.pointer (some ⟨r, 0, none⟩))), (24, .val (.pointer (some ⟨r, 0, none⟩))), (25, .val (.pointer (some ⟨r, 1, none⟩))), (26, .val (.slice (some ⟨g, 0, none⟩) n cap)), (27, .val (.int .i64 (j : Int))), (28, .val (.pointer (some ⟨g, j, none⟩))), (29, .val (.int .i64 p)), (30, .val (.int .i64 b)), (31, .val (.int .i64 q)), (32, .val (.pointer (some ⟨g, j, none⟩)))] slot).holds vv ww) (fun _ => undef) rfl (by kernel_rfl) 15 _ rfl rfl (by kernel_rfl) ?_ (fun _ v w w' hc h => Fact.stays _ v w w' hc h) ?_ ?_
  · repeat (refine ⟨⟨_, rfl, fun _ _ => rfl⟩, ?_⟩)
    exact trivial
  · refine ⟨?_, ?_, ?_, ?_, ?_, ?_, ?_, ?_, ?_, ?_, ?_, ?_, ?_, ?_, ?_, trivial⟩
    · intro u w hc hd K hK -- 18
      clear hd
      go_simp
      exact hK.out (.pointer (some ⟨r, 0, none⟩)) w (Chg.refl _ _) rfl
    · intro u w hc hd K hK -- 19
      have h18 : (Fact.val (.pointer (some ⟨r, 0, none⟩))).holds (u 18) w := hd.get 0 (by kernel_rfl)
      simp only [Fact.holds] at h18
      clear hd
      simp only [h18] at hK
      go_simp
      exact hK.out (.pointer (some ⟨r, 0, none⟩)) w (Chg.refl _ _) rfl
    · intro u w hc hd K hK -- 20
      have h19 : (Fact.val (.pointer (some ⟨r, 0, none⟩))).holds (u 19) w := hd.get 1 (by kernel_rfl)
      simp only [Fact.holds] at h19
      clear hd
      simp only [h19] at hK
      go_simp
      exact hK.out (.pointer (some ⟨r, 1, none⟩)) w (Chg.refl _ _) rfl
    · intro u w hc hd K hK -- 21
      have h20 : (Fact.val (.pointer (some ⟨r, 1, none⟩))).holds (u 20) w := hd.get 2 (by kernel_rfl)
      simp only [Fact.holds] at h20
      clear hd
      simp only [h20] at hK
      have hcell := cell_chg hca hc
      go_simp
      exact hK.out _ _ (Chg.refl _ _) rfl
    · intro u w hc hd K hK -- 22
      clear hd
      go_simp
      exact hK.out (.int .i64 (j : Int)) w (Chg.refl _ _) rfl
    · intro u w hc hd K hK -- 23
      clear hd
      go_simp
      exact hK.out (.pointer (some ⟨r, 0, none⟩)) w (Chg.refl _ _) rfl
    · intro u w hc hd K hK -- 24
      have h23 : (Fact.val (.pointer (some ⟨r, 0, none⟩))).holds (u 23) w := hd.get 5 (by kernel_rfl)
      simp only [Fact.holds] at h23
      clear hd
      simp only [h23] at hK
      go_simp
      exact hK.out (.pointer (some ⟨r, 0, none⟩)) w (Chg.refl _ _) rfl
    · intro u w hc hd K hK -- 25
      have h24 : (Fact.val (.pointer (some ⟨r, 0, none⟩))).holds (u 24) w := hd.get 6 (by kernel_rfl)
      simp only [Fact.holds] at h24
      clear hd
      simp only [h24] at hK
      go_simp
      exact hK.out (.pointer (some ⟨r, 1, none⟩)) w (Chg.refl _ _) rfl
    · intro u w hc hd K hK -- 26
      have h25 : (Fact.val (.pointer (some ⟨r, 1, none⟩))).holds (u 25) w := hd.get 7 (by kernel_rfl)
      simp only [Fact.holds] at h25
      clear hd
      simp only [h25] at hK
      have hcell := cell_chg hca hc
      go_simp
      exact hK.out _ _ (Chg.refl _ _) rfl
    · intro u w hc hd K hK -- 27
      clear hd
      go_simp
      exact hK.out (.int .i64 (j : Int)) w (Chg.refl _ _) rfl
    · intro u w hc hd K hK -- 28
      have h26 : (Fact.val (.slice (some ⟨g, 0, none⟩) n cap)).holds (u 26) w := hd.get 8 (by kernel_rfl)
      simp only [Fact.holds] at h26
      have h27 : (Fact.val (.int .i64 (j : Int))).holds (u 27) w := hd.get 9 (by kernel_rfl)
      simp only [Fact.holds] at h27
      clear hd
      simp only [h26, h27] at hK
      go_simp
      exact hK.out (.pointer (some ⟨g, j, none⟩)) w (Chg.refl _ _) rfl
    · intro u w hc hd K hK -- 29
      have h28 : (Fact.val (.pointer (some ⟨g, j, none⟩))).holds (u 28) w := hd.get 10 (by kernel_rfl)
      simp only [Fact.holds] at h28
      clear hd
      simp only [h28] at hK
      have hcell := cell_chg hx hc
      go_simp
      exact hK.out _ _ (Chg.refl _ _) rfl
    · intro u w hc hd K hK -- 30
      clear hd
      go_simp
      exact hK.out (.int .i64 b) w (Chg.refl _ _) rfl
    · intro u w hc hd K hK -- 31
      have h29 : (Fact.val (.int .i64 p)).holds (u 29) w := hd.get 11 (by kernel_rfl)
      simp only [Fact.holds] at h29
      have h30 : (Fact.val (.int .i64 b)).holds (u 30) w := hd.get 12 (by kernel_rfl)
      simp only [Fact.holds] at h30
      clear hd
      simp only [h29, h30] at hK
      go_simp
      go_at_call 98
      refine (HX.out w).mono ?_
      rintro e w2 ⟨rfl, rfl⟩
      exact hK.out _ _ (Chg.refl _ _) rfl
    · intro u w hc hd K hK -- 32
      have h21 : (Fact.val (.slice (some ⟨g, 0, none⟩) n cap)).holds (u 21) w := hd.get 3 (by kernel_rfl)
      simp only [Fact.holds] at h21
      have h22 : (Fact.val (.int .i64 (j : Int))).holds (u 22) w := hd.get 4 (by kernel_rfl)
      simp only [Fact.holds] at h22
      clear hd
      simp only [h21, h22] at hK
      go_simp
      exact hK.out (.pointer (some ⟨g, j, none⟩)) w (Chg.refl _ _) rfl
  · intro u w hc hA K hK
    have a31 := hA.at 31 (by kernel_rfl)
    have a32 := hA.at 32 (by kernel_rfl)
    clear hA
    have e31 : u 31 = .int .i64 q := a31
    have e32 : u 32 = .pointer (some ⟨g, j, none⟩) := a32
    have hx2 := cell_chg hx hc
    have hz2 := HF.out w hc
    have HE2 : Hid (Rt (w.setCell ⟨g, j, none⟩ (.int .i64 q)) B r m (Value.slice (some ⟨g, 0, none⟩) n cap) (xs.set j q) ∧ Chg (fun k => (Value.slice (some ⟨g, 0, none⟩) n cap).ownBlock = some k) w0 (w.setCell ⟨g, j, none⟩ (.int .i64 q))) := HE.out w hc
    go_simp
    refine hK.out _ _ ?_
    go_simp
    go_wp2
    go_ret
    exact ⟨rfl, HE2.out.1, HE2.out.2⟩
set_option maxHeartbeats 1000000 in
set_option maxRecDepth 100000 in
theorem rreset_any (B r : Nat) (m : Int) (v : Value) (xs : List Int) (w0 : World) (h : Rt w0 B r m v xs) (hn : xs.length ≤ 1048576) : Calls Try.prog 72 #[.pointer (some ⟨r, 0, none⟩)] w0 fun e w' => e = .returned (.tuple #[]) ∧ Rt w' B r m v (List.replicate xs.length 1024) ∧ Chg (fun k => v.ownBlock = some k) w0 w' := by
  by_cases h0 : xs.length = 0
  · have hx : xs = [] := List.eq_nil_of_length_eq_zero h0
    subst hx
    have HH : Hid (Rt w0 B r m v []) := h
    obtain ⟨ad, cap, rfl, _⟩ := own_any h.own
    have hca := cell1 h.blk
    clear h
    go_enter Try.func72, Try.ntmps72
    go_wp2_with fail
    refine wp_loop_rounds 1 ?_
    rw [rounds_succ]
    go_wp2
    go_end0
    exact ⟨rfl, HH.out, Chg.refl _ _⟩
  · obtain ⟨g, cap, rfl, hnc, _, hg, _, hfz, hcell⟩ := own_some h.own (by omega)
    have HA : Hid (half xs.length xs = List.replicate xs.length 1024) := half_all xs
    have HS : Hid (∀ k, k < xs.length → (half k xs).set k 1024 = half (k + 1) xs) := fun k hk => half_set hk
    have HL : Hid (∀ k, k ≤ xs.length → (half k xs).length = xs.length) := fun k hk => half_len hk
    have hca := cell1 h.blk
    have h0s : Rt w0 B r m (.slice (some ⟨g, 0, none⟩) xs.length cap) (half 0 xs) := h
    clear hcell h hfz
    generalize xs.length = n at *
    go_enter Try.func72, Try.ntmps72
    go_wp2_with fail
    go_loopw [2] (fun i wr => ∃ k : Nat, k ≤ n ∧ i = .int .i64 k ∧ Rt wr B r m (.slice (some ⟨g, 0, none⟩) n cap) (half k xs) ∧ Chg (fun k => (Value.slice (some ⟨g, 0, none⟩) n cap).ownBlock = some k) w0 wr) (fun i _ => n - (intOf i).toNat)
    case atStart => exact ⟨0, Nat.zero_le _, rfl, h0s, Chg.refl _ _⟩
    case round =>
      clear h0s hca
      obtain ⟨k, hk, rfl, ho, hc⟩ := hrel
      have hl := HL.out k hk
      have hca := cell1 ho.blk
      have HO : Hid (Rt wr B r m (.slice (some ⟨g, 0, none⟩) n cap) (half k xs)) := ho
      by_cases hlt : k < n
      · have hcf : w_cf wr g k := by
          have hown := ho.own
          rw [hl] at hown
          obtain ⟨g2, cap2, e, _, _, _, _, hfz, hcell⟩ := own_some hown (by omega)
          simp only [Value.slice.injEq, Option.some.injEq, Addr.mk.injEq, true_and, and_true] at e
          obtain ⟨rfl, _⟩ := e
          exact ⟨⟨_, hcell k _ (ins_at .i64 (half k xs) k (by omega))⟩, hfz k⟩
        obtain ⟨⟨z, ck⟩, fk⟩ := hcf
        have R : Hid (Rt (wr.setCell ⟨g, k, none⟩ (.int .i64 1024)) B r m (.slice (some ⟨g, 0, none⟩) n cap) (half (k + 1) xs) ∧ Chg (fun k => (Value.slice (some ⟨g, 0, none⟩) n cap).ownBlock = some k) w0 (wr.setCell ⟨g, k, none⟩ (.int .i64 1024))) := by
          have h1 := HO.out
          rw [← hl] at h1
          obtain ⟨h2, c2⟩ := h1.put k 1024 (by omega)
          rw [HS.out k hlt, hl] at h2
          rw [hl] at c2
          exact ⟨h2, hc.trans c2 (fun i e => .inl e)⟩
        clear ho hc HO hl
        go_wp2
        go_roundw
        case rel => exact ⟨k + 1, by omega, by go_num, R.out.1, R.out.2⟩
        case measure => simp [intOf]; omega
      · obtain rfl : k = n := by omega
        rw [HA.out] at ho
        clear HO
        go_wp2
        go_end0
        exact ⟨rfl, ho, hc⟩

theorem infoI : (Try.prog.info? 3).map (fun i => (i.zero, i.size, i.bytes)) = some (some (.int .i64 0), 1, 8) := by kernel_rfl

theorem rnew_out (i : Int) (w : World) (hi : i < 0 ∨ 1048576 < i) : Calls Try.prog 48 #[.int .i64 i] w fun e w' => e = .returned (.tuple #[.pointer none, .int .i64 7]) ∧ w = w' := by
  by_cases h0 : i < 0
  · go_enter Try.func48, Try.ntmps48
    go_wp2
    go_ret2
    exact ⟨rfl, rfl⟩
  · have h1 : 1048576 < i := by omega
    have hd : decide (i < 0) = false := by simp; omega
    clear hi h0
    go_enter Try.func48, Try.ntmps48
    go_wp2
    go_ret2
    exact ⟨rfl, rfl⟩

set_option maxHeartbeats 1000000 in
set_option maxRecDepth 100000 in
theorem rnew_in (n : Nat) (w : World) (hn : n ≤ 1048576) : Calls Try.prog 48 #[.int .i64 n] w fun e w' => ∃ a v, e = .returned (.tuple #[.pointer (some ⟨a, 0, none⟩), .int .i64 0]) ∧ w.heap.size ≤ a ∧ Rt w' w.heap.size a (n : Int) v (List.replicate n 1024) ∧ Chg (fun _ => False) w w' := by
  obtain ⟨i0, hi, hz0, hz1, hz2⟩ := info_parts infoI
  have hd : decide ((n : Int) < 0) = false := by simp
  have hd2 : decide (1048576 < (n : Int)) = false := by simp; omega
  go_enter Try.func48, Try.ntmps48
  go_wp2_with (at_make; refine wpList_make_full _ rfl (.tmp 12) (.tmp 12) 43 rfl w.heap.size 3 i0 (.int .i64 0) 1 Try.underlying43 hi hz0 hz1 .i64 .i64 _ _ n rfl rfl rfl rfl (by rw [hz2]; omega) (by unfold maxLen; omega) (Nat.le_refl _) ?_)
  intro w1 ho hg
  have c1 : Chg (fun _ => False) w w1 := (Chg.refl _ w).grown hg (fun k e => by cases e)
  have c2 := chg_then c1 (chg_one w1 (.cells #[.int .i64 (n : Int), .slice (some ⟨w.heap.size, 0, none⟩) n n] 105))
  have HS : Hid (Rt (w1.alloc (.cells #[.int .i64 (n : Int), .slice (some ⟨w.heap.size, 0, none⟩) n n] 105)) w.heap.size w1.heap.size (n : Int) (.slice (some ⟨w.heap.size, 0, none⟩) n n) (List.replicate n 0)) := by
    refine ⟨c1.size, heap_alloc_last w1 _, ?_⟩
    have h2 := ho.alloc (.cells #[.int .i64 (n : Int), .slice (some ⟨w.heap.size, 0, none⟩) n n] 105)
    rw [toList_madeCells_one] at h2
    simpa [ins] using h2
  have hs1 := c1.size
  clear ho hg c1
  go_wp2_with fail
  have hl : (List.replicate n (0 : Int)).length = n := by simp
  refine (rreset_any w.heap.size w1.heap.size (n : Int) _ (List.replicate n 0) _ HS.out (by omega)).mono ?_
  rintro e w3 ⟨rfl, h3, c3⟩
  rw [hl] at h3
  have HC : Hid (Chg (fun _ => False) w w3) := c2.trans c3 (fun i e => .inr (by simp only [Value.ownBlock, Option.some.injEq] at e; omega))
  have H3 : Hid (Rt w3 w.heap.size w1.heap.size (n : Int) (.slice (some ⟨w.heap.size, 0, none⟩) n n) (List.replicate n 1024)) := h3
  clear h3 c3 c2 HS
  go_wp2
  go_ret2
  exact ⟨_, _, rfl, hs1, H3.out, HC.out⟩
end Go.Proofs.Ytibgjpifmpljkaa

/- The contracts of Clone, Fork and the document's Fork; of no statement by themselves. -/
namespace Go.Proofs.Ytibgjpifmpljkaa
open Go.RowKit
set_option linter.unusedVariables false

theorem own_from {w : World} {B : Nat} {e : TypeId} {ad : Option Addr} {c n : Nat} {xs : List Value} (h : w.ownsRow B e 1 (.slice ad n c) n xs) : From w ad n c 1 xs := by
  refine ⟨h.1, ?_⟩
  rcases h.2 with ⟨e0, e1⟩ | ⟨g, cap, cur, e0, _⟩
  · simp only [Value.slice.injEq] at e0
    exact .inl ⟨e0.1, e1, e0.2.2⟩
  · simp only [Value.slice.injEq, true_and] at e0
    obtain ⟨rfl, rfl⟩ := e0
    exact .inr ⟨_, rfl, fun j u hu => h.cells (g := g) rfl j u hu⟩
theorem From.keep {w w' : World} {ad : Option Addr} {m c size : Nat} {news : List Value} (h : From w ad m c size news) (hc : Chg (fun _ => False) w w') : From w' ad m c size news := by
  refine ⟨h.1, ?_⟩
  rcases h.2 with e | ⟨x, rfl, hx⟩
  · exact .inl e
  · exact .inr ⟨x, rfl, fun j u hu => cell_chg (hx j u hu) hc⟩
theorem own_empty (w : World) (t : TypeId) : (w.alloc (.cells #[] t)).ownsRow w.heap.size t 1 (.slice (some ⟨w.heap.size, 0, none⟩) 0 0) 0 [] :=
  ⟨rfl, .inr ⟨w.heap.size, 0, #[], rfl, Nat.le_refl _, heap_alloc_last w _, Nat.le_refl _, by unfold maxLen; omega, rfl, rfl⟩⟩

theorem step_append_moved {P : Program} {ops : Array Oper} {o : Oper} {a : Act} {w : World} {K : Act → World → Prop} {Q : Exit → Act → World → Prop} {E : Prop} (hgd : o.guard = none) (s x : Operand) (t : TypeId)
    (ho : o.op = .call { callee := .builtin .append, args := #[s, x], argTypes := #[t, t] })
    (B : Nat) (e : TypeId) (i : TypeInfo) (z : Value) (size bytes : Nat) (ht : P.underlying t = some (.slice e)) (hi : P.info? e = some i) (hz : i.zero = some z)
    (hsize : i.size = size) (hby : i.bytes = bytes) (hzs : z.cells.size = size) (hsz : 0 < size)
    (v : Value) (n : Nat) (xs : List Value) (hs : a.eval s = v) (ad : Option Addr) (m c : Nat) (hx : a.eval x = .slice ad m c) (news : List Value)
    (hown : w.ownsRow B e size v n xs) (hsrc : From w ad m c size news) (h1 : ∀ u ∈ news, u.oneCell' = true)
    (h63 : n + m ≤ maxLen) (hbytes : (n + m) * bytes ≤ 140737488355328) (hB : B ≤ w.heap.size)
    (h : ∀ v' w', w'.ownsRow B e size v' (n + m) (xs ++ news) → w.grownBy w' v.ownBlock → Moved w v v' → K (a.put o.dst v') w') :
    if Region.wanted o (yielded ops a.tmps) = true then Oper.wp P o a w K Q else E := by
  have hw : Region.wanted o (yielded ops a.tmps) = true := by simp [Region.wanted, hgd]
  rw [if_pos hw]
  obtain ⟨v', w', hr, h2, h3, h4⟩ := run_append_moved (P := P) w B t o.type e i z size bytes ht hi hz hsize hby hzs hsz v n xs hown ad m c news hsrc h1 h63 hbytes hB
  unfold Oper.wp
  simp [execOp, ho, resolve, invoke, builtin, hs, hx, hr, Result.andThen]
  exact h v' w' h2 h3 h4

theorem eq_nil_some (x : Addr) (n c : Nat) (w : World) : (binOp .eql 68 (.slice (some x) n c) (.slice none 0 0)).run Try.prog w = .ok (.bool false) w := by kernel_rfl
theorem eq_nil_none (w : World) : (binOp .eql 68 (.slice none 0 0) (.slice none 0 0)).run Try.prog w = .ok (.bool true) w := by kernel_rfl

set_option maxHeartbeats 1000000 in
set_option maxRecDepth 100000 in
theorem clone_any (B : Nat) (v : Value) (xs : List Int) (w : World) (h : w.ownsRow B 81 1 v xs.length (ins .u16 xs)) (hn : xs.length ≤ 1048576) :
    Calls Try.prog 46 #[v] w fun e w' => ∃ v', e = .returned v' ∧ w'.ownsRow w.heap.size 81 1 v' xs.length (ins .u16 xs) ∧ Chg (fun _ => False) w w' := by
  obtain ⟨i0, hi, hz0, hz1, hz2⟩ := info_parts infoU16
  have hone := ins_one .u16 xs
  rcases h.2 with ⟨rfl, e0⟩ | ⟨g, cap, cur, rfl, _⟩
  · have hx : xs = [] := List.eq_nil_of_length_eq_zero e0
    subst hx
    have heq := eq_nil_none w
    go_enter Try.func46, Try.ntmps46
    go_wp2
    go_ret
    exact ⟨_, rfl, World.ownsRow_nil _ _ _ _, Chg.refl _ _⟩
  · have hF := own_from h
    have c1 := chg_one w (.cells #[] 81)
    have hF1 := hF.keep c1
    have hE := own_empty w 81
    have hs : w.heap.size ≤ (w.alloc (.cells #[] 81)).heap.size := c1.size
    have HX : Hid (ins .u16 xs = ins .u16 xs) := rfl
    have heq := eq_nil_some ⟨g, 0, none⟩ xs.length cap w
    clear h hF
    go_enter Try.func46, Try.ntmps46
    go_wp2_with (at_builtin; refine wpList_append_moved rfl _ _ 68 rfl w.heap.size 81 i0 (.int .u16 0) 1 2 Try.underlying68 hi hz0 hz1 hz2 rfl (by decide) _ 0 [] rfl (some ⟨g, 0, none⟩) xs.length cap rfl (ins .u16 xs) hE hF1 hone (by unfold maxLen; omega) (by omega) hs ?_)
    intro v2 w2 ho hg hm
    have HC : Hid (Chg (fun _ => False) w w2) := c1.grown hg (fun k e => .inr (hE.lt k e).1)
    have HO : Hid (w2.ownsRow w.heap.size 81 1 v2 xs.length (ins .u16 xs)) := ho
    clear ho hg hm hE hF1 c1
    go_wp2
    go_ret
    exact ⟨_, rfl, HO.out, HC.out⟩

set_option maxHeartbeats 1000000 in
set_option maxRecDepth 100000 in
theorem fork_any (B a : Nat) (v : Value) (xs : List Int) (w : World) (h : St w B a v xs) (hn : xs.length ≤ 1048576) :
    Calls Try.prog 17 #[.pointer (some ⟨a, 0, none⟩)] w fun e w' => ∃ a' v', e = .returned (.pointer (some ⟨a', 0, none⟩)) ∧ w.heap.size ≤ a' ∧ St w' w.heap.size a' v' xs ∧ Chg (fun _ => False) w w' := by
  have hca := cell00 h.blk
  have hown := h.own
  clear h
  go_enter Try.func17, Try.ntmps17
  go_wp2_with fail
  refine (clone_any B v xs _ hown hn).mono ?_
  rintro e w1 ⟨v1, rfl, ho1, c1⟩
  have HO : Hid (w1.ownsRow w.heap.size 81 1 v1 xs.length (ins .u16 xs)) := ho1
  have HC : Hid (Chg (fun _ => False) w w1) := c1
  have hcell : (Value.agg #[v1]).cells = #[v1] := by
    rcases ho1.2 with ⟨rfl, _⟩ | ⟨g, cap, cur, rfl, _⟩ <;> rfl
  obtain ⟨ad, cap, rfl, _⟩ := own_any ho1
  clear ho1 c1 hca hown
  go_wp2
  go_ret
  have c2 := chg_one w1 (.cells #[.slice ad xs.length cap] 70)
  exact ⟨_, _, rfl, HC.out.size, ⟨HC.out.size, heap_alloc_last w1 _, ownsRow_keep HO.out c2 (fun _ _ f => f)⟩, chg_then HC.out c2⟩

end Go.Proofs.Ytibgjpifmpljkaa

/- Rows side by side, the program's and the document's ('Play'): definitions and laws; of no statement by themselves. -/
namespace Go.Proofs.Ytibgjpifmpljkaa
open Go.RowKit
set_option linter.unusedVariables false

/-- A row of both: the program's Set at a with the slice v, the document's at r with its number n and its slice u; both hold xs. -/
structure It where
  a : Nat
  r : Nat
  v : Value
  n : Int
  u : Value
  xs : List Int

structure Good (w : World) (B : Nat) (x : It) : Prop where
  st : St w B x.a x.v x.xs
  rt : Rt w B x.r x.n x.u x.xs
  inn : In x.xs
  len : x.xs.length ≤ 1048576

theorem Good.keep {w w' : World} {B : Nat} {x : It} {S : Nat → Prop} (h : Good w B x) (hc : Chg S w w') (ha : ¬ S x.a) (hr : ¬ S x.r) (hv : ∀ g, x.v.ownBlock = some g → ¬ S g) (hu : ∀ g, x.u.ownBlock = some g → ¬ S g) : Good w' B x :=
  ⟨h.st.keep hc ha hv, h.rt.keep hc hr hu, h.inn, h.len⟩
theorem Good.new {w w' : World} {B : Nat} {x : It} (h : Good w B x) (hc : Chg (fun _ => False) w w') : Good w' B x := h.keep hc (fun f => f) (fun f => f) (fun _ _ f => f) (fun _ _ f => f)
theorem Good.vb {w : World} {B : Nat} {x : It} (h : Good w B x) {g : Nat} (e : x.v.ownBlock = some g) : ∃ cs, w.heap[g]? = some (.cells cs 81 (0, 0)) := owns_blk h.st.own e
theorem Good.ub {w : World} {B : Nat} {x : It} (h : Good w B x) {g : Nat} (e : x.u.ownBlock = some g) : ∃ cs, w.heap[g]? = some (.cells cs 3 (0, 0)) := owns_blk h.rt.own e

/-- No two of them share. -/
def Apart (x y : It) : Prop := x.a ≠ y.a ∧ x.r ≠ y.r ∧ (∀ g, x.v.ownBlock = some g → y.v.ownBlock ≠ some g) ∧ ∀ g, x.u.ownBlock = some g → y.u.ownBlock ≠ some g

def ptrA (x : It) : Value := .pointer (some ⟨x.a, 0, none⟩)
def ptrR (x : It) : Value := .pointer (some ⟨x.r, 0, none⟩)

/-- The pair of lists at P, each row good, all apart. -/
structure Play (w0 w : World) (P : Nat) (av bv : Value) (its : List It) : Prop where
  chg : Chg (fun _ => False) w0 w
  hP : w0.heap.size ≤ P
  pair : w.heap[P]? = some (.cells #[av, bv] 58 (0, 0))
  ra : w.ownsRow w0.heap.size 23 1 av its.length (its.map ptrA)
  rb : w.ownsRow w0.heap.size 83 1 bv its.length (its.map ptrR)
  good : ∀ i (h : i < its.length), Good w w0.heap.size its[i]
  apart : ∀ i j (hi : i < its.length) (hj : j < its.length), i ≠ j → Apart its[i] its[j]

theorem Play.new {w0 w w' : World} {P : Nat} {av bv : Value} {its : List It} (h : Play w0 w P av bv its) (hc : Chg (fun _ => False) w w') : Play w0 w' P av bv its :=
  ⟨chg_then h.chg hc, h.hP, blk_keep h.pair hc (fun f => f), ownsRow_keep h.ra hc (fun _ _ f => f), ownsRow_keep h.rb hc (fun _ _ f => f), fun i hi => (h.good i hi).new hc, h.apart⟩

/-- What turning the row x may turn. -/
def Foots (x : It) (z : Nat) : Prop := x.v.ownBlock = some z ∨ x.u.ownBlock = some z

theorem Good.foot {w : World} {B : Nat} {x : It} (h : Good w B x) {z : Nat} (f : Foots x z) {t : TypeId} {cs : Array Value} (hb : w.heap[z]? = some (.cells cs t (0, 0))) (h1 : t ≠ 81) (h2 : t ≠ 3) : False := by
  rcases f with f | f
  · obtain ⟨cs', h'⟩ := h.vb f
    exact ty_ne hb h' h1
  · obtain ⟨cs', h'⟩ := h.ub f
    exact ty_ne hb h' h2

theorem Play.put {w0 w w' : World} {P : Nat} {av bv : Value} {its : List It} (h : Play w0 w P av bv its) (k : Nat) (hk : k < its.length) (hc : Chg (Foots its[k]) w w') (xs' : List Int)
    (hG' : Good w' w0.heap.size ⟨its[k].a, its[k].r, its[k].v, its[k].n, its[k].u, xs'⟩) :
    Play w0 w' P av bv (its.set k ⟨its[k].a, its[k].r, its[k].v, its[k].n, its[k].u, xs'⟩) := by
  have hG := h.good k hk
  have mA : (its.set k ⟨its[k].a, its[k].r, its[k].v, its[k].n, its[k].u, xs'⟩).map ptrA = its.map ptrA := by
    rw [List.map_set]
    exact List.ext_getElem? fun i => by
      rw [List.getElem?_set]
      split
      · rename_i e
        subst e
        rw [if_pos (by simpa using hk), List.getElem?_map, List.getElem?_eq_getElem hk]
        rfl
      · rfl
  have mR : (its.set k ⟨its[k].a, its[k].r, its[k].v, its[k].n, its[k].u, xs'⟩).map ptrR = its.map ptrR := by
    rw [List.map_set]
    exact List.ext_getElem? fun i => by
      rw [List.getElem?_set]
      split
      · rename_i e
        subst e
        rw [if_pos (by simpa using hk), List.getElem?_map, List.getElem?_eq_getElem hk]
        rfl
      · rfl
  refine ⟨h.chg.trans hc (fun z f => .inr ?_), h.hP, blk_keep h.pair hc (fun f => hG.foot f h.pair (by decide) (by decide)), ?_, ?_, fun i hi => ?_, fun i j hi hj hne => ?_⟩
  · rcases f with f | f
    · exact (hG.st.own.lt z f).1
    · exact (hG.rt.own.lt z f).1
  · rw [mA, List.length_set]
    exact ownsRow_keep h.ra hc (fun g e f => by obtain ⟨cur, hcur⟩ := owns_blk h.ra e; exact hG.foot f hcur (by decide) (by decide))
  · rw [mR, List.length_set]
    exact ownsRow_keep h.rb hc (fun g e f => by obtain ⟨cur, hcur⟩ := owns_blk h.rb e; exact hG.foot f hcur (by decide) (by decide))
  · by_cases e : i = k
    · subst e
      rw [List.getElem_set_self]
      exact hG'
    · have hi2 : i < its.length := by simpa using hi
      rw [List.getElem_set_ne (fun x => e x.symm)]
      have hA := h.apart i k hi2 hk e
      have gi := h.good i hi2
      refine gi.keep hc (fun f => hG.foot f gi.st.blk (by decide) (by decide)) (fun f => hG.foot f gi.rt.blk (by decide) (by decide)) (fun g e f => ?_) (fun g e f => ?_)
      · rcases f with f | f
        · exact hA.2.2.1 g e f
        · obtain ⟨c1, h1⟩ := gi.vb e
          obtain ⟨c2, h2⟩ := hG.ub f
          exact ty_ne h1 h2 (by decide)
      · rcases f with f | f
        · obtain ⟨c1, h1⟩ := gi.ub e
          obtain ⟨c2, h2⟩ := hG.vb f
          exact ty_ne h1 h2 (by decide)
        · exact hA.2.2.2 g e f
  · have hi2 : i < its.length := by simpa using hi
    have hj2 : j < its.length := by simpa using hj
    have hA := h.apart i j hi2 hj2 hne
    by_cases ei : i = k
    · subst ei
      rw [List.getElem_set_self, List.getElem_set_ne (fun x => hne x)]
      exact hA
    · by_cases ej : j = k
      · subst ej
        rw [List.getElem_set_self, List.getElem_set_ne (fun x => ei x.symm)]
        exact hA
      · rw [List.getElem_set_ne (fun x => ei x.symm), List.getElem_set_ne (fun x => ej x.symm)]
        exact hA

/-- What putting one more row in may turn. -/
def Grows (P : Nat) (av bv : Value) (z : Nat) : Prop := z = P ∨ av.ownBlock = some z ∨ bv.ownBlock = some z

theorem Play.push {w0 w w1 w' : World} {P : Nat} {av bv av' bv' : Value} {its : List It} {x : It} (h : Play w0 w P av bv its) (hc : Chg (fun _ => False) w w1) (hx : Good w1 w0.heap.size x) (ha : w.heap.size ≤ x.a) (hr : w.heap.size ≤ x.r) (hv : ∀ g, x.v.ownBlock = some g → w.heap.size ≤ g) (hu : ∀ g, x.u.ownBlock = some g → w.heap.size ≤ g)
    (hc2 : Chg (Grows P av bv) w1 w') (hp : w'.heap[P]? = some (.cells #[av', bv'] 58 (0, 0))) (hoa : w'.ownsRow w0.heap.size 23 1 av' (its.length + 1) (its.map ptrA ++ [ptrA x])) (hob : w'.ownsRow w0.heap.size 83 1 bv' (its.length + 1) (its.map ptrR ++ [ptrR x])) : Play w0 w' P av' bv' (its ++ [x]) := by
  have h1 := h.new hc
  have miss : ∀ z, Grows P av bv z → ∀ {cs : Array Value} {t : TypeId}, w1.heap[z]? = some (.cells cs t (0, 0)) → t ≠ 58 → t ≠ 23 → t ≠ 83 → False := fun z f cs t hb n1 n2 n3 => by
    rcases f with rfl | f | f
    · exact ty_ne hb h1.pair n1
    · obtain ⟨cur, hcur⟩ := owns_blk h1.ra f
      exact ty_ne hb hcur n2
    · obtain ⟨cur, hcur⟩ := owns_blk h1.rb f
      exact ty_ne hb hcur n3
  have key : ∀ y, Good w1 w0.heap.size y → Good w' w0.heap.size y := fun y gy => by
    refine gy.keep hc2 (fun f => miss _ f gy.st.blk (by decide) (by decide) (by decide)) (fun f => miss _ f gy.rt.blk (by decide) (by decide) (by decide)) (fun g e f => ?_) (fun g e f => ?_)
    · obtain ⟨cs, h2⟩ := gy.vb e
      exact miss _ f h2 (by decide) (by decide) (by decide)
    · obtain ⟨cs, h2⟩ := gy.ub e
      exact miss _ f h2 (by decide) (by decide) (by decide)
  have old : ∀ i (hi : i < its.length), Apart its[i] x ∧ Apart x its[i] := fun i hi => by
    have gi := h.good i hi
    have l1 := lt_of_blk gi.st.blk
    have l2 := lt_of_blk gi.rt.blk
    refine ⟨⟨by omega, by omega, fun g e f => ?_, fun g e f => ?_⟩, ⟨by omega, by omega, fun g e f => ?_, fun g e f => ?_⟩⟩
    · have := (gi.st.own.lt g e).2
      have := hv g f
      omega
    · have := (gi.rt.own.lt g e).2
      have := hu g f
      omega
    · have := (gi.st.own.lt g f).2
      have := hv g e
      omega
    · have := (gi.rt.own.lt g f).2
      have := hu g e
      omega
  refine ⟨h1.chg.trans hc2 (fun z f => .inr ?_), h.hP, hp, by simpa using hoa, by simpa using hob, fun i hi => ?_, fun i j hi hj hne => ?_⟩
  · rcases f with rfl | f | f
    · exact h.hP
    · exact (h.ra.lt z f).1
    · exact (h.rb.lt z f).1
  · by_cases e : i < its.length
    · rw [List.getElem_append_left e]
      exact key _ (h1.good i e)
    · have e2 : i = its.length := by simp at hi; omega
      subst e2
      rw [List.getElem_append_right (Nat.le_refl _)]
      simpa using key _ hx
  · by_cases ei : i < its.length
    · by_cases ej : j < its.length
      · rw [List.getElem_append_left ei, List.getElem_append_left ej]
        exact h.apart i j ei ej hne
      · have e2 : j = its.length := by simp at hj; omega
        subst e2
        rw [List.getElem_append_left ei, List.getElem_append_right (Nat.le_refl _)]
        simpa using (old i ei).1
    · have e2 : i = its.length := by simp at hi; omega
      subst e2
      have ej : j < its.length := by simp at hj; omega
      rw [List.getElem_append_left ej, List.getElem_append_right (Nat.le_refl _)]
      simpa using (old j ej).2

/-- Where the lists lie, and what is in them. -/
theorem Play.a_at {w0 w : World} {P : Nat} {av bv : Value} {its : List It} (h : Play w0 w P av bv its) (hn : 0 < its.length) : ∃ g cap, av = .slice (some ⟨g, 0, none⟩) its.length cap ∧ its.length ≤ cap ∧ ∀ k (hk : k < its.length), w.cell? ⟨g, k, none⟩ = some (.pointer (some ⟨its[k].a, 0, none⟩)) := by
  obtain ⟨g, cap, e, hc, _, _, _, _, hcell⟩ := own_some h.ra hn
  exact ⟨g, cap, e, hc, fun k hk => hcell k _ (by simp [hk, ptrA])⟩
theorem Play.b_at {w0 w : World} {P : Nat} {av bv : Value} {its : List It} (h : Play w0 w P av bv its) (hn : 0 < its.length) : ∃ g cap, bv = .slice (some ⟨g, 0, none⟩) its.length cap ∧ its.length ≤ cap ∧ ∀ k (hk : k < its.length), w.cell? ⟨g, k, none⟩ = some (.pointer (some ⟨its[k].r, 0, none⟩)) := by
  obtain ⟨g, cap, e, hc, _, _, _, _, hcell⟩ := own_some h.rb hn
  exact ⟨g, cap, e, hc, fun k hk => hcell k _ (by simp [hk, ptrR])⟩
end Go.Proofs.Ytibgjpifmpljkaa
