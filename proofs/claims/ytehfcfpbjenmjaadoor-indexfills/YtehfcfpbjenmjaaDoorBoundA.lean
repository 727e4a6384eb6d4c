/- Several texts in one, none of a statement by itself: Base, Mem, Free, Last, Facts, LastP, LastQ, Bk. -/
import Derived.Test.YtehfcfpbjenmjaaDoorRows
import Derived.WalkKit
import Derived.OneCell
import Derived.Laws.CopyOwn
import Derived.Laws.AppendOwnNone
import Derived.Deep.WholeRow
import Derived.Deep.OwnRows
import Derived.BigQuiet
import Derived.Deep.QuietTactic
import Derived.Deep.RegionHeld3
import Derived.Laws.BytesArg
/- What a call may have turned in memory ('Chg'), what a list of bytes is in memory ('Row8'): definitions and small laws, of no statement by themselves. -/
namespace Go.Proofs.YtehfcfpbjenmjaaDoor
open Go.RowKit

/-- Of the blocks that were there, only those in S may have turned; the streams are as they were. -/
structure Chg (S : Nat → Prop) (w w' : World) : Prop where
  os : w'.os = w.os
  tape : w'.tape = w.tape
  output : w'.output = w.output
  size : w.heap.size ≤ w'.heap.size
  block : ∀ k, k < w.heap.size → ¬ S k → w'.heap[k]? = w.heap[k]?

theorem Chg.refl (S : Nat → Prop) (w : World) : Chg S w w := ⟨rfl, rfl, rfl, Nat.le_refl _, fun _ _ _ => rfl⟩

theorem Chg.trans {S T : Nat → Prop} {a b c : World} (h : Chg S a b) (k : Chg T b c) (hT : ∀ i, T i → S i ∨ a.heap.size ≤ i) : Chg S a c :=
  ⟨k.os.trans h.os, k.tape.trans h.tape, k.output.trans h.output, Nat.le_trans h.size k.size, fun i hi hS =>
    (k.block i (Nat.lt_of_lt_of_le hi h.size) (fun t => by rcases hT i t with t | t; exact hS t; omega)).trans (h.block i hi hS)⟩

theorem Chg.mono {S T : Nat → Prop} {a b : World} (h : Chg S a b) (hT : ∀ i, S i → T i ∨ a.heap.size ≤ i) : Chg T a b :=
  (Chg.refl T a).trans h hT

theorem Chg.alloc {S : Nat → Prop} {a w : World} (h : Chg S a w) (o : Obj) : Chg S a (w.alloc o) :=
  h.trans (T := fun _ => False) ⟨rfl, rfl, rfl, by simp, fun k hk _ => Below.heap_alloc _ _ _ hk⟩ (fun _ f => f.elim)

theorem Chg.drew {S : Nat → Prop} {a w : World} (h : Chg S a w) : Chg S a w.drew := ⟨h.os, h.tape, h.output, h.size, h.block⟩

theorem Chg.setCell {S : Nat → Prop} {a w : World} (h : Chg S a w) {p : Addr} (hp : S p.block ∨ a.heap.size ≤ p.block) (u : Value) : Chg S a (w.setCell p u) :=
  h.trans (T := fun k => k = p.block) ⟨rfl, rfl, rfl, by simp [World.setCell], fun k _ hk => Below.heap_setCell _ _ _ _ hk⟩ (fun i e => by subst e; exact hp)

theorem Chg.grown {S : Nat → Prop} {a w w' : World} {row : Option Nat} (h : Chg S a w) (hg : w.grownBy w' row) (hr : ∀ k, row = some k → S k ∨ a.heap.size ≤ k) : Chg S a w' :=
  h.trans (T := fun k => row = some k) ⟨hg.os, hg.tape, hg.output, hg.size, fun k hk hne => hg.block k hk (fun e => hne e.symm)⟩ hr

theorem Chg.of_below {B : Nat} {w w' : World} (h : Below B w w') : Chg (fun k => B ≤ k) w w' :=
  ⟨h.os, h.tape, h.output, h.size, fun k _ hS => h.block k (by omega)⟩

theorem Chg.below {S : Nat → Prop} {w w' : World} (h : Chg S w w') {B : Nat} (hB : B ≤ w.heap.size) (hS : ∀ k, S k → B ≤ k) : Below B w w' :=
  ⟨h.os, h.tape, h.output, h.size, fun k hk => h.block k (by omega) (fun s => by have := hS k s; omega)⟩

/-- A list of bytes in memory, as a slice value tells it: its elements 'xs', whatever its capacity. -/
def Row8 (w : World) (ad : Option Addr) (m c : Nat) (xs : List Int) : Prop :=
  xs.length = m ∧ ((ad = none ∧ m = 0 ∧ c = 0) ∨ ∃ x, ad = some x ∧ ∀ j u, (xs.map (Value.int .u8))[j]? = some u → w.cell? (x.add j) = some u)

theorem lt_of_blk {w : World} {a : Nat} {o : Obj} (h : w.heap[a]? = some o) : a < w.heap.size := lt_of_block h

theorem cell0 {w : World} {a : Nat} {x y : Value} {t : TypeId} (h : w.heap[a]? = some (.cells #[x, y] t (0, 0))) : w.cell? ⟨a, 0, none⟩ = some x := by simp [World.cell?, h]
theorem cell1 {w : World} {a : Nat} {x y : Value} {t : TypeId} (h : w.heap[a]? = some (.cells #[x, y] t (0, 0))) : w.cell? ⟨a, 1, none⟩ = some y := by simp [World.cell?, h]
theorem free0 {w : World} {a : Nat} {x y : Value} {t : TypeId} (h : w.heap[a]? = some (.cells #[x, y] t (0, 0))) : w.frozen? ⟨a, 0, none⟩ = false := by simp [World.frozen?, h]
theorem free1 {w : World} {a : Nat} {x y : Value} {t : TypeId} (h : w.heap[a]? = some (.cells #[x, y] t (0, 0))) : w.frozen? ⟨a, 1, none⟩ = false := by simp [World.frozen?, h]
theorem blk_set0 {w : World} {a : Nat} {x y u : Value} {t : TypeId} (h : w.heap[a]? = some (.cells #[x, y] t (0, 0))) : (w.setCell ⟨a, 0, none⟩ u).heap[a]? = some (.cells #[u, y] t (0, 0)) := by
  have hlt := lt_of_blk h
  have h' : w.heap[a] = .cells #[x, y] t (0, 0) := by simpa [Array.getElem?_eq_getElem hlt] using h
  show (w.heap.modify a _)[a]? = _
  rw [Array.getElem?_eq_getElem (by simpa using hlt), Array.getElem_modify_self, h']
  rfl
theorem blk_set1 {w : World} {a : Nat} {x y u : Value} {t : TypeId} (h : w.heap[a]? = some (.cells #[x, y] t (0, 0))) : (w.setCell ⟨a, 1, none⟩ u).heap[a]? = some (.cells #[x, u] t (0, 0)) := by
  have hlt := lt_of_blk h
  have h' : w.heap[a] = .cells #[x, y] t (0, 0) := by simpa [Array.getElem?_eq_getElem hlt] using h
  show (w.heap.modify a _)[a]? = _
  rw [Array.getElem?_eq_getElem (by simpa using hlt), Array.getElem_modify_self, h']
  rfl

theorem ownsRow_blk {w : World} {B : Nat} {e : TypeId} {v : Value} {n : Nat} {xs : List Value} (h : w.ownsRow B e 1 v n xs) {g : Nat} (hg : v.ownBlock = some g) : ∃ cur, w.heap[g]? = some (.cells cur e (0, 0)) := by
  rcases h.2 with ⟨rfl, _⟩ | ⟨g', cap, cur, rfl, hb, hgg, _⟩
  · simp [Value.ownBlock] at hg
  · simp [Value.ownBlock] at hg
    subst hg
    exact ⟨cur, hgg⟩

/-- The row's block is not the struct's own: their cells are of other types. -/
theorem row_ne {w : World} {B : Nat} {v : Value} {n : Nat} {xs : List Value} (h : w.ownsRow B 5 1 v n xs) {a : Nat} {cs : Array Value} {t : TypeId} (hb : w.heap[a]? = some (.cells cs t (0, 0))) (ht : t ≠ 5) : v.ownBlock ≠ some a := by
  intro e
  obtain ⟨cur, hc⟩ := ownsRow_blk h e
  rw [hb] at hc
  simp at hc
  exact ht hc.2


theorem ownsRow_keep {w w' : World} {S : Nat → Prop} {B : Nat} {e : TypeId} {v : Value} {n : Nat} {xs : List Value} (h : w.ownsRow B e 1 v n xs) (hc : Chg S w w') (hS : ∀ g, v.ownBlock = some g → ¬ S g) : w'.ownsRow B e 1 v n xs := by
  refine ⟨h.1, ?_⟩
  rcases h.2 with hn | ⟨g, cap, cur, rfl, hb, hgg, rest⟩
  · exact .inl hn
  · exact .inr ⟨g, cap, cur, rfl, hb, (hc.block g (lt_of_blk hgg) (hS g rfl)).trans hgg, rest⟩


/-- What a writer's calls may turn: its own block and its row's. -/
def Foot (a : Nat) (v : Value) (k : Nat) : Prop := k = a ∨ v.ownBlock = some k

/-- Behind a call: the row's block is the one it was, or a new one. -/
def Moved (w : World) (v v' : Value) : Prop := ∀ g, v'.ownBlock = some g → v.ownBlock = some g ∨ w.heap.size ≤ g

theorem Moved.refl (w : World) (v : Value) : Moved w v v := fun _ h => .inl h
theorem Moved.trans {w w1 : World} {v v1 v2 : Value} (h : Moved w v v1) (hs : w.heap.size ≤ w1.heap.size) (k : Moved w1 v1 v2) : Moved w v v2 := fun g hg => by
  rcases k g hg with e | e
  · exact h g e
  · exact .inr (by omega)
theorem Moved.foot {w : World} {v v' : Value} (h : Moved w v v') (a : Nat) : ∀ k, Foot a v' k → Foot a v k ∨ w.heap.size ≤ k := by
  intro k hk
  rcases hk with e | e
  · exact .inl (.inl e)
  · rcases h k e with e | e
    · exact .inl (.inr e)
    · exact .inr e

theorem own_shape {w : World} {B : Nat} {v : Value} {n : Nat} {xs : List Value} (h : w.ownsRow B 5 1 v n xs) : v = .slice none 0 0 ∧ n = 0 ∨ ∃ g cap, v = .slice (some ⟨g, 0, none⟩) n cap := by
  rcases h.2 with h | ⟨g, cap, _, h, _⟩
  · exact .inl h
  · exact .inr ⟨g, cap, h⟩

theorem own_row8 {w : World} {B : Nat} {v : Value} {n : Nat} {bs : List Int} (h : w.ownsRow B 5 1 v n (bs.map (Value.int .u8))) : ∃ ad c, v = .slice ad n c ∧ Row8 w ad n c bs := by
  have hl : bs.length = n := by simpa using h.1
  rcases own_shape h with ⟨rfl, rfl⟩ | ⟨g, cap, rfl⟩
  · exact ⟨none, 0, rfl, hl, .inl ⟨rfl, rfl, rfl⟩⟩
  · exact ⟨_, cap, rfl, hl, .inr ⟨_, rfl, fun j u hu => h.cells (g := g) rfl j u hu⟩⟩

theorem row8_keep {w w' : World} {S : Nat → Prop} {ad : Option Addr} {m c : Nat} {xs : List Int} (h : Row8 w ad m c xs) (hc : Chg S w w') (hS : ∀ x, ad = some x → ¬ S x.block) : Row8 w' ad m c xs := by
  refine ⟨h.1, ?_⟩
  rcases h.2 with e | ⟨x, rfl, hx⟩
  · exact .inl e
  · refine .inr ⟨x, rfl, fun j u hu => ?_⟩
    have h0 := hx j u hu
    have hb : (x.add j).block = x.block := by simp [Addr.add]; split <;> rfl
    have hlt := World.block_lt_of_cell? w _ h0
    rw [World.cell?_of_block (w := w) (hc.block _ hlt (by rw [hb]; exact hS x rfl))]
    exact h0

/-- What is appended, from whatever source: nothing at nil, or cells at an address. -/
def From (w : World) (ad : Option Addr) (m c : Nat) (size : Nat) (news : List Value) : Prop :=
  news.length = m * size ∧ ((ad = none ∧ m = 0 ∧ c = 0) ∨ ∃ x, ad = some x ∧ ∀ j u, news[j]? = some u → w.cell? (x.add j) = some u)

theorem Row8.src {w : World} {ad : Option Addr} {m c : Nat} {xs : List Int} (h : Row8 w ad m c xs) : From w ad m c 1 (xs.map (Value.int .u8)) :=
  ⟨by simp [h.1], h.2⟩

/-- 'append' on a row of the call's own: what it answers, that nothing else has turned, and that the row lies where it lay or in new memory. -/
theorem run_append_moved {P : Program} (w : World) (B : Nat) (t ty e : TypeId) (i : TypeInfo) (z : Value) (size bytes : Nat) (ht : P.underlying t = some (.slice e)) (hi : P.info? e = some i) (hz : i.zero = some z)
    (hsize : i.size = size) (hby : i.bytes = bytes) (hzs : z.cells.size = size) (hsz : 0 < size)
    (v : Value) (n : Nat) (xs : List Value) (hown : w.ownsRow B e size v n xs) (ad : Option Addr) (m c : Nat) (news : List Value) (hsrc : From w ad m c size news) (h1 : ∀ u ∈ news, u.oneCell' = true)
    (h63 : n + m ≤ maxLen) (hbytes : (n + m) * bytes ≤ 140737488355328) (hB : B ≤ w.heap.size) :
    ∃ v' w', (Builtin.append_ #[t, t] ty #[v, .slice ad m c]).run P w = .ok v' w' ∧ w'.ownsRow B e size v' (n + m) (xs ++ news) ∧ w.grownBy w' v.ownBlock ∧ Moved w v v' := by
  obtain ⟨hl, hs⟩ := hsrc
  rcases hs with ⟨rfl, rfl, rfl⟩ | ⟨x, rfl, hnews⟩
  · have hn : news = [] := List.eq_nil_of_length_eq_zero (by simpa using hl)
    subst hn
    exact ⟨v, w, run_append_owned_none w B t ty e i size ht hi v n xs hown, by simpa using hown, ⟨rfl, rfl, rfl, Nat.le_refl _, fun _ _ _ => rfl⟩, Moved.refl w v⟩
  · obtain ⟨v', w', hr, h2, h3, h4⟩ := run_append_own (P := P) w B t ty e i z size bytes ht hi hz hsize hby hzs hsz v n xs hown x m c news hl hnews h1 h63 hbytes hB
    refine ⟨v', w', hr, h2, h3, ?_⟩
    rcases hown.2 with ⟨rfl, rfl⟩ | ⟨g, cap, cur, rfl, hbg, hg, hnc, hcm, hcs, htake⟩
    · have hx0 : xs = [] := List.eq_nil_of_length_eq_zero (by simpa using hown.1)
      subst hx0
      obtain ⟨v2, w2, hr2, k2, _, _⟩ := run_append_own (P := P) w w.heap.size t ty e i z size bytes ht hi hz hsize hby hzs hsz _ 0 [] (World.ownsRow_nil w _ e size) x m c news hl hnews h1 h63 hbytes (Nat.le_refl _)
      rw [hr] at hr2
      simp only [Result.ok.injEq] at hr2
      obtain ⟨rfl, rfl⟩ := hr2
      exact fun k hk => .inr (k2.lt k hk).1
    · subst hsize
      by_cases hroom : n + m ≤ cap
      · have hfit : n * i.size + news.length ≤ cur.size := by rw [hl, hcs, ← Nat.add_mul]; exact Nat.mul_le_mul_right _ hroom
        have hr2 := run_append_room (P := P) w t ty e i ht hi g n cap cur hg x m c news hl hnews h1 hroom hfit
        rw [hr] at hr2
        simp only [Result.ok.injEq] at hr2
        rw [hr2.1]
        exact fun k hk => .inl (by simpa [Value.ownBlock] using hk)
      · have holds : ∀ j u, xs[j]? = some u → w.cell? ((⟨g, 0, none⟩ : Addr).add j) = some u := hown.cells (g := g) rfl
        have hr2 := run_append_grow (P := P) w t ty e i z ht hi hz ⟨g, 0, none⟩ n cap xs hown.1 holds x m c news hl hnews (by omega) (by simp only [maxLen] at h63; omega) (growslice_fits (by omega) (by rw [hby]; exact hbytes))
        rw [hr] at hr2
        simp only [Result.ok.injEq] at hr2
        rw [hr2.1]
        exact fun k hk => .inr (by simp [Value.ownBlock] at hk; omega)

theorem wpList_append_moved {P : Program} {w : World} {ops : Array Oper} {rest : List Oper} {o : Oper} {a : Act} {Q : Exit → Act → World → Prop} (hgd : o.guard = none) (s x : Operand) (t : TypeId)
    (ho : o.op = .call { callee := .builtin .append, args := #[s, x], argTypes := #[t, t] })
    (B : Nat) (e : TypeId) (i : TypeInfo) (z : Value) (size bytes : Nat) (ht : P.underlying t = some (.slice e)) (hi : P.info? e = some i) (hz : i.zero = some z)
    (hsize : i.size = size) (hby : i.bytes = bytes) (hzs : z.cells.size = size) (hsz : 0 < size)
    (v : Value) (n : Nat) (xs : List Value) (hs : a.eval s = v) (ad : Option Addr) (m c : Nat) (hx : a.eval x = .slice ad m c) (news : List Value)
    (hown : w.ownsRow B e size v n xs) (hsrc : From w ad m c size news) (h1 : ∀ u ∈ news, u.oneCell' = true)
    (h63 : n + m ≤ maxLen) (hbytes : (n + m) * bytes ≤ 140737488355328) (hB : B ≤ w.heap.size)
    (h : ∀ v' w', w'.ownsRow B e size v' (n + m) (xs ++ news) → w.grownBy w' v.ownBlock → Moved w v v' → wpList P ops Q rest (a.put o.dst v') w') : wpList P ops Q (o :: rest) a w := by
  refine wpList_plain hgd fun K hK => ?_
  obtain ⟨v', w', hr, h2, h3, h4⟩ := run_append_moved (P := P) w B t o.type e i z size bytes ht hi hz hsize hby hzs hsz v n xs hown ad m c news hsrc h1 h63 hbytes hB
  unfold Oper.wp
  simp [execOp, ho, resolve, invoke, builtin, hs, hx, hr, Result.andThen]
  exact hK _ _ (h v' w' h2 h3 h4)

end Go.Proofs.YtehfcfpbjenmjaaDoor

/- Rows of probabilities in memory ('St': the program's, 'Rt': the document's): definitions and laws; of no statement by themselves. -/
namespace Go.Proofs.YtehfcfpbjenmjaaDoor
open Go.RowKit
set_option linter.unusedVariables false

theorem addk (a o j : Nat) : (⟨a, o, none⟩ : Addr).add j = ⟨a, o + j, none⟩ := by unfold Addr.add; split <;> simp_all
theorem blk_setk {w : World} {a : Nat} {l : List Value} {t : TypeId} (h : w.heap[a]? = some (.cells l.toArray t (0, 0))) (k : Nat) (u : Value) : (w.setCell ⟨a, k, none⟩ u).heap[a]? = some (.cells (l.set k u).toArray t (0, 0)) := by
  have hlt := lt_of_blk h
  have h' : w.heap[a] = .cells l.toArray t (0, 0) := by simpa [Array.getElem?_eq_getElem hlt] using h
  show (w.heap.modify a _)[a]? = _
  rw [Array.getElem?_eq_getElem (by simpa using hlt), Array.getElem_modify_self, h']
  simp
theorem blk_keep {S : Nat → Prop} {w w' : World} {g : Nat} {o : Obj} (h : w.heap[g]? = some o) (hc : Chg S w w') (hS : ¬ S g) : w'.heap[g]? = some o := (hc.block g (lt_of_blk h) hS).trans h
theorem chg_one (w : World) (o : Obj) : Chg (fun _ => False) w (w.alloc o) := (Chg.refl _ w).alloc o
theorem chg_then {a b c : World} (h : Chg (fun _ => False) a b) (k : Chg (fun _ => False) b c) : Chg (fun _ => False) a c := h.trans k (fun _ f => f.elim)
theorem cell_chg {w w' : World} {p : Addr} {v : Value} (h : w.cell? p = some v) (hc : Chg (fun _ => False) w w') : w'.cell? p = some v := by
  rw [World.cell?_of_block (w := w) (hc.block _ (World.block_lt_of_cell? w _ h) (fun f => f))]
  exact h
theorem below_of {w w' : World} (h : Chg (fun _ => False) w w') : Below w.heap.size w w' := h.below (Nat.le_refl _) (fun _ f => f.elim)
theorem chg_drewN (w : World) (n : Nat) : Chg (fun _ => False) w (w.drewN n) := ⟨rfl, rfl, rfl, Nat.le_refl _, fun _ _ _ => rfl⟩

/-- Numbers of one kind as cells. -/
def ins (k : IntKind) (xs : List Int) : List Value := xs.map (Value.int k)
theorem ins_len (k : IntKind) (xs : List Int) : (ins k xs).length = xs.length := by simp [ins]
theorem ins_at (k : IntKind) (xs : List Int) (j : Nat) (h : j < xs.length) : (ins k xs)[j]? = some (.int k xs[j]) := by simp [ins, h]
theorem ins_set (k : IntKind) (xs : List Int) (j : Nat) (p : Int) : (ins k xs).set j (.int k p) = ins k (xs.set j p) := by simp [ins, List.map_set]
theorem ins_one (k : IntKind) (xs : List Int) : ∀ u ∈ ins k xs, u.oneCell' = true := by
  intro u hu
  obtain ⟨x, _, rfl⟩ := List.mem_map.1 hu
  rfl

/-- A row of the call's own, told by its block. -/
theorem own_some {w : World} {B : Nat} {e : TypeId} {v : Value} {n : Nat} {xs : List Value} (h : w.ownsRow B e 1 v n xs) (hn : 0 < n) : ∃ g cap, v = .slice (some ⟨g, 0, none⟩) n cap ∧ n ≤ cap ∧ B ≤ g ∧ g < w.heap.size ∧ w.frozen? ⟨g, 0, none⟩ = false ∧ (∀ j, w.frozen? ⟨g, j, none⟩ = false) ∧ ∀ j u, xs[j]? = some u → w.cell? ⟨g, j, none⟩ = some u := by
  rcases h.2 with ⟨rfl, e0⟩ | ⟨g, cap, cur, rfl, hb, hg, hc, _⟩
  · omega
  · refine ⟨g, cap, rfl, hc, hb, lt_of_blk hg, by simp [World.frozen?, hg], fun j => by simp [World.frozen?, hg], fun j u hu => ?_⟩
    have := h.cells (g := g) rfl j u hu
    rw [addk, Nat.zero_add] at this
    exact this
/-- A row of the call's own, whatever it holds. -/
theorem own_any {w : World} {B : Nat} {e : TypeId} {v : Value} {n : Nat} {xs : List Value} (h : w.ownsRow B e 1 v n xs) : ∃ ad cap, v = .slice ad n cap ∧ (n = 0 ∨ ∃ g, ad = some ⟨g, 0, none⟩) := by
  rcases h.2 with ⟨rfl, rfl⟩ | ⟨g, cap, cur, rfl, _⟩
  · exact ⟨none, 0, rfl, .inl rfl⟩
  · exact ⟨_, cap, rfl, .inr ⟨g, rfl⟩⟩

/-- One cell of an own row is written. -/
theorem own_set {w : World} {B : Nat} {e : TypeId} {g n cap : Nat} {xs : List Value} (h : w.ownsRow B e 1 (.slice (some ⟨g, 0, none⟩) n cap) n xs) (j : Nat) (u : Value) (hj : j < n) :
    (w.setCell ⟨g, j, none⟩ u).ownsRow B e 1 (.slice (some ⟨g, 0, none⟩) n cap) n (xs.set j u) := by
  refine ⟨by rw [List.length_set]; exact h.1, ?_⟩
  rcases h.2 with ⟨e0, _⟩ | ⟨g', cap', cur, e0, hb, hg, hc, hm, hs, ht⟩
  · cases e0
  · simp only [Value.slice.injEq, Option.some.injEq, Addr.mk.injEq, true_and, and_true] at e0
    obtain ⟨rfl, rfl⟩ := e0
    have hg2 : w.heap[g]? = some (.cells cur.toList.toArray e (0, 0)) := by rw [hg]
    refine .inr ⟨g, cap, _, rfl, hb, blk_setk hg2 j u, hc, hm, by simpa using hs, ?_⟩
    rw [← ht]
    simp [List.take_set]

theorem owns_blk {w : World} {B size : Nat} {e : TypeId} {v : Value} {n : Nat} {xs : List Value} (h : w.ownsRow B e size v n xs) {g : Nat} (hg : v.ownBlock = some g) : ∃ cur, w.heap[g]? = some (.cells cur e (0, 0)) := by
  rcases h.2 with ⟨rfl, _⟩ | ⟨g', cap, cur, rfl, hb, hgg, _⟩
  · simp [Value.ownBlock] at hg
  · simp [Value.ownBlock] at hg
    subst hg
    exact ⟨cur, hgg⟩
theorem owns_base {w : World} {B B' : Nat} {e : TypeId} {size : Nat} {v : Value} {n : Nat} {xs : List Value} (h : w.ownsRow B e size v n xs) (hB : B' ≤ B) : w.ownsRow B' e size v n xs := by
  refine ⟨h.1, ?_⟩
  rcases h.2 with hn | ⟨g, cap, cur, rfl, hb, rest⟩
  · exact .inl hn
  · exact .inr ⟨g, cap, cur, rfl, by omega, rest⟩
theorem ty_ne {w : World} {g : Nat} {cs cs' : Array Value} {t t' : TypeId} (h : w.heap[g]? = some (.cells cs t (0, 0))) (h' : w.heap[g]? = some (.cells cs' t' (0, 0))) (hne : t ≠ t') : False := by
  rw [h] at h'
  simp at h'
  exact hne h'.2
theorem info_parts {P : Program} {t : TypeId} {z : Value} {s b : Nat} (h : (P.info? t).map (fun i => (i.zero, i.size, i.bytes)) = some (some z, s, b)) : ∃ i, P.info? t = some i ∧ i.zero = some z ∧ i.size = s ∧ i.bytes = b := by
  cases hi : P.info? t with
  | none => rw [hi] at h; cases h
  | some i => rw [hi] at h; simp at h; exact ⟨i, rfl, h.1, h.2.1, h.2.2⟩

/-- All are probabilities. -/
def In (xs : List Int) : Prop := ∀ p ∈ xs, 0 ≤ p ∧ p ≤ 2047

theorem In.set {xs : List Int} (h : In xs) (j : Nat) (p : Int) (hp : 0 ≤ p ∧ p ≤ 2047) : In (xs.set j p) := fun q hq => by
  rcases List.mem_or_eq_of_mem_set hq with e | e
  · exact h q e
  · subst e; exact hp
theorem In.half (n : Nat) : In (List.replicate n 1024) := fun q hq => by
  obtain ⟨_, rfl⟩ := List.mem_replicate.1 hq
  omega
theorem In.at {xs : List Int} (h : In xs) (j : Nat) (hj : j < xs.length) : 0 ≤ xs[j] ∧ xs[j] ≤ 2047 := h _ (List.getElem_mem hj)
end Go.Proofs.YtehfcfpbjenmjaaDoor

/- A region that draws its order, gone through once an operation, whatever the order: each operation's slot has its own fact, which memory that is only added to does not take away; of no statement by itself. -/
namespace Go.Proofs.YtehfcfpbjenmjaaDoor
open Go.RowKit

/-- One slot told anew. -/
def upd (u : Nat → Value) (t : Nat) (v : Value) : Nat → Value := fun s => if s = t then v else u s

section
variable {P : Program} {ops : Array Oper} {Q : Exit → Act → World → Prop} {F : Nat → Value → World → Prop} {mk : (Nat → Value) → Array Value}

/-- The slot that operation number i writes. -/
def slotOf (ops : Array Oper) (i : Nat) : Nat := ((ops[i]?).bind (·.dst)).getD 0

/-- What an operation waited for has its fact. -/
def Deps (ops : Array Oper) (F : Nat → Value → World → Prop) (u : Nat → Value) (w : World) : List Edge → Prop
  | [] => True
  | e :: es => (Region.binds .any e = true → F (slotOf ops e.on) (u (slotOf ops e.on)) w) ∧ Deps ops F u w es

theorem deps_of {u : Nat → Value} {w : World} : ∀ (es : List Edge), (∀ e ∈ es, Region.binds .any e = true → F (slotOf ops e.on) (u (slotOf ops e.on)) w) → Deps ops F u w es
  | [], _ => trivial
  | e :: es, h => ⟨h e List.mem_cons_self, deps_of es fun x hx => h x (List.mem_cons_of_mem _ hx)⟩

/-- Each operation, from any state in which what it waited for has its fact, gives its slot a value with its own fact, and memory is only added to. -/
def Steps (P : Program) (ops : Array Oper) (Q : Exit → Act → World → Prop) (mk : (Nat → Value) → Array Value) (F : Nat → Value → World → Prop) (w0 : World) : List Oper → Prop
  | [] => True
  | o :: rest => (∀ (u : Nat → Value) (w : World), Chg (fun _ => False) w0 w → Deps ops F u w o.after.toList →
      ∀ K : Act → World → Prop, Shut (∀ v w', Chg (fun _ => False) w w' → F (o.dst.getD 0) v w' → K ((⟨mk u, []⟩ : Act).put o.dst v) w') →
      if Region.wanted o (yielded ops (mk u)) = true then Oper.wp P o ⟨mk u, []⟩ w K Q else K ((⟨mk u, []⟩ : Act).put o.dst undef) w) ∧ Steps P ops Q mk F w0 rest

/-- Writing an operation's slot is telling it anew. -/
def Puts (mk : (Nat → Value) → Array Value) : List Oper → Prop
  | [] => True
  | o :: rest => (∃ t, o.dst = some t ∧ ∀ u v, (mk u).setIfInBounds t v = mk (upd u t v)) ∧ Puts mk rest

/-- All slots have their facts. -/
def Alls (F : Nat → Value → World → Prop) (u : Nat → Value) (w : World) : List Oper → Prop
  | [] => True
  | o :: rest => F (o.dst.getD 0) (u (o.dst.getD 0)) w ∧ Alls F u w rest

theorem alls_of {u : Nat → Value} {w : World} : ∀ (l : List Oper), (∀ o ∈ l, F (o.dst.getD 0) (u (o.dst.getD 0)) w) → Alls F u w l
  | [], _ => trivial
  | o :: l, h => ⟨h o List.mem_cons_self, alls_of l fun x hx => h x (List.mem_cons_of_mem _ hx)⟩

theorem steps_at {w0 : World} : ∀ {l : List Oper}, Steps P ops Q mk F w0 l → ∀ o ∈ l, ∀ (u : Nat → Value) (w : World), Chg (fun _ => False) w0 w → Deps ops F u w o.after.toList →
      ∀ K : Act → World → Prop, Shut (∀ v w', Chg (fun _ => False) w w' → F (o.dst.getD 0) v w' → K ((⟨mk u, []⟩ : Act).put o.dst v) w') →
      if Region.wanted o (yielded ops (mk u)) = true then Oper.wp P o ⟨mk u, []⟩ w K Q else K ((⟨mk u, []⟩ : Act).put o.dst undef) w
  | [], _, o, ho => by cases ho
  | o' :: l, h, o, ho => by
    rcases List.mem_cons.1 ho with e | e
    · subst e; exact h.1
    · exact steps_at h.2 o e

theorem puts_at : ∀ {l : List Oper}, Puts mk l → ∀ o ∈ l, ∃ t, o.dst = some t ∧ ∀ u v, (mk u).setIfInBounds t v = mk (upd u t v)
  | [], _, o, ho => by cases ho
  | o' :: l, h, o, ho => by
    rcases List.mem_cons.1 ho with e | e
    · subst e; exact h.1
    · exact puts_at h.2 o e

/-- The operations' slots are distinct, and none waits for a later one. -/
def tidy (ops : Array Oper) : Bool :=
  (List.range ops.size).all fun i => (List.range ops.size).all (fun j => i == j || slotOf ops i != slotOf ops j) && ((ops[i]?).map fun o => o.after.toList.all fun e => decide (e.on < i)).getD true

theorem tidy_slot (h : tidy ops = true) {i j : Nat} (hi : i < ops.size) (hj : j < ops.size) (e : slotOf ops i = slotOf ops j) : i = j := by
  have h1 := List.all_eq_true.1 h i (List.mem_range.2 hi)
  simp only [Bool.and_eq_true] at h1
  have h2 := List.all_eq_true.1 h1.1 j (List.mem_range.2 hj)
  simpa [e] using h2

theorem tidy_after (h : tidy ops = true) {i : Nat} {o : Oper} (ho : ops[i]? = some o) {e : Edge} (he : e ∈ o.after) : e.on < i := by
  have hi : i < ops.size := (Array.getElem?_eq_some_iff.1 ho).1
  have h1 := List.all_eq_true.1 h i (List.mem_range.2 hi)
  simp only [Bool.and_eq_true, ho, Option.map_some, Option.getD_some] at h1
  have h2 := List.all_eq_true.1 h1.2 e (by simpa using he)
  simpa using h2

theorem slotOf_eq {i t : Nat} {o : Oper} (ho : ops[i]? = some o) (hd : o.dst = some t) : slotOf ops i = t := by simp [slotOf, ho, hd]

theorem free_go (w0 : World) (ht : tidy ops = true) (hp : Puts mk ops.toList) (hst : ∀ t v w w', Chg (fun _ => False) w w' → F t v w → F t v w')
    (hs : Steps P ops Q mk F w0 ops.toList) (hend : ∀ u w, Chg (fun _ => False) w0 w → Alls F u w ops.toList → Q .normal ⟨mk u, []⟩ w) :
    ∀ (fuel : Nat) (listed : Array Bool) (u : Nat → Value) (w : World), listed.size = ops.size → listed.toList.countP (fun b => !b) ≤ fuel → Chg (fun _ => False) w0 w →
      (∀ i, i < ops.size → listed.getD i false = true → F (slotOf ops i) (u (slotOf ops i)) w) → wpAny P .any ops Q fuel listed ⟨mk u, []⟩ w := by
  have hfin : ∀ (listed : Array Bool) (u : Nat → Value) (w : World), listed.size = ops.size → Chg (fun _ => False) w0 w →
      (∀ i, i < ops.size → listed.getD i false = true → F (slotOf ops i) (u (slotOf ops i)) w) → Region.ready .any ops listed = [] → Q .normal ⟨mk u, []⟩ w := by
    intro listed u w hsz hc hF hr
    have hall : ∀ i, i < ops.size → listed.getD i false = true := by
      intro i
      induction i using Nat.strongRecOn with
      | ind i ih =>
        intro hi
        cases hl : listed.getD i false with
        | true => rfl
        | false =>
          exfalso
          have : i ∈ Region.ready .any ops listed := by
            refine mem_ready.2 ⟨?_, ops[i], Array.getElem?_eq_getElem hi, fun e he _ => ?_⟩
            · have hi' : i < listed.size := by omega
              simpa [hi'] using hl
            · have := tidy_after ht (Array.getElem?_eq_getElem hi) he
              exact ih _ this (by omega)
          rw [hr] at this
          cases this
    refine hend u w hc (alls_of _ fun o ho => ?_)
    obtain ⟨i, hi, he⟩ := List.mem_iff_getElem.1 ho
    have hi' : i < ops.size := by simpa using hi
    obtain ⟨t, hd, _⟩ := puts_at hp o ho
    have hoi : ops[i]? = some o := by rw [Array.getElem?_eq_getElem hi', ← he]; simp
    have := hF i hi' (hall i hi')
    rw [slotOf_eq hoi hd] at this
    simpa [hd] using this
  intro fuel
  induction fuel with
  | zero =>
    intro listed u w hsz hn hc hF
    have hr : Region.ready .any ops listed = [] := by
      cases h : Region.ready .any ops listed with
      | nil => rfl
      | cons j l =>
        exfalso
        have hj : j ∈ Region.ready .any ops listed := by rw [h]; exact List.mem_cons_self
        obtain ⟨h0, o, ho, _⟩ := mem_ready.1 hj
        have hjs : j < listed.size := by have := (Array.getElem?_eq_some_iff.1 ho).1; omega
        have h1 : listed[j] = false := by simpa [hjs] using h0
        have h2 : 0 < listed.toList.countP (fun b => !b) := List.countP_pos_iff.2 ⟨false, by rw [← h1]; simp, rfl⟩
        omega
    exact ⟨hr, hfin listed u w hsz hc hF hr⟩
  | succ fuel ih =>
    intro listed u w hsz hn hc hF
    refine ⟨hfin listed u w hsz hc hF, fun i hi => ?_⟩
    obtain ⟨h0, o, ho, hall⟩ := mem_ready.1 hi
    have hio : i < ops.size := (Array.getElem?_eq_some_iff.1 ho).1
    have his : i < listed.size := by omega
    have hl0 : listed[i] = false := by simpa [his] using h0
    have hmem : o ∈ ops.toList := by
      have := (Array.getElem?_eq_some_iff.1 ho).2
      rw [← this]
      simp
    obtain ⟨t, hd, hput⟩ := puts_at hp o hmem
    refine wpOp_step ho (fun K hK => steps_at hs o hmem u w hc (deps_of _ fun e he hb => ?_) K ?_)
    · have he' : e ∈ o.after := by simpa using he
      have := tidy_after ht ho he'
      exact hF e.on (by omega) (hall e he' hb)
    · intro v w' hcw hFv
      refine hK _ _ ?_
      rw [hd] at hFv ⊢
      have e1 : (⟨mk u, []⟩ : Act).put (some t) v = ⟨mk (upd u t v), []⟩ := by
        show Act.mk ((mk u).setIfInBounds t v) [] = _
        rw [hput]
      rw [e1]
      refine ih _ _ w' (by simpa using hsz) ?_ (hc.trans hcw (fun _ f => f.elim)) ?_
      · have : (listed.setIfInBounds i true).toList = listed.toList.set i true := by simp
        rw [this, List.countP_set (by simpa using his)]
        have h2 : 0 < listed.toList.countP (fun b => !b) := List.countP_pos_iff.2 ⟨false, by rw [← hl0]; simp, rfl⟩
        have h3 : (!(listed.toList[i]'(by simpa using his))) = true := by simp [hl0]
        rw [if_pos h3]
        simp only [Bool.not_true, Bool.false_eq_true, if_false]
        omega
      · intro j hj hlj
        by_cases e : j = i
        · subst e
          rw [slotOf_eq ho hd]
          simpa [upd] using hFv
        · have hne : slotOf ops j ≠ t := fun h => e (tidy_slot ht hj hio (by rw [h, slotOf_eq ho hd]))
          have hlj' : listed.getD j false = true := by
            rw [getD_set_ne false (Ne.symm e)] at hlj
            exact hlj
          have := hst _ _ _ _ hcw (hF j hj hlj')
          simpa [upd, hne] using this

/-- THE LAW: a region that draws its order, each operation shown once. -/
theorem wp_region_free {id : Nat} {a : Act} {w0 : World} (mk : (Nat → Value) → Array Value) (F : Nat → Value → World → Prop) (u0 : Nat → Value) (ha : a = ⟨mk u0, []⟩) (hm : P.follows .mixedOrders = true) (ht : tidy ops = true) (hp : Puts mk ops.toList)
    (hst : ∀ t v w w', Chg (fun _ => False) w w' → F t v w → F t v w')
    (hs : Steps P ops Q mk F w0 ops.toList) (hend : ∀ u w, Chg (fun _ => False) w0 w → Alls F u w ops.toList → Q .normal ⟨mk u, []⟩ w) : (Code.region id ops true).wp P Q a w0 := by
  subst ha
  refine wp_region_any hm (free_go w0 ht hp hst hs hend _ _ u0 _ (by simp) ?_ ((Chg.refl _ w0).drew) ?_)
  · have := List.countP_le_length (p := fun b => !b) (l := (Array.replicate ops.size false).toList)
    simpa using this
  · intro i hi h
    simp [hi] at h
end
end Go.Proofs.YtehfcfpbjenmjaaDoor

/- A region that draws its order and whose last operation, for which all others are waited, writes memory: gone through once an operation; of no statement by itself. -/
namespace Go.Proofs.YtehfcfpbjenmjaaDoor
open Go.RowKit

section
variable {P : Program} {ops : Array Oper} {Q : Exit → Act → World → Prop} {F : Nat → Value → World → Prop} {mk : (Nat → Value) → Array Value}

/-- The first n operations' slots are distinct, none waits for a later one, and for each a later one waits. -/
def tidyL (ops : Array Oper) (n : Nat) : Bool :=
  ((List.range n).all fun i => (List.range n).all (fun j => i == j || slotOf ops i != slotOf ops j) && ((List.range (n + 1)).any fun j => decide (i < j) && ((ops[j]?).map fun o => o.after.toList.any fun e => e.on == i && Region.binds .any e).getD false))
  && (List.range (n + 1)).all fun i => ((ops[i]?).map fun o => o.after.toList.all fun e => decide (e.on < i)).getD true

theorem tidyL_slot {n : Nat} (h : tidyL ops n = true) {i j : Nat} (hi : i < n) (hj : j < n) (e : slotOf ops i = slotOf ops j) : i = j := by
  simp only [tidyL, Bool.and_eq_true] at h
  have h1 := List.all_eq_true.1 h.1 i (List.mem_range.2 hi)
  simp only [Bool.and_eq_true] at h1
  have h2 := List.all_eq_true.1 h1.1 j (List.mem_range.2 hj)
  simpa [e] using h2

theorem tidyL_after {n : Nat} (h : tidyL ops n = true) {i : Nat} (hi : i < n + 1) {o : Oper} (ho : ops[i]? = some o) {e : Edge} (he : e ∈ o.after) : e.on < i := by
  simp only [tidyL, Bool.and_eq_true] at h
  have h1 := List.all_eq_true.1 h.2 i (List.mem_range.2 hi)
  simp only [ho, Option.map_some, Option.getD_some] at h1
  have h2 := List.all_eq_true.1 h1 e (by simpa using he)
  simpa using h2

theorem tidyL_wait {n : Nat} (h : tidyL ops n = true) {i : Nat} (hi : i < n) : ∃ j o e, i < j ∧ j < n + 1 ∧ ops[j]? = some o ∧ e ∈ o.after ∧ e.on = i ∧ Region.binds .any e = true := by
  simp only [tidyL, Bool.and_eq_true] at h
  have h1 := List.all_eq_true.1 h.1 i (List.mem_range.2 hi)
  simp only [Bool.and_eq_true] at h1
  obtain ⟨j, hj, h2⟩ := List.any_eq_true.1 h1.2
  simp only [Bool.and_eq_true, decide_eq_true_eq] at h2
  cases ho : ops[j]? with
  | none => simp [ho] at h2
  | some o =>
    simp only [ho, Option.map_some, Option.getD_some] at h2
    obtain ⟨e, he, h3⟩ := List.any_eq_true.1 h2.2
    simp only [Bool.and_eq_true, beq_iff_eq] at h3
    exact ⟨j, o, e, h2.1, List.mem_range.1 hj, ho, by simpa using he, h3.1, h3.2⟩

theorem last_go (w0 : World) (front : List Oper) (last : Oper) (hops : ops.toList = front ++ [last]) (ht : tidyL ops front.length = true) (hp : Puts mk front) (hst : ∀ t v w w', Chg (fun _ => False) w w' → F t v w → F t v w')
    (hs : Steps P ops Q mk F w0 front)
    (hend : ∀ u w, Chg (fun _ => False) w0 w → Alls F u w front → ∀ K : Act → World → Prop, Shut (∀ a w', Q .normal a w' → K a w') →
      if Region.wanted last (yielded ops (mk u)) = true then Oper.wp P last ⟨mk u, []⟩ w K Q else K ((⟨mk u, []⟩ : Act).put last.dst undef) w) :
    ∀ (fuel : Nat) (listed : Array Bool) (u : Nat → Value) (w : World), listed.size = ops.size → listed.toList.countP (fun b => !b) ≤ fuel → Chg (fun _ => False) w0 w →
      listed.getD front.length false = false →
      (∀ i o e, listed.getD i false = true → ops[i]? = some o → e ∈ o.after → Region.binds .any e = true → listed.getD e.on false = true) →
      (∀ i, i < front.length → listed.getD i false = true → F (slotOf ops i) (u (slotOf ops i)) w) → wpAny P .any ops Q fuel listed ⟨mk u, []⟩ w := by
  have hsz0 : ops.size = front.length + 1 := by
    have := congrArg List.length hops
    simpa using this
  have hfr : ∀ i, i < front.length → ∃ o, ops[i]? = some o ∧ o ∈ front := by
    intro i hi
    refine ⟨front[i], ?_, List.getElem_mem _⟩
    rw [← Array.getElem?_toList, hops, List.getElem?_append_left hi, List.getElem?_eq_getElem hi]
  have hla : ops[front.length]? = some last := by
    rw [← Array.getElem?_toList, hops]
    simp
  have hno : ∀ (listed : Array Bool), listed.size = ops.size → listed.getD front.length false = false → Region.ready .any ops listed = [] → False := by
    intro listed hsz hl hr
    have hall : ∀ i, i < ops.size → listed.getD i false = true := by
      intro i
      induction i using Nat.strongRecOn with
      | ind i ih =>
        intro hi
        cases hl : listed.getD i false with
        | true => rfl
        | false =>
          exfalso
          have : i ∈ Region.ready .any ops listed := by
            refine mem_ready.2 ⟨?_, ops[i], Array.getElem?_eq_getElem hi, fun e he _ => ?_⟩
            · have hi' : i < listed.size := by omega
              simpa [hi'] using hl
            · have := tidyL_after ht (by omega) (Array.getElem?_eq_getElem hi) he
              exact ih _ this (by omega)
          rw [hr] at this
          cases this
    rw [hall _ (by omega)] at hl
    cases hl
  intro fuel
  induction fuel with
  | zero =>
    intro listed u w hsz hn hc hL hC hF
    exfalso
    have hjs : front.length < listed.size := by omega
    have h1 : listed[front.length] = false := by simpa [hjs] using hL
    have h2 : 0 < listed.toList.countP (fun b => !b) := List.countP_pos_iff.2 ⟨false, by rw [← h1]; simp, rfl⟩
    omega
  | succ fuel ih =>
    intro listed u w hsz hn hc hL hC hF
    refine ⟨fun hr => (hno listed hsz hL hr).elim, fun i hi => ?_⟩
    obtain ⟨h0, o, ho, hall⟩ := mem_ready.1 hi
    have hio : i < ops.size := (Array.getElem?_eq_some_iff.1 ho).1
    have his : i < listed.size := by omega
    have hl0 : listed[i] = false := by simpa [his] using h0
    have hcnt : (listed.setIfInBounds i true).toList.countP (fun b => !b) ≤ fuel := by
      have : (listed.setIfInBounds i true).toList = listed.toList.set i true := by simp
      rw [this, List.countP_set (by simpa using his)]
      have h2 : 0 < listed.toList.countP (fun b => !b) := List.countP_pos_iff.2 ⟨false, by rw [← hl0]; simp, rfl⟩
      have h3 : (!(listed.toList[i]'(by simpa using his))) = true := by simp [hl0]
      rw [if_pos h3]
      simp only [Bool.not_true, Bool.false_eq_true, if_false]
      omega
    by_cases hin : i < front.length
    · obtain ⟨o', ho', hmem⟩ := hfr i hin
      obtain rfl : o' = o := Option.some.inj (ho'.symm.trans ho)
      obtain ⟨t, hd, hput⟩ := puts_at hp o' hmem
      refine wpOp_step ho (fun K hK => steps_at hs o' hmem u w hc (deps_of _ fun e he hb => ?_) K ?_)
      · have he' : e ∈ o'.after := by simpa using he
        have := tidyL_after ht (by omega) ho he'
        exact hF e.on (by omega) (hall e he' hb)
      · intro v w' hcw hFv
        refine hK _ _ ?_
        rw [hd] at hFv ⊢
        have e1 : (⟨mk u, []⟩ : Act).put (some t) v = ⟨mk (upd u t v), []⟩ := by
          show Act.mk ((mk u).setIfInBounds t v) [] = _
          rw [hput]
        rw [e1]
        refine ih _ _ w' (by simpa using hsz) hcnt (hc.trans hcw (fun _ f => f.elim)) ?_ ?_ ?_
        · rw [getD_set_ne false (by omega)]
          exact hL
        · intro j oj e hlj hoj he hb
          by_cases ej : j = i
          · subst ej
            obtain rfl : oj = o' := Option.some.inj (hoj.symm.trans ho)
            have := tidyL_after ht (by omega) ho he
            rw [getD_set_ne false (by omega)]
            exact hall e he hb
          · rw [getD_set_ne false (Ne.symm ej)] at hlj
            have := hC j oj e hlj hoj he hb
            by_cases ee : e.on = i
            · rw [ee]
              simp [his]
            · rw [getD_set_ne false (Ne.symm ee)]
              exact this
        · intro j hj hlj
          by_cases e : j = i
          · subst e
            rw [slotOf_eq ho hd]
            simpa [upd] using hFv
          · have hne : slotOf ops j ≠ t := fun h => e (tidyL_slot ht hj hin (by rw [h, slotOf_eq ho hd]))
            have hlj' : listed.getD j false = true := by
              rw [getD_set_ne false (Ne.symm e)] at hlj
              exact hlj
            have := hst _ _ _ _ hcw (hF j hj hlj')
            simpa [upd, hne] using this
    · obtain rfl : i = front.length := by omega
      obtain rfl : last = o := Option.some.inj (hla.symm.trans ho)
      have hall2 : ∀ d j, j + d + 1 = front.length → listed.getD j false = true := by
        intro d
        induction d using Nat.strongRecOn with
        | ind d ihd =>
          intro j hj
          obtain ⟨k, o, e, hjk, hkn, hok, he, heo, hb⟩ := tidyL_wait ht (show j < front.length by omega)
          by_cases hk : k = front.length
          · subst hk
            obtain rfl : o = last := Option.some.inj (hok.symm.trans ho)
            have := hall e he hb
            rwa [heo] at this
          · have h1 := ihd (front.length - k - 1) (by omega) k (by omega)
            have := hC k o e h1 hok he hb
            rwa [heo] at this
      have hA : Alls F u w front := by
        refine alls_of _ fun o hmo => ?_
        obtain ⟨j, hj, rfl⟩ := List.mem_iff_getElem.1 hmo
        obtain ⟨t, hd, _⟩ := puts_at hp _ hmo
        have hoj : ops[j]? = some front[j] := by rw [← Array.getElem?_toList, hops, List.getElem?_append_left hj, List.getElem?_eq_getElem hj]
        have := hF j hj (hall2 (front.length - j - 1) j (by omega))
        rw [slotOf_eq hoj hd] at this
        simpa [hd] using this
      refine wpOp_step ho (fun K hK => hend u w hc hA K (fun a w' hq => hK _ _ ?_))
      have hr : Region.ready .any ops (listed.setIfInBounds front.length true) = [] := by
        cases h : Region.ready .any ops (listed.setIfInBounds front.length true) with
        | nil => rfl
        | cons j l =>
          exfalso
          have hj : j ∈ Region.ready .any ops (listed.setIfInBounds front.length true) := by rw [h]; exact List.mem_cons_self
          obtain ⟨h0, o, ho, _⟩ := mem_ready.1 hj
          have hjs : j < ops.size := (Array.getElem?_eq_some_iff.1 ho).1
          by_cases e : j = front.length
          · subst e
            simp [his] at h0
          · have := hall2 (front.length - j - 1) j (by omega)
            have h1 : (listed.setIfInBounds front.length true).getD j false = true := by rw [getD_set_ne false (Ne.symm e)]; exact this
            have hj2 : j < (listed.setIfInBounds front.length true).size := by simp; omega
            rw [Array.getD_eq_getD_getElem?, Array.getElem?_eq_getElem hj2] at h1
            simp only [Option.getD_some] at h1
            rw [Array.getD_eq_getD_getElem?, Array.getElem?_eq_getElem hj2] at h0
            simp only [Option.getD_some] at h0
            rw [h1] at h0
            cases h0
      cases fuel with
      | zero => exact ⟨hr, hq⟩
      | succ f => exact ⟨fun _ => hq, fun i hi => by rw [hr] at hi; cases hi⟩

theorem rep_getD (n i : Nat) : (Array.replicate n false).getD i false = false := by
  rw [Array.getD_eq_getD_getElem?, Array.getElem?_replicate]
  split <;> rfl

/-- THE LAW: a region that draws its order; its last operation, for which all others are waited, is the prover's. -/
theorem wp_region_last {id : Nat} {a : Act} {w0 : World} (mk : (Nat → Value) → Array Value) (F : Nat → Value → World → Prop) (u0 : Nat → Value) (ha : a = ⟨mk u0, []⟩) (hm : P.follows .mixedOrders = true) (n : Nat) (last : Oper) (hn : ops.size = n + 1) (hl : ops[n]? = some last) (ht : tidyL ops n = true) (hp : Puts mk (ops.toList.take n))
    (hst : ∀ t v w w', Chg (fun _ => False) w w' → F t v w → F t v w')
    (hs : Steps P ops Q mk F w0 (ops.toList.take n))
    (hend : ∀ u w, Chg (fun _ => False) w0 w → Alls F u w (ops.toList.take n) → ∀ K : Act → World → Prop, Shut (∀ a w', Q .normal a w' → K a w') →
      if Region.wanted last (yielded ops (mk u)) = true then Oper.wp P last ⟨mk u, []⟩ w K Q else K ((⟨mk u, []⟩ : Act).put last.dst undef) w) : (Code.region id ops true).wp P Q a w0 := by
  subst ha
  have hlen : (ops.toList.take n).length = n := by simp; omega
  have hops : ops.toList = ops.toList.take n ++ [last] := by
    have h1 : ops.toList[n]? = some last := by simpa using hl
    obtain ⟨h2, h3⟩ := List.getElem?_eq_some_iff.1 h1
    have h4 := List.take_succ_eq_append_getElem h2
    rw [h3] at h4
    rw [← h4, List.take_of_length_le (by simp; omega)]
  refine wp_region_any hm (last_go w0 (ops.toList.take n) last hops (by rw [hlen]; exact ht) hp hst hs hend _ _ u0 _ (by simp) ?_ ((Chg.refl _ w0).drew) ?_ ?_ ?_)
  · have := List.countP_le_length (p := fun b => !b) (l := (Array.replicate ops.size false).toList)
    simpa using this
  · exact rep_getD _ _
  · intro i o e h
    rw [rep_getD] at h
    cases h
  · intro i hi h
    rw [rep_getD] at h
    cases h
end
end Go.Proofs.YtehfcfpbjenmjaaDoor

/- What a slot of a region may be known to hold ('Fact'): a value, a block; that memory that is only added to keeps it; of no statement by itself. -/
namespace Go.Proofs.YtehfcfpbjenmjaaDoor
open Go.RowKit

inductive Fact where
  | any
  | val (v : Value)
  | blk (B : Nat) (cs : List Value) (t : TypeId)
  | is (p : Value → World → Prop)

def Fact.holds : Fact → Value → World → Prop
  | .any, _, _ => True
  | .val u, v, _ => v = u
  | .blk B cs t, v, w => ∃ g, v = .pointer (some ⟨g, 0, none⟩) ∧ B ≤ g ∧ w.heap[g]? = some (.cells cs.toArray t (0, 0))
  | .is p, v, w => ∃ w0, p v w0 ∧ Chg (fun _ => False) w0 w

theorem Fact.stays (f : Fact) (v : Value) (w w' : World) (hc : Chg (fun _ => False) w w') (h : f.holds v w) : f.holds v w' := by
  cases f with
  | any => trivial
  | val u => exact h
  | blk B cs t => obtain ⟨g, e, hB, hb⟩ := h; exact ⟨g, e, hB, blk_keep hb hc (fun f => f)⟩
  | is p => obtain ⟨w0, e, hp⟩ := h; exact ⟨w0, e, chg_then hp hc⟩

theorem Deps.get {ops : Array Oper} {F : Nat → Value → World → Prop} {u : Nat → Value} {w : World} : ∀ {es : List Edge}, Deps ops F u w es → ∀ i, (es.any fun e => e.on == i && Region.binds .any e) = true → F (slotOf ops i) (u (slotOf ops i)) w
  | [], _, i, h => by cases h
  | e :: es, hd, i, h => by
    rw [List.any_cons, Bool.or_eq_true] at h
    rcases h with h | h
    · simp only [Bool.and_eq_true, beq_iff_eq] at h
      obtain ⟨rfl, h⟩ := h
      exact hd.1 h
    · exact Deps.get hd.2 i h

theorem Alls.at {F : Nat → Value → World → Prop} {u : Nat → Value} {w : World} : ∀ {l : List Oper}, Alls F u w l → ∀ t, (l.any fun o => o.dst.getD 0 == t) = true → F t (u t) w
  | [], _, t, h => by cases h
  | o :: l, hd, t, h => by
    rw [List.any_cons, Bool.or_eq_true] at h
    rcases h with h | h
    · simp only [beq_iff_eq] at h
      subst h
      exact hd.1
    · exact Alls.at hd.2 t h

/-- Facts by a list of slots. -/
def look (l : List (Nat × Fact)) (t : Nat) : Fact := (l.lookup t).getD .any

end Go.Proofs.YtehfcfpbjenmjaaDoor

/- A region that draws its order; some of its operations (calls, appends), each behind the one before, turn memory: a state goes on with each of them ('J'); all others only read: gone through once an operation; of no statement by itself. -/
namespace Go.Proofs.YtehfcfpbjenmjaaDoor
open Go.RowKit

section
variable {P : Program} {ops : Array Oper} {Q : Exit → Act → World → Prop} {G : Nat → Value → Prop} {J : Nat → (Nat → Value) → World → Prop} {mk : (Nat → Value) → Array Value}

/-- Facts of slots, by a list. -/
def lookG (l : List (Nat × Value)) (t : Nat) (v : Value) : Prop := match l.lookup t with | some x => v = x | none => True

/-- Each of these operations waits for the one before. -/
def chainOk (ops : Array Oper) : List Nat → Bool
  | a :: b :: r => ((ops[b]?).map fun o => o.after.toList.any fun e => e.on == a && Region.binds .any e).getD false && chainOk ops (b :: r)
  | _ => true

theorem chain_wait : ∀ {ms : List Nat}, chainOk ops ms = true → ∀ k (h : k + 1 < ms.length), ∃ o e, ops[ms[k + 1]]? = some o ∧ e ∈ o.after ∧ e.on = ms[k] ∧ Region.binds .any e = true
  | [], _, k, h => by simp at h
  | [a], _, k, h => by simp at h
  | a :: b :: r, hc, 0, h => by
    simp only [chainOk, Bool.and_eq_true] at hc
    cases ho : ops[b]? with
    | none => simp [ho] at hc
    | some o =>
      simp only [ho, Option.map_some, Option.getD_some] at hc
      obtain ⟨e, he, h3⟩ := List.any_eq_true.1 hc.1
      simp only [Bool.and_eq_true, beq_iff_eq] at h3
      exact ⟨o, e, by simpa using ho, by simpa using he, by simpa using h3.1, h3.2⟩
  | a :: b :: r, hc, k + 1, h => by
    simp only [chainOk, Bool.and_eq_true] at hc
    have := chain_wait hc.2 k (by simpa using h)
    simpa using this

/-- An operation that only reads: in every state it gives its slot a value with its own fact. -/
def StepR (P : Program) (ops : Array Oper) (Q : Exit → Act → World → Prop) (mk : (Nat → Value) → Array Value) (G : Nat → Value → Prop) (J : Nat → (Nat → Value) → World → Prop) (o : Oper) : Prop :=
  ∀ (q : Nat) (u : Nat → Value) (w : World), J q u w → Deps ops (fun t v _ => G t v) u w o.after.toList →
      ∀ K : Act → World → Prop, Shut (∀ v, G (o.dst.getD 0) v → K ((⟨mk u, []⟩ : Act).put o.dst v) w) →
      if Region.wanted o (yielded ops (mk u)) = true then Oper.wp P o ⟨mk u, []⟩ w K Q else K ((⟨mk u, []⟩ : Act).put o.dst undef) w
/-- An operation that turns memory: from the state q to the next. -/
def StepW (P : Program) (ops : Array Oper) (Q : Exit → Act → World → Prop) (mk : (Nat → Value) → Array Value) (G : Nat → Value → Prop) (J : Nat → (Nat → Value) → World → Prop) (q : Nat) (o : Oper) : Prop :=
  ∀ (u : Nat → Value) (w : World), J q u w → Deps ops (fun t v _ => G t v) u w o.after.toList →
      ∀ K : Act → World → Prop, Shut (∀ v w', J (q + 1) (upd u (o.dst.getD 0) v) w' → G (o.dst.getD 0) v → K ((⟨mk u, []⟩ : Act).put o.dst v) w') →
      if Region.wanted o (yielded ops (mk u)) = true then Oper.wp P o ⟨mk u, []⟩ w K Q else K ((⟨mk u, []⟩ : Act).put o.dst undef) w
/-- The operations from number i on, those of ms turning memory. -/
def StepsP (P : Program) (ops : Array Oper) (Q : Exit → Act → World → Prop) (mk : (Nat → Value) → Array Value) (G : Nat → Value → Prop) (J : Nat → (Nat → Value) → World → Prop) (ms : List Nat) : Nat → List Oper → Prop
  | _, [] => True
  | i, o :: r => (match ms.idxOf? i with | none => StepR P ops Q mk G J o | some q => StepW P ops Q mk G J q o) ∧ StepsP P ops Q mk G J ms (i + 1) r

theorem stepsP_at {ms : List Nat} : ∀ {l : List Oper} {b : Nat}, StepsP P ops Q mk G J ms b l → ∀ k o, l[k]? = some o → (match ms.idxOf? (b + k) with | none => StepR P ops Q mk G J o | some q => StepW P ops Q mk G J q o)
  | [], _, _, k, o, h => by simp at h
  | o' :: l, b, hs, 0, o, h => by
    simp only [List.getElem?_cons_zero, Option.some.injEq] at h
    subst h
    exact hs.1
  | o' :: l, b, hs, k + 1, o, h => by
    rw [List.getElem?_cons_succ] at h
    have := stepsP_at hs.2 k o h
    rw [show b + (k + 1) = b + 1 + k by omega]
    exact this

theorem phase_go (front : List Oper) (last : Oper) (ms : List Nat) (hops : ops.toList = front ++ [last]) (ht : tidyL ops front.length = true) (hch : chainOk ops ms = true) (hmn : ms.all (fun m => decide (m < front.length)) = true) (hnd : ms.Nodup) (hp : Puts mk front)
    (hJ : ∀ q u u' w, (∀ m ∈ ms, u (slotOf ops m) = u' (slotOf ops m)) → J q u w → J q u' w)
    (hs : StepsP P ops Q mk G J ms 0 front)
    (hend : ∀ u w, J ms.length u w → Alls (fun t v _ => G t v) u w front → ∀ K : Act → World → Prop, Shut (∀ a w', Q .normal a w' → K a w') →
      if Region.wanted last (yielded ops (mk u)) = true then Oper.wp P last ⟨mk u, []⟩ w K Q else K ((⟨mk u, []⟩ : Act).put last.dst undef) w) :
    ∀ (fuel : Nat) (listed : Array Bool) (u : Nat → Value) (w : World), listed.size = ops.size → listed.toList.countP (fun b => !b) ≤ fuel →
      listed.getD front.length false = false →
      (∀ i o e, listed.getD i false = true → ops[i]? = some o → e ∈ o.after → Region.binds .any e = true → listed.getD e.on false = true) →
      (∃ q, q ≤ ms.length ∧ (∀ k (h : k < ms.length), k < q → listed.getD ms[k] false = true) ∧ (∀ k (h : k < ms.length), q ≤ k → listed.getD ms[k] false = false) ∧ J q u w) →
      (∀ i, i < front.length → listed.getD i false = true → G (slotOf ops i) (u (slotOf ops i))) → wpAny P .any ops Q fuel listed ⟨mk u, []⟩ w := by
  have hsz0 : ops.size = front.length + 1 := by
    have := congrArg List.length hops
    simpa using this
  have hmlt : ∀ k (h : k < ms.length), ms[k] < front.length := fun k h => by
    have := List.all_eq_true.1 hmn ms[k] (List.getElem_mem h)
    simpa using this
  have hfr : ∀ i, i < front.length → ∃ o, ops[i]? = some o ∧ o ∈ front := by
    intro i hi
    refine ⟨front[i], ?_, List.getElem_mem _⟩
    rw [← Array.getElem?_toList, hops, List.getElem?_append_left hi, List.getElem?_eq_getElem hi]
  have hla : ops[front.length]? = some last := by
    rw [← Array.getElem?_toList, hops]
    simp
  have hno : ∀ (listed : Array Bool), listed.size = ops.size → listed.getD front.length false = false → Region.ready .any ops listed = [] → False := by
    intro listed hsz hl hr
    have hall : ∀ i, i < ops.size → listed.getD i false = true := by
      intro i
      induction i using Nat.strongRecOn with
      | ind i ih =>
        intro hi
        cases hl : listed.getD i false with
        | true => rfl
        | false =>
          exfalso
          have : i ∈ Region.ready .any ops listed := by
            refine mem_ready.2 ⟨?_, ops[i], Array.getElem?_eq_getElem hi, fun e he _ => ?_⟩
            · have hi' : i < listed.size := by omega
              simpa [hi'] using hl
            · have := tidyL_after ht (by omega) (Array.getElem?_eq_getElem hi) he
              exact ih _ this (by omega)
          rw [hr] at this
          cases this
    rw [hall _ (by omega)] at hl
    cases hl
  intro fuel
  induction fuel with
  | zero =>
    intro listed u w hsz hn hL hC hq hF
    exfalso
    have hjs : front.length < listed.size := by omega
    have h1 : listed[front.length] = false := by simpa [hjs] using hL
    have h2 : 0 < listed.toList.countP (fun b => !b) := List.countP_pos_iff.2 ⟨false, by rw [← h1]; simp, rfl⟩
    omega
  | succ fuel ih =>
    intro listed u w hsz hn hL hC hq hF
    refine ⟨fun hr => (hno listed hsz hL hr).elim, fun i hi => ?_⟩
    obtain ⟨h0, o, ho, hall⟩ := mem_ready.1 hi
    have hio : i < ops.size := (Array.getElem?_eq_some_iff.1 ho).1
    have his : i < listed.size := by omega
    have hl0 : listed[i] = false := by simpa [his] using h0
    have hli : listed.getD i false = false := by simpa [his] using hl0
    have hcnt : (listed.setIfInBounds i true).toList.countP (fun b => !b) ≤ fuel := by
      have : (listed.setIfInBounds i true).toList = listed.toList.set i true := by simp
      rw [this, List.countP_set (by simpa using his)]
      have h2 : 0 < listed.toList.countP (fun b => !b) := List.countP_pos_iff.2 ⟨false, by rw [← hl0]; simp, rfl⟩
      have h3 : (!(listed.toList[i]'(by simpa using his))) = true := by simp [hl0]
      rw [if_pos h3]
      simp only [Bool.not_true, Bool.false_eq_true, if_false]
      omega
    have hC2 : i < front.length → ∀ j oj e, (listed.setIfInBounds i true).getD j false = true → ops[j]? = some oj → e ∈ oj.after → Region.binds .any e = true → (listed.setIfInBounds i true).getD e.on false = true := by
      intro hin j oj e hlj hoj he hb
      by_cases ej : j = i
      · subst ej
        obtain rfl : oj = o := Option.some.inj (hoj.symm.trans ho)
        have := tidyL_after ht (by omega) ho he
        rw [getD_set_ne false (by omega)]
        exact hall e he hb
      · rw [getD_set_ne false (Ne.symm ej)] at hlj
        have := hC j oj e hlj hoj he hb
        by_cases ee : e.on = i
        · rw [ee]
          simp [his]
        · rw [getD_set_ne false (Ne.symm ee)]
          exact this
    by_cases hin : i < front.length
    · obtain ⟨o', ho', hmem⟩ := hfr i hin
      obtain rfl : o' = o := Option.some.inj (ho'.symm.trans ho)
      obtain ⟨t, hd, hput⟩ := puts_at hp o' hmem
      have hslot : slotOf ops i = t := slotOf_eq ho hd
      have e1 : ∀ v, (⟨mk u, []⟩ : Act).put (some t) v = ⟨mk (upd u t v), []⟩ := fun v => by
        show Act.mk ((mk u).setIfInBounds t v) [] = _
        rw [hput]
      have hne : ∀ j, j < front.length → j ≠ i → slotOf ops j ≠ t := fun j hj e h => e (tidyL_slot ht hj hin (by rw [h, hslot]))
      obtain ⟨q, hq0, hq1, hq2, hj⟩ := hq
      have hfi : front[i]? = some o' := by
        rw [← Array.getElem?_toList, hops, List.getElem?_append_left hin] at ho
        exact ho
      have hstep := stepsP_at hs i o' hfi
      rw [Nat.zero_add] at hstep
      cases hx : ms.idxOf? i with
      | none =>
        rw [hx] at hstep
        have hnm : i ∉ ms := by simpa using hx
        refine wpOp_step ho (fun K hK => hstep q u w hj (deps_of _ fun e he hb => ?_) K ?_)
        · have he' : e ∈ o'.after := by simpa using he
          have := tidyL_after ht (by omega) ho he'
          exact hF e.on (by omega) (hall e he' hb)
        · intro v hGv
          refine hK _ _ ?_
          rw [hd] at hGv ⊢
          rw [e1]
          refine ih _ _ w (by simpa using hsz) hcnt (by rw [getD_set_ne false (by omega)]; exact hL) (hC2 hin) ⟨q, hq0, fun k h hk => ?_, fun k h hk => ?_, hJ q u _ w (fun m hm => ?_) hj⟩ (fun j hj2 hlj => ?_)
          · have hne2 : i ≠ ms[k] := fun e => hnm (e ▸ List.getElem_mem h)
            rw [getD_set_ne false hne2]
            exact hq1 k h hk
          · have hne2 : i ≠ ms[k] := fun e => hnm (e ▸ List.getElem_mem h)
            rw [getD_set_ne false hne2]
            exact hq2 k h hk
          · obtain ⟨k, hk, rfl⟩ := List.mem_iff_getElem.1 hm
            have := hne ms[k] (hmlt k hk) (fun e => hnm (e ▸ List.getElem_mem hk))
            simp [upd, this]
          · by_cases e : j = i
            · subst e
              rw [hslot]
              simpa [upd] using hGv
            · have hlj' : listed.getD j false = true := by
                rw [getD_set_ne false (Ne.symm e)] at hlj
                exact hlj
              simpa [upd, hne j hj2 e] using hF j hj2 hlj'
      | some k =>
        rw [hx] at hstep
        obtain ⟨hk, hki⟩ : ∃ h : k < ms.length, ms[k] = i := by
          have := List.idxOf?_eq_some_iff.1 hx
          obtain ⟨h1, h2, _⟩ := this
          exact ⟨h1, by simpa using h2⟩
        have hkq : k = q := by
          have h1 : q ≤ k := by
            by_cases h : k < q
            · have := hq1 k hk h
              rw [hki, hli] at this
              cases this
            · omega
          by_cases h2 : q < k
          · exfalso
            obtain ⟨d, rfl⟩ : ∃ d, k = d + 1 := ⟨k - 1, by omega⟩
            obtain ⟨o2, e2, ho2, he2, hon, hb2⟩ := chain_wait hch d hk
            rw [hki] at ho2
            obtain rfl : o2 = o' := Option.some.inj (ho2.symm.trans ho)
            have h3 := hall e2 he2 hb2
            rw [hon] at h3
            have h4 := hq2 d (by omega) (by omega)
            rw [h3] at h4
            cases h4
          · omega
        subst hkq
        refine wpOp_step ho (fun K hK => hstep u w hj (deps_of _ fun e he hb => ?_) K ?_)
        · have he' : e ∈ o'.after := by simpa using he
          have := tidyL_after ht (by omega) ho he'
          exact hF e.on (by omega) (hall e he' hb)
        · intro v w' hj2 hGv
          refine hK _ _ ?_
          rw [hd] at hGv hj2 ⊢
          rw [e1]
          have hdis : ∀ k' (h : k' < ms.length), k' ≠ k → i ≠ ms[k'] := fun k' h hne3 e => by
            rw [← hki] at e
            exact hne3 ((List.getElem_inj hnd).1 e.symm)
          refine ih _ _ w' (by simpa using hsz) hcnt (by rw [getD_set_ne false (by omega)]; exact hL) (hC2 hin) ⟨k + 1, hk, fun k' h hk' => ?_, fun k' h hk' => ?_, hj2⟩ (fun j hj3 hlj => ?_)
          · by_cases e : k' = k
            · subst e
              rw [hki]
              simp [his]
            · rw [getD_set_ne false (hdis k' h e)]
              exact hq1 k' h (by omega)
          · rw [getD_set_ne false (hdis k' h (by omega))]
            exact hq2 k' h (by omega)
          · by_cases e : j = i
            · subst e
              rw [hslot]
              simpa [upd] using hGv
            · have hlj' : listed.getD j false = true := by
                rw [getD_set_ne false (Ne.symm e)] at hlj
                exact hlj
              simpa [upd, hne j hj3 e] using hF j hj3 hlj'
    · obtain rfl : i = front.length := by omega
      obtain rfl : last = o := Option.some.inj (hla.symm.trans ho)
      have hall2 : ∀ d j, j + d + 1 = front.length → listed.getD j false = true := by
        intro d
        induction d using Nat.strongRecOn with
        | ind d ihd =>
          intro j hj
          obtain ⟨k, o, e, hjk, hkn, hok, he, heo, hb⟩ := tidyL_wait ht (show j < front.length by omega)
          by_cases hk : k = front.length
          · subst hk
            obtain rfl : o = last := Option.some.inj (hok.symm.trans ho)
            have := hall e he hb
            rwa [heo] at this
          · have h1 := ihd (front.length - k - 1) (by omega) k (by omega)
            have := hC k o e h1 hok he hb
            rwa [heo] at this
      obtain ⟨q, hq0, hq1, hq2, hj⟩ := hq
      obtain rfl : q = ms.length := by
        by_cases h : q < ms.length
        · have h1 := hq2 q h (Nat.le_refl _)
          have h2 := hmlt q h
          rw [hall2 (front.length - ms[q] - 1) ms[q] (by omega)] at h1
          cases h1
        · omega
      have hA : Alls (fun t v _ => G t v) u w front := by
        refine alls_of _ fun o hmo => ?_
        obtain ⟨j, hj2, rfl⟩ := List.mem_iff_getElem.1 hmo
        obtain ⟨t, hd, _⟩ := puts_at hp _ hmo
        have hoj : ops[j]? = some front[j] := by rw [← Array.getElem?_toList, hops, List.getElem?_append_left hj2, List.getElem?_eq_getElem hj2]
        have := hF j hj2 (hall2 (front.length - j - 1) j (by omega))
        rw [slotOf_eq hoj hd] at this
        simpa [hd] using this
      refine wpOp_step ho (fun K hK => hend u w hj hA K (fun a w' hq => hK _ _ ?_))
      have hr : Region.ready .any ops (listed.setIfInBounds front.length true) = [] := by
        cases h : Region.ready .any ops (listed.setIfInBounds front.length true) with
        | nil => rfl
        | cons j l =>
          exfalso
          have hj : j ∈ Region.ready .any ops (listed.setIfInBounds front.length true) := by rw [h]; exact List.mem_cons_self
          obtain ⟨h0, o, ho, _⟩ := mem_ready.1 hj
          have hjs : j < ops.size := (Array.getElem?_eq_some_iff.1 ho).1
          by_cases e : j = front.length
          · subst e
            simp [his] at h0
          · have := hall2 (front.length - j - 1) j (by omega)
            have h1 : (listed.setIfInBounds front.length true).getD j false = true := by rw [getD_set_ne false (Ne.symm e)]; exact this
            have hj2 : j < (listed.setIfInBounds front.length true).size := by simp; omega
            rw [Array.getD_eq_getD_getElem?, Array.getElem?_eq_getElem hj2] at h1
            simp only [Option.getD_some] at h1
            rw [Array.getD_eq_getD_getElem?, Array.getElem?_eq_getElem hj2] at h0
            simp only [Option.getD_some] at h0
            rw [h1] at h0
            cases h0
      cases fuel with
      | zero => exact ⟨hr, hq⟩
      | succ f => exact ⟨fun _ => hq, fun i hi => by rw [hr] at hi; cases hi⟩

/-- THE LAW: a region that draws its order, some of whose operations turn memory, each behind the one before; the last operation is the prover's. -/
theorem wp_region_phase {id : Nat} {a : Act} {w0 : World} (mk : (Nat → Value) → Array Value) (G : Nat → Value → Prop) (J : Nat → (Nat → Value) → World → Prop) (ms : List Nat) (u0 : Nat → Value) (ha : a = ⟨mk u0, []⟩) (hm : P.follows .mixedOrders = true)
    (n : Nat) (last : Oper) (hn : ops.size = n + 1) (hl : ops[n]? = some last) (ht : tidyL ops n = true) (hch : chainOk ops ms = true) (hmn : ms.all (fun m => decide (m < n)) = true) (hnd : ms.Nodup) (hp : Puts mk (ops.toList.take n))
    (hJ : ∀ q u u' w, (∀ m ∈ ms, u (slotOf ops m) = u' (slotOf ops m)) → J q u w → J q u' w) (hJ0 : J 0 u0 w0.drew)
    (hs : StepsP P ops Q mk G J ms 0 (ops.toList.take n))
    (hend : ∀ u w, J ms.length u w → Alls (fun t v _ => G t v) u w (ops.toList.take n) → ∀ K : Act → World → Prop, Shut (∀ a w', Q .normal a w' → K a w') →
      if Region.wanted last (yielded ops (mk u)) = true then Oper.wp P last ⟨mk u, []⟩ w K Q else K ((⟨mk u, []⟩ : Act).put last.dst undef) w) : (Code.region id ops true).wp P Q a w0 := by
  subst ha
  have hlen : (ops.toList.take n).length = n := by simp; omega
  have hops : ops.toList = ops.toList.take n ++ [last] := by
    have h1 : ops.toList[n]? = some last := by simpa using hl
    obtain ⟨h2, h3⟩ := List.getElem?_eq_some_iff.1 h1
    have h4 := List.take_succ_eq_append_getElem h2
    rw [h3] at h4
    rw [← h4, List.take_of_length_le (by simp; omega)]
  refine wp_region_any hm (phase_go (ops.toList.take n) last ms hops (by rw [hlen]; exact ht) hch (by rw [hlen]; exact hmn) hnd hp hJ hs hend _ _ u0 _ (by simp) ?_ (rep_getD _ _) ?_ ⟨0, Nat.zero_le _, fun k _ hk => by omega, fun k _ _ => rep_getD _ _, hJ0⟩ ?_)
  · have := List.countP_le_length (p := fun b => !b) (l := (Array.replicate ops.size false).toList)
    simpa using this
  · intro i o e h
    rw [rep_getD] at h
    cases h
  · intro i hi h
    rw [rep_getD] at h
    cases h
end
end Go.Proofs.YtehfcfpbjenmjaaDoor

/- A region that draws its order, whose frame may hold deferred calls; some of its operations (calls, stores, appends), each behind the one before, turn memory: a state goes on with each of them ('J'); all others only read, and a reading that such an operation waits for comes ahead of it; of no statement by itself. -/
namespace Go.Proofs.YtehfcfpbjenmjaaDoor
open Go.RowKit

section
variable {P : Program} {ops : Array Oper} {Q : Exit → Act → World → Prop} {G : Nat → Value → Prop} {J : Nat → (Nat → Value) → World → Prop} {mk : (Nat → Value) → Array Value} {df : List Deferred} {lim : Nat → Nat}

/-- Writing an operation's slot, if it has one, is telling it anew. -/
def PutsQ (mk : (Nat → Value) → Array Value) (df : List Deferred) : List Oper → Prop
  | [] => True
  | o :: rest => (∀ u v, (⟨mk u, df⟩ : Act).put o.dst v = ⟨mk (upd u (o.dst.getD 0) v), df⟩) ∧ PutsQ mk df rest
theorem putsQ_at : ∀ {l : List Oper}, PutsQ mk df l → ∀ o ∈ l, ∀ u v, (⟨mk u, df⟩ : Act).put o.dst v = ⟨mk (upd u (o.dst.getD 0) v), df⟩
  | [], _, o, ho => by cases ho
  | o' :: l, h, o, ho => by
    rcases List.mem_cons.1 ho with e | e
    · subst e; exact h.1
    · exact putsQ_at h.2 o e
/-- Does operation m wait, over others, for operation i? -/
def reach (ops : Array Oper) : Nat → Nat → Nat → Bool
  | 0, _, _ => false
  | f + 1, m, i => ((ops[m]?).map fun o => o.after.toList.any fun e => Region.binds .any e && (e.on == i || reach ops f e.on i)).getD false
theorem reach_listed {listed : Array Bool} (hC : ∀ i o e, listed.getD i false = true → ops[i]? = some o → e ∈ o.after → Region.binds .any e = true → listed.getD e.on false = true) : ∀ (f m i : Nat), reach ops f m i = true → listed.getD m false = true → listed.getD i false = true
  | 0, m, i, h, _ => by simp [reach] at h
  | f + 1, m, i, h, hm => by
    unfold reach at h
    cases ho : ops[m]? with
    | none => simp [ho] at h
    | some o =>
      simp only [ho, Option.map_some, Option.getD_some] at h
      obtain ⟨e, he, h2⟩ := List.any_eq_true.1 h
      simp only [Bool.and_eq_true, Bool.or_eq_true, beq_iff_eq] at h2
      have hl := hC m o e hm ho (by simpa using he) h2.1
      rcases h2.2 with h3 | h3
      · rw [← h3]; exact hl
      · exact reach_listed hC f e.on i h3 hl
/-- lim: from which of ms on each operation is waited for. -/
def limOk (ops : Array Oper) (ms : List Nat) (lim : Nat → Nat) (n : Nat) : Bool := (List.range n).all fun i => (ms[lim i]?).all fun m => reach ops ops.size m i

/-- An operation that only reads: in every state it gives its slot a value with its own fact. -/
def StepRQ (P : Program) (ops : Array Oper) (Q : Exit → Act → World → Prop) (mk : (Nat → Value) → Array Value) (df : List Deferred) (G : Nat → Value → Prop) (J : Nat → (Nat → Value) → World → Prop) (lm : Nat) (o : Oper) : Prop :=
  ∀ (q : Nat) (_ : q ≤ lm) (u : Nat → Value) (w : World), J q u w → Deps ops (fun t v _ => G t v) u w o.after.toList →
      ∀ K : Act → World → Prop, Shut (∀ v, G (o.dst.getD 0) v → K ((⟨mk u, df⟩ : Act).put o.dst v) w) →
      if Region.wanted o (yielded ops (mk u)) = true then Oper.wp P o ⟨mk u, df⟩ w K Q else K ((⟨mk u, df⟩ : Act).put o.dst undef) w
/-- An operation that turns memory: from the state q to the next. -/
def StepWQ (P : Program) (ops : Array Oper) (Q : Exit → Act → World → Prop) (mk : (Nat → Value) → Array Value) (df : List Deferred) (G : Nat → Value → Prop) (J : Nat → (Nat → Value) → World → Prop) (q : Nat) (o : Oper) : Prop :=
  ∀ (u : Nat → Value) (w : World), J q u w → Deps ops (fun t v _ => G t v) u w o.after.toList →
      ∀ K : Act → World → Prop, Shut (∀ v w', J (q + 1) (upd u (o.dst.getD 0) v) w' → G (o.dst.getD 0) v → K ((⟨mk u, df⟩ : Act).put o.dst v) w') →
      if Region.wanted o (yielded ops (mk u)) = true then Oper.wp P o ⟨mk u, df⟩ w K Q else K ((⟨mk u, df⟩ : Act).put o.dst undef) w
/-- The operations from number i on, those of ms turning memory. -/
def StepsQ (P : Program) (ops : Array Oper) (Q : Exit → Act → World → Prop) (mk : (Nat → Value) → Array Value) (df : List Deferred) (G : Nat → Value → Prop) (J : Nat → (Nat → Value) → World → Prop) (ms : List Nat) (lim : Nat → Nat) : Nat → List Oper → Prop
  | _, [] => True
  | i, o :: r => (match ms.idxOf? i with | none => StepRQ P ops Q mk df G J (lim i) o | some q => StepWQ P ops Q mk df G J q o) ∧ StepsQ P ops Q mk df G J ms lim (i + 1) r

theorem stepsQ_at {ms : List Nat} : ∀ {l : List Oper} {b : Nat}, StepsQ P ops Q mk df G J ms lim b l → ∀ k o, l[k]? = some o → (match ms.idxOf? (b + k) with | none => StepRQ P ops Q mk df G J (lim (b + k)) o | some q => StepWQ P ops Q mk df G J q o)
  | [], _, _, k, o, h => by simp at h
  | o' :: l, b, hs, 0, o, h => by
    simp only [List.getElem?_cons_zero, Option.some.injEq] at h
    subst h
    exact hs.1
  | o' :: l, b, hs, k + 1, o, h => by
    rw [List.getElem?_cons_succ] at h
    have := stepsQ_at hs.2 k o h
    rw [show b + (k + 1) = b + 1 + k by omega]
    exact this

theorem phaseQ_go (front : List Oper) (last : Oper) (ms : List Nat) (hops : ops.toList = front ++ [last]) (ht : tidyL ops front.length = true) (hch : chainOk ops ms = true) (hmn : ms.all (fun m => decide (m < front.length)) = true) (hnd : ms.Nodup) (hp : PutsQ mk df front)
    (hJ : ∀ q u u' w, (∀ m ∈ ms, u (slotOf ops m) = u' (slotOf ops m)) → J q u w → J q u' w)
    (hlim : limOk ops ms lim front.length = true) (hs : StepsQ P ops Q mk df G J ms lim 0 front)
    (hend : ∀ u w, J ms.length u w → Alls (fun t v _ => G t v) u w front → ∀ K : Act → World → Prop, Shut (∀ a w', Q .normal a w' → K a w') →
      if Region.wanted last (yielded ops (mk u)) = true then Oper.wp P last ⟨mk u, df⟩ w K Q else K ((⟨mk u, df⟩ : Act).put last.dst undef) w) :
    ∀ (fuel : Nat) (listed : Array Bool) (u : Nat → Value) (w : World), listed.size = ops.size → listed.toList.countP (fun b => !b) ≤ fuel →
      listed.getD front.length false = false →
      (∀ i o e, listed.getD i false = true → ops[i]? = some o → e ∈ o.after → Region.binds .any e = true → listed.getD e.on false = true) →
      (∃ q, q ≤ ms.length ∧ (∀ k (h : k < ms.length), k < q → listed.getD ms[k] false = true) ∧ (∀ k (h : k < ms.length), q ≤ k → listed.getD ms[k] false = false) ∧ J q u w) →
      (∀ i, i < front.length → listed.getD i false = true → G (slotOf ops i) (u (slotOf ops i))) → wpAny P .any ops Q fuel listed ⟨mk u, df⟩ w := by
  have hsz0 : ops.size = front.length + 1 := by
    have := congrArg List.length hops
    simpa using this
  have hmlt : ∀ k (h : k < ms.length), ms[k] < front.length := fun k h => by
    have := List.all_eq_true.1 hmn ms[k] (List.getElem_mem h)
    simpa using this
  have hfr : ∀ i, i < front.length → ∃ o, ops[i]? = some o ∧ o ∈ front := by
    intro i hi
    refine ⟨front[i], ?_, List.getElem_mem _⟩
    rw [← Array.getElem?_toList, hops, List.getElem?_append_left hi, List.getElem?_eq_getElem hi]
  have hla : ops[front.length]? = some last := by
    rw [← Array.getElem?_toList, hops]
    simp
  have hno : ∀ (listed : Array Bool), listed.size = ops.size → listed.getD front.length false = false → Region.ready .any ops listed = [] → False := by
    intro listed hsz hl hr
    have hall : ∀ i, i < ops.size → listed.getD i false = true := by
      intro i
      induction i using Nat.strongRecOn with
      | ind i ih =>
        intro hi
        cases hl : listed.getD i false with
        | true => rfl
        | false =>
          exfalso
          have : i ∈ Region.ready .any ops listed := by
            refine mem_ready.2 ⟨?_, ops[i], Array.getElem?_eq_getElem hi, fun e he _ => ?_⟩
            · have hi' : i < listed.size := by omega
              simpa [hi'] using hl
            · have := tidyL_after ht (by omega) (Array.getElem?_eq_getElem hi) he
              exact ih _ this (by omega)
          rw [hr] at this
          cases this
    rw [hall _ (by omega)] at hl
    cases hl
  intro fuel
  induction fuel with
  | zero =>
    intro listed u w hsz hn hL hC hq hF
    exfalso
    have hjs : front.length < listed.size := by omega
    have h1 : listed[front.length] = false := by simpa [hjs] using hL
    have h2 : 0 < listed.toList.countP (fun b => !b) := List.countP_pos_iff.2 ⟨false, by rw [← h1]; simp, rfl⟩
    omega
  | succ fuel ih =>
    intro listed u w hsz hn hL hC hq hF
    refine ⟨fun hr => (hno listed hsz hL hr).elim, fun i hi => ?_⟩
    obtain ⟨h0, o, ho, hall⟩ := mem_ready.1 hi
    have hio : i < ops.size := (Array.getElem?_eq_some_iff.1 ho).1
    have his : i < listed.size := by omega
    have hl0 : listed[i] = false := by simpa [his] using h0
    have hli : listed.getD i false = false := by simpa [his] using hl0
    have hcnt : (listed.setIfInBounds i true).toList.countP (fun b => !b) ≤ fuel := by
      have : (listed.setIfInBounds i true).toList = listed.toList.set i true := by simp
      rw [this, List.countP_set (by simpa using his)]
      have h2 : 0 < listed.toList.countP (fun b => !b) := List.countP_pos_iff.2 ⟨false, by rw [← hl0]; simp, rfl⟩
      have h3 : (!(listed.toList[i]'(by simpa using his))) = true := by simp [hl0]
      rw [if_pos h3]
      simp only [Bool.not_true, Bool.false_eq_true, if_false]
      omega
    have hC2 : i < front.length → ∀ j oj e, (listed.setIfInBounds i true).getD j false = true → ops[j]? = some oj → e ∈ oj.after → Region.binds .any e = true → (listed.setIfInBounds i true).getD e.on false = true := by
      intro hin j oj e hlj hoj he hb
      by_cases ej : j = i
      · subst ej
        obtain rfl : oj = o := Option.some.inj (hoj.symm.trans ho)
        have := tidyL_after ht (by omega) ho he
        rw [getD_set_ne false (by omega)]
        exact hall e he hb
      · rw [getD_set_ne false (Ne.symm ej)] at hlj
        have := hC j oj e hlj hoj he hb
        by_cases ee : e.on = i
        · rw [ee]
          simp [his]
        · rw [getD_set_ne false (Ne.symm ee)]
          exact this
    by_cases hin : i < front.length
    · obtain ⟨o', ho', hmem⟩ := hfr i hin
      obtain rfl : o' = o := Option.some.inj (ho'.symm.trans ho)
      have e1' := putsQ_at hp o' hmem u
      obtain ⟨t, hd⟩ : ∃ t, o'.dst.getD 0 = t := ⟨_, rfl⟩
      have e1 : ∀ v, (⟨mk u, df⟩ : Act).put o'.dst v = ⟨mk (upd u t v), df⟩ := fun v => by rw [← hd]; exact e1' v
      have hslot : slotOf ops i = t := by rw [← hd]; simp [slotOf, ho]
      have hne : ∀ j, j < front.length → j ≠ i → slotOf ops j ≠ t := fun j hj e h => e (tidyL_slot ht hj hin (by rw [h, hslot]))
      obtain ⟨q, hq0, hq1, hq2, hj⟩ := hq
      have hfi : front[i]? = some o' := by
        rw [← Array.getElem?_toList, hops, List.getElem?_append_left hin] at ho
        exact ho
      have hstep := stepsQ_at hs i o' hfi
      rw [Nat.zero_add] at hstep
      cases hx : ms.idxOf? i with
      | none =>
        rw [hx] at hstep
        have hnm : i ∉ ms := by simpa using hx
        have hqi : q ≤ lim i := by
          by_cases hc : q ≤ lim i
          · exact hc
          · exfalso
            have hlt : lim i < ms.length := by omega
            have h1 := List.all_eq_true.1 hlim i (List.mem_range.2 hin)
            rw [List.getElem?_eq_getElem hlt] at h1
            have h2 := reach_listed hC _ _ _ (by simpa using h1) (hq1 (lim i) hlt (by omega))
            rw [hli] at h2
            cases h2
        refine wpOp_step ho (fun K hK => hstep q hqi u w hj (deps_of _ fun e he hb => ?_) K ?_)
        · have he' : e ∈ o'.after := by simpa using he
          have := tidyL_after ht (by omega) ho he'
          exact hF e.on (by omega) (hall e he' hb)
        · intro v hGv
          refine hK _ _ ?_
          rw [hd] at hGv
          rw [e1]
          refine ih _ _ w (by simpa using hsz) hcnt (by rw [getD_set_ne false (by omega)]; exact hL) (hC2 hin) ⟨q, hq0, fun k h hk => ?_, fun k h hk => ?_, hJ q u _ w (fun m hm => ?_) hj⟩ (fun j hj2 hlj => ?_)
          · have hne2 : i ≠ ms[k] := fun e => hnm (e ▸ List.getElem_mem h)
            rw [getD_set_ne false hne2]
            exact hq1 k h hk
          · have hne2 : i ≠ ms[k] := fun e => hnm (e ▸ List.getElem_mem h)
            rw [getD_set_ne false hne2]
            exact hq2 k h hk
          · obtain ⟨k, hk, rfl⟩ := List.mem_iff_getElem.1 hm
            have := hne ms[k] (hmlt k hk) (fun e => hnm (e ▸ List.getElem_mem hk))
            simp [upd, this]
          · by_cases e : j = i
            · subst e
              rw [hslot]
              simpa [upd] using hGv
            · have hlj' : listed.getD j false = true := by
                rw [getD_set_ne false (Ne.symm e)] at hlj
                exact hlj
              simpa [upd, hne j hj2 e] using hF j hj2 hlj'
      | some k =>
        rw [hx] at hstep
        obtain ⟨hk, hki⟩ : ∃ h : k < ms.length, ms[k] = i := by
          have := List.idxOf?_eq_some_iff.1 hx
          obtain ⟨h1, h2, _⟩ := this
          exact ⟨h1, by simpa using h2⟩
        have hkq : k = q := by
          have h1 : q ≤ k := by
            by_cases h : k < q
            · have := hq1 k hk h
              rw [hki, hli] at this
              cases this
            · omega
          by_cases h2 : q < k
          · exfalso
            obtain ⟨d, rfl⟩ : ∃ d, k = d + 1 := ⟨k - 1, by omega⟩
            obtain ⟨o2, e2, ho2, he2, hon, hb2⟩ := chain_wait hch d hk
            rw [hki] at ho2
            obtain rfl : o2 = o' := Option.some.inj (ho2.symm.trans ho)
            have h3 := hall e2 he2 hb2
            rw [hon] at h3
            have h4 := hq2 d (by omega) (by omega)
            rw [h3] at h4
            cases h4
          · omega
        subst hkq
        refine wpOp_step ho (fun K hK => hstep u w hj (deps_of _ fun e he hb => ?_) K ?_)
        · have he' : e ∈ o'.after := by simpa using he
          have := tidyL_after ht (by omega) ho he'
          exact hF e.on (by omega) (hall e he' hb)
        · intro v w' hj2 hGv
          refine hK _ _ ?_
          rw [hd] at hGv hj2
          rw [e1]
          have hdis : ∀ k' (h : k' < ms.length), k' ≠ k → i ≠ ms[k'] := fun k' h hne3 e => by
            rw [← hki] at e
            exact hne3 ((List.getElem_inj hnd).1 e.symm)
          refine ih _ _ w' (by simpa using hsz) hcnt (by rw [getD_set_ne false (by omega)]; exact hL) (hC2 hin) ⟨k + 1, hk, fun k' h hk' => ?_, fun k' h hk' => ?_, hj2⟩ (fun j hj3 hlj => ?_)
          · by_cases e : k' = k
            · subst e
              rw [hki]
              simp [his]
            · rw [getD_set_ne false (hdis k' h e)]
              exact hq1 k' h (by omega)
          · rw [getD_set_ne false (hdis k' h (by omega))]
            exact hq2 k' h (by omega)
          · by_cases e : j = i
            · subst e
              rw [hslot]
              simpa [upd] using hGv
            · have hlj' : listed.getD j false = true := by
                rw [getD_set_ne false (Ne.symm e)] at hlj
                exact hlj
              simpa [upd, hne j hj3 e] using hF j hj3 hlj'
    · obtain rfl : i = front.length := by omega
      obtain rfl : last = o := Option.some.inj (hla.symm.trans ho)
      have hall2 : ∀ d j, j + d + 1 = front.length → listed.getD j false = true := by
        intro d
        induction d using Nat.strongRecOn with
        | ind d ihd =>
          intro j hj
          obtain ⟨k, o, e, hjk, hkn, hok, he, heo, hb⟩ := tidyL_wait ht (show j < front.length by omega)
          by_cases hk : k = front.length
          · subst hk
            obtain rfl : o = last := Option.some.inj (hok.symm.trans ho)
            have := hall e he hb
            rwa [heo] at this
          · have h1 := ihd (front.length - k - 1) (by omega) k (by omega)
            have := hC k o e h1 hok he hb
            rwa [heo] at this
      obtain ⟨q, hq0, hq1, hq2, hj⟩ := hq
      obtain rfl : q = ms.length := by
        by_cases h : q < ms.length
        · have h1 := hq2 q h (Nat.le_refl _)
          have h2 := hmlt q h
          rw [hall2 (front.length - ms[q] - 1) ms[q] (by omega)] at h1
          cases h1
        · omega
      have hA : Alls (fun t v _ => G t v) u w front := by
        refine alls_of _ fun o hmo => ?_
        obtain ⟨j, hj2, rfl⟩ := List.mem_iff_getElem.1 hmo
        have hoj : ops[j]? = some front[j] := by rw [← Array.getElem?_toList, hops, List.getElem?_append_left hj2, List.getElem?_eq_getElem hj2]
        have := hF j hj2 (hall2 (front.length - j - 1) j (by omega))
        have es : slotOf ops j = (front[j]).dst.getD 0 := by simp [slotOf, hoj]
        rw [es] at this
        exact this
      refine wpOp_step ho (fun K hK => hend u w hj hA K (fun a w' hq => hK _ _ ?_))
      have hr : Region.ready .any ops (listed.setIfInBounds front.length true) = [] := by
        cases h : Region.ready .any ops (listed.setIfInBounds front.length true) with
        | nil => rfl
        | cons j l =>
          exfalso
          have hj : j ∈ Region.ready .any ops (listed.setIfInBounds front.length true) := by rw [h]; exact List.mem_cons_self
          obtain ⟨h0, o, ho, _⟩ := mem_ready.1 hj
          have hjs : j < ops.size := (Array.getElem?_eq_some_iff.1 ho).1
          by_cases e : j = front.length
          · subst e
            simp [his] at h0
          · have := hall2 (front.length - j - 1) j (by omega)
            have h1 : (listed.setIfInBounds front.length true).getD j false = true := by rw [getD_set_ne false (Ne.symm e)]; exact this
            have hj2 : j < (listed.setIfInBounds front.length true).size := by simp; omega
            rw [Array.getD_eq_getD_getElem?, Array.getElem?_eq_getElem hj2] at h1
            simp only [Option.getD_some] at h1
            rw [Array.getD_eq_getD_getElem?, Array.getElem?_eq_getElem hj2] at h0
            simp only [Option.getD_some] at h0
            rw [h1] at h0
            cases h0
      cases fuel with
      | zero => exact ⟨hr, hq⟩
      | succ f => exact ⟨fun _ => hq, fun i hi => by rw [hr] at hi; cases hi⟩

/-- THE LAW: a region that draws its order, some of whose operations turn memory, each behind the one before; the last operation is the prover's. -/
theorem wp_region_phaseQ {id : Nat} {a : Act} {w0 : World} (mk : (Nat → Value) → Array Value) (G : Nat → Value → Prop) (J : Nat → (Nat → Value) → World → Prop) (ms : List Nat) (lim : Nat → Nat) (df : List Deferred) (u0 : Nat → Value) (ha : a = ⟨mk u0, df⟩) (hm : P.follows .mixedOrders = true)
    (n : Nat) (last : Oper) (hn : ops.size = n + 1) (hl : ops[n]? = some last) (ht : tidyL ops n = true) (hch : chainOk ops ms = true) (hmn : ms.all (fun m => decide (m < n)) = true) (hnd : ms.Nodup) (hp : PutsQ mk df (ops.toList.take n))
    (hJ : ∀ q u u' w, (∀ m ∈ ms, u (slotOf ops m) = u' (slotOf ops m)) → J q u w → J q u' w) (hJ0 : J 0 u0 w0.drew)
    (hlim : limOk ops ms lim n = true) (hs : StepsQ P ops Q mk df G J ms lim 0 (ops.toList.take n))
    (hend : ∀ u w, J ms.length u w → Alls (fun t v _ => G t v) u w (ops.toList.take n) → ∀ K : Act → World → Prop, Shut (∀ a w', Q .normal a w' → K a w') →
      if Region.wanted last (yielded ops (mk u)) = true then Oper.wp P last ⟨mk u, df⟩ w K Q else K ((⟨mk u, df⟩ : Act).put last.dst undef) w) : (Code.region id ops true).wp P Q a w0 := by
  subst ha
  have hlen : (ops.toList.take n).length = n := by simp; omega
  have hops : ops.toList = ops.toList.take n ++ [last] := by
    have h1 : ops.toList[n]? = some last := by simpa using hl
    obtain ⟨h2, h3⟩ := List.getElem?_eq_some_iff.1 h1
    have h4 := List.take_succ_eq_append_getElem h2
    rw [h3] at h4
    rw [← h4, List.take_of_length_le (by simp; omega)]
  refine wp_region_any hm (phaseQ_go (ops.toList.take n) last ms hops (by rw [hlen]; exact ht) hch (by rw [hlen]; exact hmn) hnd hp hJ (by rw [hlen]; exact hlim) hs hend _ _ u0 _ (by simp) ?_ (rep_getD _ _) ?_ ⟨0, Nat.zero_le _, fun k _ hk => by omega, fun k _ _ => rep_getD _ _, hJ0⟩ ?_)
  · have := List.countP_le_length (p := fun b => !b) (l := (Array.replicate ops.size false).toList)
    simpa using this
  · intro i o e h
    rw [rep_getD] at h
    cases h
  · intro i hi h
    rw [rep_getD] at h
    cases h
end
end Go.Proofs.YtehfcfpbjenmjaaDoor

/- What the book's texts stand on: lists of bytes as cells, strings made of them; of no statement by itself. -/
namespace Go.Proofs.YtehfcfpbjenmjaaDoor.Bk
open Go.RowKit

def cells8 (xs : List Int) : List Value := xs.map (Value.int .u8)
theorem oneCells (l : List Int) : ∀ u ∈ l.map (Value.int .u8), u.oneCell' = true := by
  intro u hu
  obtain ⟨x, _, rfl⟩ := List.mem_map.1 hu
  rfl
theorem info5 : (Tryd.prog.info? 5).map (fun i => (i.zero, i.size, i.bytes)) = some (some (.int .u8 0), 1, 1) := by kernel_rfl
theorem chg_one (S : Nat → Prop) (w : World) (o : Obj) : Chg S w (w.alloc o) := (Chg.refl S w).alloc o
theorem chg_then {S : Nat → Prop} {a b c : World} (h : Chg S a b) (k : Chg (fun _ => False) b c) : Chg S a c := h.trans k (fun _ f => f.elim)
theorem row8_one (w : World) (x : Int) (t : TypeId) : Row8 (w.alloc (.cells #[.int .u8 x] t)) (some ⟨w.heap.size, 0, none⟩) 1 1 [x] := by
  refine ⟨rfl, .inr ⟨_, rfl, ?_⟩⟩
  intro j u hu
  match j, hu with
  | 0, hu => simp at hu; subst hu; simp [Addr.add]
/-- 'string(b)' of a list of bytes, in every later draw. -/
theorem conv8 {w : World} {ad : Option Addr} {m c : Nat} {xs : List Int} (h : Row8 w ad m c xs) (k : Nat) :
    (convert 22 9 (.slice ad m c)).run Tryd.prog (w.drewN k) = .ok (.string (strOfNums xs)) (w.drewN k) := by
  rcases h.2 with ⟨rfl, rfl, rfl⟩ | ⟨x, rfl, hx⟩
  · have e : xs = [] := List.eq_nil_of_length_eq_zero h.1
    subst e
    exact run_convert_bytes_nil (P := Tryd.prog) (w.drewN k) 22 5 Tryd.underlying22 Tryd.underlying5 0 0 9 Tryd.underlying9
  · have hl : (loadCells x m).run Tryd.prog (w.drewN k) = .ok (xs.map (Value.int .u8)).toArray (w.drewN k) := by
      have := run_loadCells_list (P := Tryd.prog) (w.drewN k) x (xs.map (Value.int .u8)) hx
      simpa [h.1] using this
    rw [run_convert_bytes_string (w.drewN k) 22 9 5 _ m c Tryd.underlying22 Tryd.underlying5 Tryd.underlying9, run_bytesToString (w.drewN k) _ m c xs hl, foldl_push_bytes]
    simp [strOfNums, ByteArray.empty, ByteArray.emptyWithCapacity]
    rfl
theorem conv8_here {w : World} {ad : Option Addr} {m c : Nat} {xs : List Int} (h : Row8 w ad m c xs) :
    (convert 22 9 (.slice ad m c)).run Tryd.prog w = .ok (.string (strOfNums xs)) w := conv8 h 0
theorem row8_alloc {w : World} {ad : Option Addr} {m c : Nat} {xs : List Int} (h : Row8 w ad m c xs) (o : Obj) : Row8 (w.alloc o) ad m c xs :=
  row8_keep h (chg_one (fun _ => False) w o) (fun _ _ f => f)
theorem row8_chg {w w' : World} {ad : Option Addr} {m c : Nat} {xs : List Int} (h : Row8 w ad m c xs) (hc : Chg (fun _ => False) w w') : Row8 w' ad m c xs :=
  row8_keep h hc (fun _ _ f => f)
theorem chg_none {S : Nat → Prop} {w w' : World} (hc : Chg (fun _ => False) w w') : Chg S w w' := hc.mono (fun _ f => f.elim)
theorem row8_cells {w : World} {ad : Option Addr} {n c : Nat} {ys : List Int} (h : Row8 w ad n c ys) (hn : 1 ≤ n) : ∃ x, ad = some x ∧ ∀ k, k < n → w.cell? (x.add k) = some (.int .u8 (ys.getD k 0)) := by
  rcases h.2 with ⟨_, e, _⟩ | ⟨x, e, hx⟩
  · omega
  · exact ⟨x, e, fun k hk => hx k _ (by simp [List.getD, show k < ys.length by have := h.1; omega])⟩
end Go.Proofs.YtehfcfpbjenmjaaDoor.Bk
