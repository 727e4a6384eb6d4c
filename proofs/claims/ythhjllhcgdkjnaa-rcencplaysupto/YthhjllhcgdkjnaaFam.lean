/- Encoders with their sets, several of them beside one another; of no statement by themselves. -/
import Derived.Test.YthhjllhcgdkjnaaArgs
namespace Go.Proofs.Ythhjllhcgdkjnaa
open Go.RowKit
set_option linter.unusedVariables false

/-- Blocks of other types are none of what an encoder and its set may change. -/
theorem Es.miss {w : World} {B a s G : Nat} {v u : Value} {e : Rc.E} {xs : List Int} {cs : Array Value} {t : TypeId} (h : Es w B a s v u e xs) (hb : w.heap[G]? = some (.cells cs t (0, 0))) (h1 : 77 ≠ t) (h2 : 5 ≠ t) (h3 : 85 ≠ t) : ¬ Fe a v u G := fun f => by
  obtain ⟨l, hl, _⟩ := h.en
  rcases f with f | f
  · rcases f with f | f
    · rw [f] at hb
      exact ty_ne hl.blk hb h1
    · obtain ⟨cur, hcur⟩ := owns_blk hl.own f
      exact ty_ne hcur hb h2
  · obtain ⟨cur, hcur⟩ := owns_blk h.st.own f
    exact ty_ne hcur hb h3
theorem Es.base {w : World} {B B' a s : Nat} {v u : Value} {e : Rc.E} {xs : List Int} (h : Es w B a s v u e xs) (hB : B' ≤ B) : Es w B' a s v u e xs := by
  obtain ⟨l, hl, hI⟩ := h.en
  exact ⟨⟨l, ⟨Nat.le_trans hB hl.hr, hl.blk, owns_base hl.own hB⟩, hI⟩, ⟨Nat.le_trans hB h.st.ha, h.st.blk, owns_base h.st.own hB⟩, h.inn, h.len, h.ok⟩

structure Q where
  a : Nat
  s : Nat
  v : Value
  u : Value
  e : Rc.E
  xs : List Int
def Q.es (q : Q) (w : World) (B : Nat) : Prop := Es w B q.a q.s q.v q.u q.e q.xs
def Q.fe (q : Q) (z : Nat) : Prop := Fe q.a q.v q.u z
/-- Behind a bit. -/
def Q.lay (q : Q) (v' : Value) (j : Nat) (one : Bool) : Q := ⟨q.a, q.s, v', q.u, layE q.e q.xs j one, layX q.xs j one⟩

structure Fam (w0 w : World) (l : List Q) : Prop where
  es : ∀ i (h : i < l.length), l[i].es w w0.heap.size
  dis : ∀ i j (hi : i < l.length) (hj : j < l.length), i ≠ j → Dis l[i].fe l[j].fe
  chg : Chg (fun _ => False) w0 w
theorem Fam.new {w0 w w' : World} {l : List Q} (h : Fam w0 w l) (hc : Chg (fun _ => False) w w') : Fam w0 w' l := ⟨fun i hi => (h.es i hi).new hc, h.dis, chg_then h.chg hc⟩
theorem Fam.nil (w : World) : Fam w w [] := ⟨fun i h => by simp at h, fun i j h => by simp at h, Chg.refl _ _⟩
theorem Fam.lt {w0 w : World} {l : List Q} (h : Fam w0 w l) {i : Nat} (hi : i < l.length) {z : Nat} (f : l[i].fe z) : w0.heap.size ≤ z ∧ z < w.heap.size := (h.es i hi).fe_lt f
/-- One more. -/
theorem Fam.push {w0 w w' : World} {l : List Q} (h : Fam w0 w l) (hc : Chg (fun _ => False) w w') {q : Q} (hq : q.es w' w.heap.size) : Fam w0 w' (l ++ [q]) := by
  have hn := h.new hc
  have hs : w0.heap.size ≤ w.heap.size := h.chg.size
  refine ⟨fun i hi => ?_, fun i j hi hj hij => ?_, hn.chg⟩
  · by_cases e : i < l.length
    · rw [List.getElem_append_left e]
      exact hn.es i e
    · have : i = l.length := by simp at hi; omega
      subst this
      simp only [List.getElem_concat_length]
      exact Es.base hq hs
  · simp at hi hj
    by_cases ei : i < l.length
    · by_cases ej : j < l.length
      · rw [List.getElem_append_left ei, List.getElem_append_left ej]
        exact h.dis i j ei ej hij
      · have : j = l.length := by omega
        subst this
        rw [List.getElem_append_left ei]
        simp only [List.getElem_concat_length]
        intro z f g
        have h1 := (h.lt ei f).2
        have h2 := (Es.fe_lt hq g).1
        omega
    · have : i = l.length := by omega
      subst this
      have ej : j < l.length := by omega
      rw [List.getElem_append_left ej]
      simp only [List.getElem_concat_length]
      intro z f g
      have h1 := (h.lt ej g).2
      have h2 := (Es.fe_lt hq f).1
      omega
/-- One of them has changed. -/
theorem Fam.turn {w0 w w' : World} {l : List Q} (h : Fam w0 w l) (i : Nat) (hi : i < l.length) {q : Q} (hq : q.es w' w0.heap.size) (hc : Chg l[i].fe w w') (hm : ∀ z, q.fe z → l[i].fe z ∨ w.heap.size ≤ z) : Fam w0 w' (l.set i q) := by
  refine ⟨fun j hj => ?_, fun j k hj hk hjk => ?_, h.chg.trans hc (fun z f => .inr (h.lt hi f).1)⟩
  · simp at hj
    by_cases e : i = j
    · subst e
      simp only [List.getElem_set_self]
      exact hq
    · rw [List.getElem_set_ne e]
      exact Es.beside (h.es i hi) (h.es j hj) (h.dis i j hi hj e) hc
  · simp at hj hk
    have key : ∀ m (hm' : m < l.length), i ≠ m → Dis q.fe l[m].fe := fun m hm' him z f g => by
      rcases hm z f with f | f
      · exact h.dis i m hi hm' him z f g
      · have := (h.lt hm' g).2
        omega
    by_cases e : i = j
    · subst e
      simp only [List.getElem_set_self]
      rw [List.getElem_set_ne hjk]
      exact key k hk hjk
    · rw [List.getElem_set_ne e]
      by_cases e2 : i = k
      · subst e2
        simp only [List.getElem_set_self]
        exact (key j hj e).symm
      · rw [List.getElem_set_ne e2]
        exact h.dis j k hj hk hjk

/-- A bit is laid into one of them; what is a copy of a bit stays. -/
theorem fam_lays (w0 : World) (l : List Q) (i : Nat) (hi : i < l.length) (j : Nat) (one : Bool) (w : World) (h : Fam w0 w l) (hj : j ≤ 4) (hk : l[i].e.k + 2 ≤ 140737488355328) :
    Calls Try.prog 13 #[.pointer (some ⟨l[i].a, 0, none⟩), .pointer (some ⟨l[i].s, 0, none⟩), .int .i64 (j : Int), .bool one] w fun x w' => x = .returned (.bool true) ∧ ∃ v', Fam w0 w' (l.set i (l[i].lay v' j one)) ∧ ∀ (G : Nat) (cs : Array Value), w.heap[G]? = some (Obj.cells cs 38 (0, 0)) → w'.heap[G]? = some (Obj.cells cs 38 (0, 0)) := by
  refine (lays_any w0.heap.size _ _ _ _ _ _ j one w (h.es i hi) hj hk h.chg.size).mono ?_
  rintro x w' ⟨he, v', hE, hC, hM⟩
  exact ⟨he, v', h.turn i hi hE hC (fun z f => fe_moved hM f), fun G cs hb => blk_keep hb hC ((h.es i hi).miss hb (by decide) (by decide) (by decide))⟩
theorem fam_begun (w0 : World) (l : List Q) (w : World) (h : Fam w0 w l) : Calls Try.prog 12 #[] w fun x w' => ∃ a s v u, x = .returned (.tuple #[.pointer (some ⟨a, 0, none⟩), .pointer (some ⟨s, 0, none⟩)]) ∧ Fam w0 w' (l ++ [⟨a, s, v, u, e0, x0⟩]) := by
  refine (begun_any w).mono ?_
  rintro x w' ⟨a, s, v, u, he, hE, hC⟩
  exact ⟨a, s, v, u, he, h.push (q := ⟨a, s, v, u, e0, x0⟩) hC hE⟩
theorem fam_bytes (w0 : World) (l : List Q) (i : Nat) (hi : i < l.length) (w : World) (h : Fam w0 w l) (hk : l[i].e.k + 5 ≤ 140737488355328) :
    Calls Try.prog 10 #[.pointer (some ⟨l[i].a, 0, none⟩)] w fun x w' => ∃ v', x = .returned v' ∧ w'.ownsRow w.heap.size 5 1 v' (l[i].e.k + 5) (ins .u8 (nums (Rc.by_ l[i].e))) ∧ Chg (fun _ => False) w w' :=
  bytes_any _ _ _ _ w (h.es i hi).en hk
theorem fam_size (w0 : World) (l : List Q) (i : Nat) (hi : i < l.length) (w : World) (h : Fam w0 w l) (hk : l[i].e.k + 5 ≤ 140737488355328) :
    Calls Try.prog 11 #[.pointer (some ⟨l[i].a, 0, none⟩)] w fun x w' => x = .returned (.int .i64 ((l[i].e.k + 5 : Nat) : Int)) ∧ Chg (fun _ => False) w w' :=
  size_any _ _ _ _ w (h.es i hi).en (by omega)

/-- A bit of the row, as it came in. -/
def RowAt (w : World) (a : Option Addr) (k : Nat) (i : Int) (one : Bool) : Prop := ∃ b off, a = some ⟨b, off, none⟩ ∧ w.cell? ⟨b, off + k * 2, none⟩ = some (.int .i64 i) ∧ w.cell? ⟨b, off + k * 2 + 1, none⟩ = some (.bool one) ∧ I64 i
theorem Bits.row {w w' : World} {a : Option Addr} {n k : Nat} (h : Bits w a n) (hk : k < n) (hc : Chg (fun _ => False) w w') : ∃ i one, RowAt w a k i one ∧ RowAt w' a k i one := by
  obtain ⟨b, off, e, i, one, h0, h1, hi⟩ := h k hk
  exact ⟨i, one, ⟨b, off, e, h0, h1, hi⟩, ⟨b, off, e, cell_chg h0 hc, cell_chg h1 hc, hi⟩⟩
theorem RowAt.new {w w' : World} {a : Option Addr} {k : Nat} {i : Int} {one : Bool} (h : RowAt w a k i one) (hc : Chg (fun _ => False) w w') : RowAt w' a k i one := by
  obtain ⟨b, off, e, h0, h1, hi⟩ := h
  exact ⟨b, off, e, cell_chg h0 hc, cell_chg h1 hc, hi⟩
end Go.Proofs.Ythhjllhcgdkjnaa
