/- What is asked of the program's symbols ('SymSpec'); lists of symbols of one's own; of no statement by itself. -/
import Derived.Test.YtlnocjicmofjfaaDoorYm
import Derived.Test.YtlnocjicmofjfaaDoorBoundB
import Derived.Test.YtlnocjicmofjfaaDoorBoundD
import Derived.Test.YtlnocjicmofjfaaDoorBoundE
namespace Go.Proofs.YtlnocjicmofjfaaDoor
open Go.RowKit
open St12 Sy13
set_option linter.unusedVariables false
set_option linter.unusedSimpArgs false

theorem inwD_iff (n : Nat) (bs : List Nat) (d : Int) : inwD n bs d ↔ Inw n bs d := Iff.rfl
/-- The cells of symbols. -/
def symc (y : Sym) : List Value := [.int .i64 y.k, .int .u8 y.y, .int .i64 y.l, .int .i64 y.d]
def symcs (l : List Sym) : List Value := l.flatMap symc
theorem symcs_append (a b : List Sym) : symcs (a ++ b) = symcs a ++ symcs b := by simp [symcs]
theorem symcs_one (y : Sym) : symcs [y] = symc y := by simp [symcs]
theorem symcs_len : ∀ l : List Sym, (symcs l).length = l.length * 4
  | [] => rfl
  | y :: l => by
    have := symcs_len l
    simp only [symcs, List.flatMap_cons, List.length_append, List.length_cons] at this ⊢
    rw [this]
    simp [symc]
    omega
theorem symcs_at : ∀ (l : List Sym) (k : Nat) (y : Sym), l[k]? = some y → ∀ j, j < 4 → (symcs l)[k * 4 + j]? = (symc y)[j]?
  | [], k, y, h, j, hj => by simp at h
  | z :: l, 0, y, h, j, hj => by
    simp only [List.getElem?_cons_zero, Option.some.injEq] at h
    subst h
    simp only [symcs, List.flatMap_cons]
    rw [List.getElem?_append_left (by simp [symc]; omega)]
    congr 1
    omega
  | z :: l, k + 1, y, h, j, hj => by
    rw [List.getElem?_cons_succ] at h
    have := symcs_at l k y h j hj
    simp only [symcs, List.flatMap_cons] at this ⊢
    rw [List.getElem?_append_right (by simp [symc]; omega)]
    rw [← this]
    congr 1
    simp [symc]
    omega
theorem symcs_cell : ∀ (l : List Sym), ∀ u ∈ symcs l, u.oneCell' = true := fun l u hu => by
  unfold symcs at hu
  rw [List.mem_flatMap] at hu
  obtain ⟨y, _, h⟩ := hu
  simp only [symc, List.mem_cons, List.not_mem_nil, or_false] at h
  rcases h with rfl | rfl | rfl | rfl <;> rfl
/-- A list of symbols of one's own. -/
def SymO (w : World) (B : Nat) (v : Value) (l : List Sym) : Prop := w.ownsRow B 33 4 v l.length (symcs l)
structure SymSpec (Win : World → Nat → Nat → Value → Nat → List Nat → Prop) (Tab : World → Prop) : Prop where
  keep : ∀ {w0 w w' : World} {S : Nat → Prop}, Tab w0 → Tab w → Chg S w w' → (∀ z, S z → w0.heap.size ≤ z) → Tab w'
  apply : ∀ (w0 : World) (a : Nat) (v : Value) (n : Nat) (bs : List Nat) (s : Stt) (y : Sym) (w : World), Tab w0 → Tab w → w0.heap.size ≤ w.heap.size → Win w w0.heap.size a v n bs → s.I → y.I → bs.length + 273 ≤ 1152921504606846976 → Calls Tryd.prog 20 #[.pointer (some ⟨a, 0, none⟩), stv s, syv y] w fun e w' => ∃ ov v', e = .returned (.tuple #[ov, stv (app n bs s y).2.1, .int .i64 (app n bs s y).2.2]) ∧ Win w' w0.heap.size a v' n (bs ++ (app n bs s y).1) ∧ w'.ownsRow w.heap.size 5 1 ov (app n bs s y).1.length (ins .u8 (nums (app n bs s y).1)) ∧ (∀ g, ov.ownBlock = some g → ¬ Foot a v' g) ∧ Chg (Foot a v) w w' ∧ Moved w v v'
  expand : ∀ (dict : Int) (ad : Option Addr) (c : Nat) (l : List Sym) (w : World), Tab w → I64 dict → SymL w ad l → l.length ≤ c → l.length ≤ 4194304 → Calls Tryd.prog 14 #[.int .i64 dict, .slice ad l.length c] w fun e w' => ∃ ov, e = .returned (.tuple #[ov, .int .i64 ((expandA dict l).2.1 : Int), .int .i64 (expandA dict l).2.2]) ∧ w'.ownsRow w.heap.size 5 1 ov (expandA dict l).1.length (ins .u8 (nums (expandA dict l).1)) ∧ Chg (fun _ => False) w w'
  size : ∀ (y : Sym) (w : World), Tab w → y.I → Calls Tryd.prog 13 #[syv y] w fun e w' => e = .returned (.int .i64 (sizeA y)) ∧ Chg (fun _ => False) w w'
  lits : ∀ (ad : Option Addr) (c : Nat) (bs : List Nat) (w : World), Tab w → Row8 w ad bs.length c (nums bs) → Rc.Dig bs → bs.length ≤ c → bs.length ≤ 4194304 → Calls Tryd.prog 15 #[.slice ad bs.length c] w fun e w' => ∃ ov, e = .returned ov ∧ SymO w' w.heap.size ov (bs.map litY) ∧ Chg (fun _ => False) w w'
theorem SymSpec.new {Win : World → Nat → Nat → Value → Nat → List Nat → Prop} {Tab : World → Prop} (S : SymSpec Win Tab) {w w' : World} (h : Tab w) (hc : Chg (fun _ => False) w w') : Tab w' := S.keep h h hc (fun _ f => f.elim)
theorem Stt.I.zero : (St12.zero : Stt).I := ⟨⟨by decide, by decide⟩, ⟨by decide, by decide⟩, ⟨by decide, by decide⟩, ⟨by decide, by decide⟩, ⟨by decide, by decide⟩⟩
theorem Stt.I.st0 : (St12.st0 : Stt).I := ⟨⟨by decide, by decide⟩, ⟨by decide, by decide⟩, ⟨by decide, by decide⟩, ⟨by decide, by decide⟩, ⟨by decide, by decide⟩⟩
theorem right_I {s : Stt} (h : right s) : s.I := by
  obtain ⟨⟨h1, h2⟩, ⟨a1, a2⟩, ⟨b1, b2⟩, ⟨c1, c2⟩, ⟨d1, d2⟩⟩ := h
  exact ⟨⟨by omega, by omega⟩, ⟨by omega, by omega⟩, ⟨by omega, by omega⟩, ⟨by omega, by omega⟩, ⟨by omega, by omega⟩⟩
theorem app_I (n : Nat) (bs : List Nat) (s : Stt) (y : Sym) : (app n bs s y).2.1.I := by
  by_cases h : (app n bs s y).2.2 = 0
  · exact right_I (app_right h)
  · rw [(app_refused h).2]; exact Stt.I.zero
theorem app_dig {n : Nat} {bs : List Nat} {s : Stt} {y : Sym} (hy : y.I) (hb : Rc.Dig bs) : Rc.Dig (app n bs s y).1 := by
  unfold app
  split
  · intro x hx; simp at hx
  · split
    · intro x hx
      simp only [List.mem_singleton] at hx
      have := hy.y
      omega
    · split
      · next h => 
        have h2 := Inw.nat h
        exact copyL_dig h2.1 _ h2.2.1 hb
      · intro x hx; simp at hx
/-- An own list reads as a list. -/
theorem SymO.list {w : World} {B : Nat} {v : Value} {l : List Sym} (h : SymO w B v l) (hI : ∀ y ∈ l, y.I) : ∃ ad c, v = .slice ad l.length c ∧ SymL w ad l ∧ l.length ≤ c := by
  have hh := h
  obtain ⟨h0, h1⟩ := hh
  rcases h1 with ⟨rfl, hn⟩ | ⟨g, cap, cur, rfl, hg, hb, hc, hm, hs, ht⟩
  · refine ⟨none, 0, by rw [hn], fun k y hk => ?_, by omega⟩
    have := (List.getElem?_eq_some_iff.1 hk).1
    omega
  · refine ⟨_, cap, rfl, fun k y hk => ⟨hI y (List.mem_of_getElem? hk), g, 0, rfl, ?_⟩, hc⟩
    have hlt := (List.getElem?_eq_some_iff.1 hk).1
    have hat := symcs_at l k y hk
    have hce : ∀ j, j < 4 → w.cell? ⟨g, k * 4 + j, none⟩ = (symc y)[j]? := fun j hj => by
      rw [World.ownsRow.cellAt h (k * 4 + j) (by omega), hat j hj]
    have e0 := hce 0 (by omega)
    have e1 := hce 1 (by omega)
    have e2 := hce 2 (by omega)
    have e3 := hce 3 (by omega)
    rw [Nat.zero_add]
    exact ⟨e0, e1, e2, e3⟩
theorem SymO.lt {w : World} {B : Nat} {v : Value} {l : List Sym} (h : SymO w B v l) {g : Nat} (hg : v.ownBlock = some g) : B ≤ g ∧ g < w.heap.size := World.ownsRow.lt h g hg
theorem SymO.keep {w w' : World} {S : Nat → Prop} {B : Nat} {v : Value} {l : List Sym} (h : SymO w B v l) (hc : Chg S w w') (hS : ∀ g, v.ownBlock = some g → ¬ S g) : SymO w' B v l := Bk.own_keep h hc hS
theorem SymO.new {w w' : World} {B : Nat} {v : Value} {l : List Sym} (h : SymO w B v l) (hc : Chg (fun _ => False) w w') : SymO w' B v l := h.keep hc (fun _ _ f => f)
theorem SymO.nil (w : World) (B : Nat) : SymO w B (.slice none 0 0) [] := World.ownsRow_nil w B 33 4
theorem SymO.blk {w : World} {B : Nat} {v : Value} {l : List Sym} (h : SymO w B v l) {g : Nat} (hg : v.ownBlock = some g) : ∃ cs, w.heap[g]? = some (.cells cs 33 (0, 0)) := Bk.own_blk h hg
theorem infoSym : (Tryd.prog.info? 33).map (fun i => (i.zero, i.size, i.bytes)) = some (some (.agg #[.int .i64 0, .int .u8 0, .int .i64 0, .int .i64 0]), 4, 32) := by kernel_rfl
end Go.Proofs.YtlnocjicmofjfaaDoor
