/- The program's rows alone, a family that stays where it lies; of no statement by itself. -/
import Derived.Test.YtibgjpifmpljkaaTrs
import Derived.Test.YtibgjpifmpljkaaTi
namespace Go.Proofs.Ytibgjpifmpljkaa
open Go.RowKit
set_option linter.unusedVariables false

/-- The program's rows of a family, from B up to H. -/
structure Sts (w : World) (B H P : Nat) (av bv : Value) (its : List It) : Prop where
  hP : B ≤ P ∧ P < H
  pair : w.heap[P]? = some (.cells #[av, bv] 58 (0, 0))
  ra : w.ownsRow B 23 1 av its.length (its.map ptrA)
  hra : ∀ g, av.ownBlock = some g → g < H
  st : ∀ i (h : i < its.length), St w B its[i].a its[i].v its[i].xs
  hst : ∀ i (h : i < its.length), its[i].a < H ∧ ∀ g, its[i].v.ownBlock = some g → g < H
  inn : ∀ i (h : i < its.length), In31 its[i].xs
  len : ∀ i (h : i < its.length), its[i].xs.length ≤ 1048576
  apart : ∀ i j (hi : i < its.length) (hj : j < its.length), i ≠ j → ∀ g, its[i].v.ownBlock = some g → its[j].v.ownBlock ≠ some g
theorem Play.sts {w0 w : World} {P : Nat} {av bv : Value} {its : List It} (h : Play w0 w P av bv its) (hI : ∀ i (h : i < its.length), In31 its[i].xs) : Sts w w0.heap.size w.heap.size P av bv its :=
  ⟨⟨h.hP, lt_of_blk h.pair⟩, h.pair, h.ra, fun g e => (h.ra.lt g e).2, fun i hi => (h.good i hi).st, fun i hi => ⟨lt_of_blk (h.good i hi).st.blk, fun g e => ((h.good i hi).st.own.lt g e).2⟩, hI, fun i hi => (h.good i hi).len, fun i j hi hj hne => (h.apart i j hi hj hne).2.2.1⟩
/-- What lies elsewhere may change. -/
theorem Sts.keep {w w' : World} {B H P : Nat} {av bv : Value} {its : List It} (h : Sts w B H P av bv its) {S : Nat → Prop} (hc : Chg S w w') (hS : ∀ z, S z → z < B ∨ H ≤ z) : Sts w' B H P av bv its := by
  refine ⟨h.hP, blk_keep h.pair hc (fun f => ?_), ownsRow_keep h.ra hc (fun g e f => ?_), h.hra, fun i hi => (h.st i hi).keep hc (fun f => ?_) (fun g e f => ?_), h.hst, h.inn, h.len, h.apart⟩
  · have := hS _ f; have := h.hP; omega
  · have := hS _ f; have := h.hra g e; have := (h.ra.lt g e).1; omega
  · have := hS _ f; have := (h.hst i hi).1; have := (h.st i hi).ha; omega
  · have := hS _ f; have := (h.hst i hi).2 g e; have := ((h.st i hi).own.lt g e).1; omega
theorem Sts.new {w w' : World} {B H P : Nat} {av bv : Value} {its : List It} (h : Sts w B H P av bv its) (hc : Chg (fun _ => False) w w') : Sts w' B H P av bv its := h.keep hc (fun z f => f.elim)
/-- A row put; what lies elsewhere may change. -/
theorem Sts.put {w w' : World} {B H P : Nat} {av bv : Value} {its : List It} (h : Sts w B H P av bv its) (k : Nat) (hk : k < its.length) {S : Nat → Prop} (hc : Chg S w w') (hS : ∀ z, S z → z < B ∨ H ≤ z ∨ its[k].v.ownBlock = some z) (xs' : List Int) (hst : St w' B its[k].a its[k].v xs') (hI : In31 xs') (hl : xs'.length = its[k].xs.length) : Sts w' B H P av bv (its.set k (its[k].to xs')) := by
  have mA : (its.set k (its[k].to xs')).map ptrA = its.map ptrA := by
    rw [List.map_set]
    exact List.ext_getElem? fun i => by
      rw [List.getElem?_set]
      split
      · rename_i e
        subst e
        rw [if_pos (by simpa using hk), List.getElem?_map, List.getElem?_eq_getElem hk]
        rfl
      · rfl
  have miss : ∀ {z : Nat} {c2 : Array Value} {t : TypeId}, S z → B ≤ z → z < H → w.heap[z]? = some (.cells c2 t (0, 0)) → t ≠ 81 → False := fun {z c2 t} f h1 h2 hb ht => by
    rcases hS z f with g | g | g
    · omega
    · omega
    · obtain ⟨c3, h3⟩ := owns_blk (h.st k hk).own g; exact ty_ne hb h3 ht
  have get : ∀ {p : It → Prop} (i : Nat) (hi : i < its.length), (∀ hne : i ≠ k, p its[i]) → p (its[k].to xs') → p ((its.set k (its[k].to xs'))[i]'(by rw [List.length_set]; exact hi)) := fun {p} i hi h1 h2 => by
    by_cases ei : i = k
    · subst ei
      rw [List.getElem_set_self]
      exact h2
    · rw [List.getElem_set_ne (fun x => ei x.symm)]
      exact h1 ei
  refine ⟨h.hP, blk_keep h.pair hc (fun f => miss f h.hP.1 h.hP.2 h.pair (by decide)), ?_, h.hra, fun i hi => ?_, fun i hi => ?_, fun i hi => ?_, fun i hi => ?_, fun i j hi hj hne => ?_⟩
  · rw [mA, List.length_set]
    exact ownsRow_keep h.ra hc (fun g e f => by obtain ⟨cur, hcur⟩ := owns_blk h.ra e; exact miss f (h.ra.lt g e).1 (h.hra g e) hcur (by decide))
  · have hi2 : i < its.length := by simpa using hi
    refine get (p := fun x => St w' B x.a x.v x.xs) i hi2 (fun hne => (h.st i hi2).keep hc (fun f => miss f (h.st i hi2).ha (h.hst i hi2).1 (h.st i hi2).blk (by decide)) (fun g e f => ?_)) hst
    rcases hS g f with q | q | q
    · have := ((h.st i hi2).own.lt g e).1; omega
    · have := (h.hst i hi2).2 g e; omega
    · exact h.apart i k hi2 hk hne g e q
  · have hi2 : i < its.length := by simpa using hi
    exact get (p := fun x => x.a < H ∧ ∀ g, x.v.ownBlock = some g → g < H) i hi2 (fun _ => h.hst i hi2) (h.hst k hk)
  · have hi2 : i < its.length := by simpa using hi
    exact get (p := fun x => In31 x.xs) i hi2 (fun _ => h.inn i hi2) hI
  · have hi2 : i < its.length := by simpa using hi
    exact get (p := fun x => x.xs.length ≤ 1048576) i hi2 (fun _ => h.len i hi2) (by show xs'.length ≤ _; rw [hl]; exact h.len k hk)
  · have hi2 : i < its.length := by simpa using hi
    have hj2 : j < its.length := by simpa using hj
    have hA := h.apart i j hi2 hj2 hne
    by_cases ei : i = k
    · subst ei
      rw [List.getElem_set_self, List.getElem_set_ne (fun x => hne x)]
      exact hA
    · by_cases ej : j = k
      · subst ej
        rw [List.getElem_set_self, List.getElem_set_ne (fun x => ei x.symm)]
        exact hA
      · rw [List.getElem_set_ne (fun x => ei x.symm), List.getElem_set_ne (fun x => ej x.symm)]
        exact hA
theorem Sts.a_at {w : World} {B H P : Nat} {av bv : Value} {its : List It} (h : Sts w B H P av bv its) (hn : 0 < its.length) : ∃ g cap, av = .slice (some ⟨g, 0, none⟩) its.length cap ∧ its.length ≤ cap ∧ ∀ k (hk : k < its.length), w.cell? ⟨g, k, none⟩ = some (.pointer (some ⟨its[k].a, 0, none⟩)) := by
  obtain ⟨g, cap, e, hc, _, _, _, _, hcell⟩ := own_some h.ra hn
  exact ⟨g, cap, e, hc, fun k hk => hcell k _ (by simp [hk, ptrA])⟩

set_option maxHeartbeats 2000000 in
set_option maxRecDepth 100000 in
theorem ofS_any (w : World) (B H P : Nat) (av bv : Value) (its : List It) (k row p n x : Int) (h : Sts w B H P av bv its) : Calls Try.prog 49 #[.pointer (some ⟨P, 0, none⟩), .agg #[.int .i64 k, .int .i64 row, .int .i64 p, .int .i64 n, .int .i64 x]] w fun e w' => e = .returned (.int .i64 ((ofN its.length row : Nat) : Int)) ∧ Chg (fun _ => False) w w' := by
  obtain ⟨ad, cap, hav, _⟩ := own_any h.ra
  have hc2 : (w.alloc (.cells #[.int .i64 k, .int .i64 row, .int .i64 p, .int .i64 n, .int .i64 x] 50)).cell? ⟨P, 0, none⟩ = some av := cell_chg (cell0 h.pair) (chg_one w _)
  rw [hav] at hc2
  have hlp := lt_of_blk h.pair
  clear h hav
  generalize its.length = L at *
  unfold ofN
  by_cases h0 : row < 0
  · rw [if_pos (.inl h0)]
    have hd : decide (row < 0) = true := by simp; omega
    go_enter Try.func49, Try.ntmps49
    go_wp2_with fail
    go_quiet (fail)
    go_wp2
    go_ret
    first | exact ⟨rfl, (chg_one w _).drew⟩ | exact ⟨rfl, chg_then (chg_one w _) (chg_drewN _ _)⟩ | exact ⟨rfl, chg_one w _⟩
  · have hd : decide (row < 0) = false := by simp; omega
    by_cases h1 : (L : Int) ≤ row
    · rw [if_pos (.inr h1)]
      have hd1 : decide ((L : Int) ≤ row) = true := by simp; omega
      go_enter Try.func49, Try.ntmps49
      go_wp2_with fail
      go_quiet (fail)
      go_wp2
      go_ret
      first | exact ⟨rfl, (chg_one w _).drew⟩ | exact ⟨rfl, chg_then (chg_one w _) (chg_drewN _ _)⟩ | exact ⟨rfl, chg_one w _⟩
    · rw [if_neg (by omega)]
      have hd1 : decide ((L : Int) ≤ row) = false := by simp; omega
      have hr : ((row.toNat : Nat) : Int) = row := by omega
      rw [hr]
      go_enter Try.func49, Try.ntmps49
      go_wp2_with fail
      go_quiet (fail)
      go_wp2
      go_ret
      first | exact ⟨rfl, (chg_one w _).drew⟩ | exact ⟨rfl, chg_then (chg_one w _) (chg_drewN _ _)⟩ | exact ⟨rfl, chg_one w _⟩
end Go.Proofs.Ytibgjpifmpljkaa
