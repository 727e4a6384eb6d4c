/- Lists of records and of places in memory; the law's small functions; of no statement by themselves. -/
import Derived.Test.YtehfcfpbjenmjaaDoorBoundC
import Derived.Test.YtehfcfpbjenmjaaDoorBoundA
import Derived.Deep.DeepCutAuto
import Derived.Great.BuildSlice
import Derived.Laws.StructEq
import Derived.BigQuiet
import Derived.BigRegion
import Derived.Deep.QuietTactic
namespace Go.Proofs.YtehfcfpbjenmjaaDoor
open Go.RowKit
set_option linter.unusedVariables false
set_option linter.unusedSimpArgs false
def Rec.I (q : Rec) : Prop := I64 q.u ∧ I64 q.s
def Plc.I (q : Plc) : Prop := I64 q.off ∧ q.r.I ∧ I64 q.st
def Rec.cells (q : Rec) : List Value := [.int .i64 q.u, .int .i64 q.s]
def Plc.cells (q : Plc) : List Value := [.int .i64 q.off, .int .i64 q.r.u, .int .i64 q.r.s, .int .i64 q.st]
def Rec.v (q : Rec) : Value := .agg #[.int .i64 q.u, .int .i64 q.s]
def rcs (l : List Rec) : List Value := l.flatMap Rec.cells
def pls (l : List Plc) : List Value := l.flatMap Plc.cells
theorem rcs_app (a b : List Rec) : rcs (a ++ b) = rcs a ++ rcs b := by simp [rcs]
theorem pls_app (a b : List Plc) : pls (a ++ b) = pls a ++ pls b := by simp [pls]
theorem rcs_one (q : Rec) : rcs [q] = q.cells := by simp [rcs]
theorem pls_one (q : Plc) : pls [q] = q.cells := by simp [pls]
theorem rcs_len (l : List Rec) : (rcs l).length = l.length * 2 := by
  induction l with
  | nil => rfl
  | cons y l ih => simp only [rcs, List.flatMap_cons, List.length_append] at *; rw [ih]; simp [Rec.cells]; omega
theorem pls_len (l : List Plc) : (pls l).length = l.length * 4 := by
  induction l with
  | nil => rfl
  | cons y l ih => simp only [pls, List.flatMap_cons, List.length_append] at *; rw [ih]; simp [Plc.cells]; omega
theorem rcs_at : ∀ (l : List Rec) (k : Nat) (q : Rec), l[k]? = some q → (rcs l)[k * 2]? = some (.int .i64 q.u) ∧ (rcs l)[k * 2 + 1]? = some (.int .i64 q.s)
  | [], k, p, h => by simp at h
  | q :: l, 0, p, h => by
    simp at h
    subst h
    exact ⟨rfl, rfl⟩
  | q :: l, k + 1, p, h => by
    obtain ⟨h1, h2⟩ := rcs_at l k p (by simpa using h)
    have e : rcs (q :: l) = .int .i64 q.u :: .int .i64 q.s :: rcs l := rfl
    rw [e]
    exact ⟨by rw [show (k + 1) * 2 = k * 2 + 1 + 1 by omega]; simpa using h1, by rw [show (k + 1) * 2 + 1 = k * 2 + 1 + 1 + 1 by omega]; simpa using h2⟩
theorem pls_at : ∀ (l : List Plc) (k : Nat) (q : Plc), l[k]? = some q → (pls l)[k * 4]? = some (.int .i64 q.off) ∧ (pls l)[k * 4 + 1]? = some (.int .i64 q.r.u) ∧ (pls l)[k * 4 + 2]? = some (.int .i64 q.r.s) ∧ (pls l)[k * 4 + 3]? = some (.int .i64 q.st)
  | [], k, p, h => by simp at h
  | q :: l, 0, p, h => by
    simp at h
    subst h
    exact ⟨rfl, rfl, rfl, rfl⟩
  | q :: l, k + 1, p, h => by
    obtain ⟨h1, h2, h3, h4⟩ := pls_at l k p (by simpa using h)
    have e : pls (q :: l) = .int .i64 q.off :: .int .i64 q.r.u :: .int .i64 q.r.s :: .int .i64 q.st :: pls l := rfl
    rw [e]
    exact ⟨by rw [show (k + 1) * 4 = k * 4 + 1 + 1 + 1 + 1 by omega]; simpa using h1, by rw [show (k + 1) * 4 + 1 = k * 4 + 1 + 1 + 1 + 1 + 1 by omega]; simpa using h2, by rw [show (k + 1) * 4 + 2 = k * 4 + 2 + 1 + 1 + 1 + 1 by omega]; simpa using h3, by rw [show (k + 1) * 4 + 3 = k * 4 + 3 + 1 + 1 + 1 + 1 by omega]; simpa using h4⟩
theorem rcs_cell (l : List Rec) : ∀ u ∈ rcs l, u.oneCell' = true := fun u hu => by
  unfold rcs at hu
  rw [List.mem_flatMap] at hu
  obtain ⟨y, _, h⟩ := hu
  simp only [Rec.cells, List.mem_cons, List.not_mem_nil, or_false] at h
  rcases h with rfl | rfl <;> rfl
theorem pls_cell (l : List Plc) : ∀ u ∈ pls l, u.oneCell' = true := fun u hu => by
  unfold pls at hu
  rw [List.mem_flatMap] at hu
  obtain ⟨y, _, h⟩ := hu
  simp only [Plc.cells, List.mem_cons, List.not_mem_nil, or_false] at h
  rcases h with rfl | rfl | rfl | rfl <;> rfl
theorem infoRc : (Tryd.prog.info? 43).map (fun i => (i.zero, i.size, i.bytes)) = some (some (.agg #[.int .i64 0, .int .i64 0]), 2, 16) := by kernel_rfl
theorem infoPl : (Tryd.prog.info? 45).map (fun i => (i.zero, i.size, i.bytes)) = some (some (.agg #[.int .i64 0, .int .i64 0, .int .i64 0, .int .i64 0]), 4, 32) := by kernel_rfl
theorem from_cell {w : World} {ad : Option Addr} {n c size : Nat} {xs : List Value} (h : From w ad n c size xs) {j : Nat} {u : Value} (hu : xs[j]? = some u) : ∃ b off, ad = some ⟨b, off, none⟩ ∧ w.cell? ⟨b, off + j, none⟩ = some u := by
  have hj := (List.getElem?_eq_some_iff.1 hu).1
  rcases h.2 with ⟨_, e, _⟩ | ⟨x, e, hx⟩
  · have := h.1
    rw [e] at this
    omega
  · obtain ⟨b, off, sp⟩ := x
    have hs : sp = none := by
      have q := hx 0 _ (List.getElem?_eq_getElem (show 0 < xs.length by omega))
      simp [Addr.add] at q
      exact World.cell?_spot q
    subst hs
    have q := hx j u hu
    rw [addk] at q
    exact ⟨b, off, e, q⟩
theorem from_own {w : World} {B size : Nat} {t : TypeId} {ad : Option Addr} {n c : Nat} {xs : List Value} (h : w.ownsRow B t size (.slice ad n c) n xs) : From w ad n c size xs := by
  have := from_front h (Nat.le_refl n)
  rw [List.take_of_length_le (by rw [h.1]; exact Nat.le_refl _)] at this
  exact this
/-- Records that came in. -/
structure RcF (w : World) (ad : Option Addr) (n c : Nat) (l : List Rec) : Prop where
  src : From w ad n c 2 (rcs l)
  len : l.length = n
  cap : n ≤ c
  rng : ∀ (k : Nat) (q : Rec), l[k]? = some q → q.I
/-- Places that came in. -/
structure PlF (w : World) (ad : Option Addr) (n c : Nat) (l : List Plc) : Prop where
  src : From w ad n c 4 (pls l)
  len : l.length = n
  cap : n ≤ c
  rng : ∀ (k : Nat) (q : Plc), l[k]? = some q → q.I
theorem RcF.new {w w' : World} {ad : Option Addr} {n c : Nat} {l : List Rec} (h : RcF w ad n c l) (hc : Chg (fun _ => False) w w') : RcF w' ad n c l := ⟨h.src.keep hc, h.len, h.cap, h.rng⟩
theorem PlF.new {w w' : World} {ad : Option Addr} {n c : Nat} {l : List Plc} (h : PlF w ad n c l) (hc : Chg (fun _ => False) w w') : PlF w' ad n c l := ⟨h.src.keep hc, h.len, h.cap, h.rng⟩
theorem RcF.at {w : World} {ad : Option Addr} {n c : Nat} {l : List Rec} (h : RcF w ad n c l) {k : Nat} (hk : k < n) : ∃ q b off, l[k]? = some q ∧ q.I ∧ ad = some ⟨b, off, none⟩ ∧ w.cell? ⟨b, off + k * 2, none⟩ = some (.int .i64 q.u) ∧ w.cell? ⟨b, off + k * 2 + 1, none⟩ = some (.int .i64 q.s) := by
  have e := List.getElem?_eq_getElem (show k < l.length by rw [h.len]; exact hk)
  obtain ⟨a0, a1⟩ := rcs_at l k _ e
  obtain ⟨b, off, e1, h0⟩ := from_cell h.src a0
  obtain ⟨b', off', e2, h1⟩ := from_cell h.src a1
  rw [e1] at e2
  simp only [Option.some.injEq, Addr.mk.injEq, and_true] at e2
  obtain ⟨rfl, rfl⟩ := e2
  exact ⟨_, b, off, e, h.rng k _ e, e1, h0, h1⟩
theorem PlF.at {w : World} {ad : Option Addr} {n c : Nat} {l : List Plc} (h : PlF w ad n c l) {k : Nat} (hk : k < n) : ∃ q b off, l[k]? = some q ∧ q.I ∧ ad = some ⟨b, off, none⟩ ∧ w.cell? ⟨b, off + k * 4, none⟩ = some (.int .i64 q.off) ∧ w.cell? ⟨b, off + k * 4 + 1, none⟩ = some (.int .i64 q.r.u) ∧ w.cell? ⟨b, off + k * 4 + 2, none⟩ = some (.int .i64 q.r.s) ∧ w.cell? ⟨b, off + k * 4 + 3, none⟩ = some (.int .i64 q.st) := by
  have e := List.getElem?_eq_getElem (show k < l.length by rw [h.len]; exact hk)
  obtain ⟨a0, a1, a2, a3⟩ := pls_at l k _ e
  obtain ⟨b, off, e1, h0⟩ := from_cell h.src a0
  have key : ∀ {j : Nat} {u : Value}, (pls l)[j]? = some u → w.cell? ⟨b, off + j, none⟩ = some u := fun {j u} hu => by
    obtain ⟨b', off', e2, h1⟩ := from_cell h.src hu
    rw [e1] at e2
    simp only [Option.some.injEq, Addr.mk.injEq, and_true] at e2
    obtain ⟨rfl, rfl⟩ := e2
    exact h1
  exact ⟨_, b, off, e, h.rng k _ e, e1, h0, key a1, key a2, key a3⟩
/-- Records of one's own. -/
def RcO (w : World) (B : Nat) (v : Value) (l : List Rec) : Prop := w.ownsRow B 43 2 v l.length (rcs l)
/-- Places of one's own. -/
def PlO (w : World) (B : Nat) (v : Value) (l : List Plc) : Prop := w.ownsRow B 45 4 v l.length (pls l)
theorem owns_keepI {w w' : World} {S : Nat → Prop} {B size : Nat} {e : TypeId} {v : Value} {n : Nat} {xs : List Value} (h : w.ownsRow B e size v n xs) (hc : Chg S w w') (hS : ∀ g, v.ownBlock = some g → ¬ S g) : w'.ownsRow B e size v n xs := by
  refine ⟨h.1, ?_⟩
  rcases h.2 with hn | ⟨g, cap, cur, rfl, hb, hgg, rest⟩
  · exact .inl hn
  · exact .inr ⟨g, cap, cur, rfl, hb, (hc.block g (lt_of_blk hgg) (hS g rfl)).trans hgg, rest⟩
theorem RcO.new {w w' : World} {B : Nat} {v : Value} {l : List Rec} (h : RcO w B v l) (hc : Chg (fun _ => False) w w') : RcO w' B v l := owns_keepI h hc (fun _ _ f => f)
theorem PlO.new {w w' : World} {B : Nat} {v : Value} {l : List Plc} (h : PlO w B v l) (hc : Chg (fun _ => False) w w') : PlO w' B v l := owns_keepI h hc (fun _ _ f => f)
theorem formI {w : World} {B : Nat} {t : TypeId} {size : Nat} {lv : Value} {n : Nat} {xs : List Value} (h : w.ownsRow B t size lv n xs) : ∃ a c, lv = .slice a n c ∧ n ≤ c := by
  rcases h.2 with ⟨rfl, rfl⟩ | ⟨g, cap, cur, rfl, _, _, hc, _⟩
  · exact ⟨none, 0, rfl, Nat.le_refl _⟩
  · exact ⟨_, _, rfl, hc⟩
theorem RcO.F {w : World} {B : Nat} {ad : Option Addr} {n c : Nat} {l : List Rec} (h : RcO w B (.slice ad n c) l) (hr : ∀ (k : Nat) (q : Rec), l[k]? = some q → q.I) : RcF w ad n c l := by
  obtain ⟨a, c', e, hc⟩ := formI h
  simp only [Value.slice.injEq] at e
  obtain ⟨rfl, e2, rfl⟩ := e
  unfold RcO at h
  rw [← e2] at h
  exact ⟨from_own h, e2.symm, by omega, hr⟩
theorem PlO.F {w : World} {B : Nat} {ad : Option Addr} {n c : Nat} {l : List Plc} (h : PlO w B (.slice ad n c) l) (hr : ∀ (k : Nat) (q : Plc), l[k]? = some q → q.I) : PlF w ad n c l := by
  obtain ⟨a, c', e, hc⟩ := formI h
  simp only [Value.slice.injEq] at e
  obtain ⟨rfl, e2, rfl⟩ := e
  unfold PlO at h
  rw [← e2] at h
  exact ⟨from_own h, e2.symm, by omega, hr⟩
theorem RcF.front {w : World} {ad : Option Addr} {n c m : Nat} {l k : List Rec} (h : RcF w ad n c (l ++ k)) (hm : l.length = m) : RcF w ad m c l := by
  have h1 := h.len
  have h2 := h.cap
  rw [List.length_append] at h1
  have hn : ∀ i, i < l.length → (l ++ k)[i]? = l[i]? := fun i hi => List.getElem?_append_left hi
  refine ⟨⟨by rw [rcs_len, hm], ?_⟩, hm, by omega, fun i q e => h.rng i q (by rw [hn i (List.getElem?_eq_some_iff.1 e).1]; exact e)⟩
  rcases h.src.2 with ⟨e0, e1, e2⟩ | ⟨x, e, hx⟩
  · exact .inl ⟨e0, by omega, e2⟩
  · exact .inr ⟨x, e, fun j u hu => hx j u (by rw [rcs_app, List.getElem?_append_left (List.getElem?_eq_some_iff.1 hu).1]; exact hu)⟩
theorem num_q (x : Int) (w : World) : Calls Tryd.prog 10 #[.int .i64 x] w fun e w' => e = .returned (.int .i64 x) ∧ w = w' := by
  go_enter Tryd.func10, Tryd.ntmps10
  go_wp2
  go_ret
  exact ⟨rfl, rfl⟩
set_option maxHeartbeats 8000000 in
set_option maxRecDepth 100000 in
theorem sameR_any (a b : Option Addr) (n c d : Nat) (l : List Rec) (w0 : World) (hx : RcF w0 a n c l) (hy : RcF w0 b n d l) (hn : n ≤ 140737488355328) : Calls Tryd.prog 13 #[.slice a n c, .slice b n d] w0 fun e w' => e = .returned (.bool true) ∧ ∃ k, w' = w0.drewN k := by
  have HX : Hid (RcF w0 a n c l) := hx
  have HY : Hid (RcF w0 b n d l) := hy
  have hni : (n : Int) ≤ 140737488355328 := by omega
  clear hx hy
  go_enter Tryd.func13, Tryd.ntmps13
  go_wp2_with fail
  go_loopw [5, 13] (fun i j wr => ∃ k : Nat, k ≤ n ∧ j = .int .i64 (k : Int) ∧ ∃ m, wr = w0.drewN m) (fun _ j _ => n - (intOf j).toNat)
  case atStart => exact ⟨0, by omega, rfl, 0, rfl⟩
  case round =>
    obtain ⟨k, hk, rfl, m, rfl⟩ := hrel
    have hki : (k : Int) ≤ (n : Int) := by omega
    by_cases hlt : k < n
    · have d1 : decide ((k : Int) < (n : Int)) = true := decide_eq_true (by omega)
      have d1' : decide (k < n) = true := decide_eq_true hlt
      obtain ⟨q, bx, ox, hq, hI, rfl, x0, x1⟩ := HX.out.at hlt
      obtain ⟨q2, by_, oy, hq2, _, rfl, y0, y1⟩ := HY.out.at hlt
      rw [hq] at hq2
      simp only [Option.some.injEq] at hq2
      subst hq2
      obtain ⟨u, s⟩ := q
      clear hq hI
      simp only at x0 x1 y0 y1
      go_upto_region 6 with fail
      go_quiet (fail)
      go_wp2
      go_roundw
      case rel => exact ⟨k + 1, by omega, by go_num, m + nq, rfl⟩
      case measure => simp [intOf]; omega
    · obtain rfl : k = n := by omega
      go_wp2
      go_ret
      exact ⟨rfl, m, rfl⟩
set_option maxHeartbeats 8000000 in
set_option maxRecDepth 100000 in
theorem sameP_any (a b : Option Addr) (n c d : Nat) (l : List Plc) (w0 : World) (hx : PlF w0 a n c l) (hy : PlF w0 b n d l) (hn : n ≤ 140737488355328) : Calls Tryd.prog 23 #[.slice a n c, .slice b n d] w0 fun e w' => e = .returned (.bool true) ∧ ∃ k, w' = w0.drewN k := by
  have HX : Hid (PlF w0 a n c l) := hx
  have HY : Hid (PlF w0 b n d l) := hy
  have hni : (n : Int) ≤ 140737488355328 := by omega
  clear hx hy
  go_enter Tryd.func23, Tryd.ntmps23
  go_wp2_with fail
  go_loopw [5, 13] (fun i j wr => ∃ k : Nat, k ≤ n ∧ j = .int .i64 (k : Int) ∧ ∃ m, wr = w0.drewN m) (fun _ j _ => n - (intOf j).toNat)
  case atStart => exact ⟨0, by omega, rfl, 0, rfl⟩
  case round =>
    obtain ⟨k, hk, rfl, m, rfl⟩ := hrel
    have hki : (k : Int) ≤ (n : Int) := by omega
    by_cases hlt : k < n
    · have d1 : decide ((k : Int) < (n : Int)) = true := decide_eq_true (by omega)
      have d1' : decide (k < n) = true := decide_eq_true hlt
      obtain ⟨q, bx, ox, hq, hI, rfl, x0, x1, x2, x3⟩ := HX.out.at hlt
      obtain ⟨q2, by_, oy, hq2, _, rfl, y0, y1, y2, y3⟩ := HY.out.at hlt
      rw [hq] at hq2
      simp only [Option.some.injEq] at hq2
      subst hq2
      obtain ⟨o, ⟨u, s⟩, st⟩ := q
      clear hq hI
      simp only at x0 x1 x2 x3 y0 y1 y2 y3
      go_upto_region 6 with fail
      go_quiet (fail)
      go_wp2
      go_roundw
      case rel => exact ⟨k + 1, by omega, by go_num, m + nq, rfl⟩
      case measure => simp [intOf]; omega
    · obtain rfl : k = n := by omega
      go_wp2
      go_ret
      exact ⟨rfl, m, rfl⟩
end Go.Proofs.YtehfcfpbjenmjaaDoor
