/- Lists of bytes of one's own in a list of lists: made, marked, lengthened; of no statement by themselves. -/
import Derived.Test.YtikokgngkagieaaDoorBy
import Derived.Test.YtikokgngkagieaaDoorLastQ
namespace Go.Proofs.YtikokgngkagieaaDoor
open Go.RowKit
set_option linter.unusedVariables false
set_option linter.unusedSimpArgs false
theorem infoBs : (Tryd.prog.info? 22).map (fun i => (i.zero, i.size, i.bytes)) = some (some (.slice none 0 0), 1, 24) := by kernel_rfl
theorem infoStr : (Tryd.prog.info? 9).map (fun i => (i.zero, i.size, i.bytes)) = some (some (.string ByteArray.empty), 1, 16) := by kernel_rfl
theorem blk_own {w : World} {B : Nat} {v : Value} {bs : List Nat} (h : ByO w B v bs) {g : Nat} (hg : v.ownBlock = some g) : ∃ cur, w.heap[g]? = some (.cells cur 5 (0, 0)) := ownsRow_blk h hg
/-- A list of bytes is as it was while a list of another kind grows. -/
theorem byO_cross {w w' : World} {B C n : Nat} {t : TypeId} {v u : Value} {bs : List Nat} {xs : List Value} (h : ByO w B v bs) (ho : w.ownsRow C t 1 u n xs) (ht : t ≠ 5) (hc : Chg (fun g => u.ownBlock = some g) w w') : ByO w' B v bs :=
  ownsRow_keep h hc (fun g e f => by
    obtain ⟨c1, h1⟩ := blk_own h e
    obtain ⟨c2, h2⟩ := ownsRow_blk ho f
    exact ty_ne h2 h1 ht)
theorem own_cross {w w' : World} {B C n m : Nat} {t t' : TypeId} {v u : Value} {xs ys : List Value} (h : w.ownsRow B t 1 v n xs) (ho : w.ownsRow C t' 1 u m ys) (ht : t ≠ t') (hc : Chg (fun g => u.ownBlock = some g) w w') : w'.ownsRow B t 1 v n xs :=
  ownsRow_keep h hc (fun g e f => by
    obtain ⟨c1, h1⟩ := ownsRow_blk h e
    obtain ⟨c2, h2⟩ := ownsRow_blk ho f
    exact ty_ne h1 h2 ht)
/-- Each is a list of bytes of one's own. -/
def Pcs (B : Nat) (w : World) (vs : List Value) (F : Nat → List Nat) : Prop := ∀ (i : Nat) (v : Value), vs[i]? = some v → ByO w B v (F i)
/-- No two lie in one block. -/
def Inj (vs : List Value) : Prop := ∀ (i j : Nat) (v u : Value) (g : Nat), vs[i]? = some v → vs[j]? = some u → v.ownBlock = some g → u.ownBlock = some g → i = j
/-- The list of the lists. -/
def LsO (w : World) (B : Nat) (hv : Value) (vs : List Value) : Prop := w.ownsRow B 22 1 hv vs.length vs
theorem Pcs.keep {B : Nat} {w w' : World} {vs : List Value} {F : Nat → List Nat} {S : Nat → Prop} (h : Pcs B w vs F) (hc : Chg S w w') (hS : ∀ (i : Nat) (v : Value) (g : Nat), vs[i]? = some v → v.ownBlock = some g → ¬ S g) : Pcs B w' vs F := fun i v e => ownsRow_keep (h i v e) hc (fun g hg => hS i v g e hg)
theorem Pcs.new {B : Nat} {w w' : World} {vs : List Value} {F : Nat → List Nat} (h : Pcs B w vs F) (hc : Chg (fun _ => False) w w') : Pcs B w' vs F := h.keep hc (fun _ _ _ _ _ f => f)
theorem Pcs.cross {B C n : Nat} {t : TypeId} {w w' : World} {vs : List Value} {F : Nat → List Nat} {u : Value} {xs : List Value} (h : Pcs B w vs F) (ho : w.ownsRow C t 1 u n xs) (ht : t ≠ 5) (hc : Chg (fun g => u.ownBlock = some g) w w') : Pcs B w' vs F := fun i v e => byO_cross (h i v e) ho ht hc
theorem LsO.new {w w' : World} {B : Nat} {hv : Value} {vs : List Value} (h : LsO w B hv vs) (hc : Chg (fun _ => False) w w') : LsO w' B hv vs := ownsRow_keep h hc (fun _ _ f => f)
theorem Pcs.lt {B : Nat} {w : World} {vs : List Value} {F : Nat → List Nat} (h : Pcs B w vs F) {i : Nat} {v : Value} {g : Nat} (e : vs[i]? = some v) (hg : v.ownBlock = some g) : g < w.heap.size := ((h i v e).lt g hg).2
theorem snoc_cases {α : Type} {l : List α} {x y : α} {i : Nat} (h : (l ++ [x])[i]? = some y) : (i < l.length ∧ l[i]? = some y) ∨ (i = l.length ∧ y = x) := by
  by_cases hi : i < l.length
  · rw [List.getElem?_append_left hi] at h
    exact .inl ⟨hi, h⟩
  · have h1 := (List.getElem?_eq_some_iff.1 h).1
    simp at h1
    obtain rfl : i = l.length := by omega
    simp at h
    exact .inr ⟨rfl, h.symm⟩
/-- What is known while lists are made: the lists, their list, their strings. -/
structure Ph (w0 w : World) (hv sv : Value) (vs : List Value) (D : List (List Nat)) : Prop where
  len : vs.length = D.length
  pcs : Pcs w0.heap.size w vs (fun i => D.getD i [])
  inj : Inj vs
  own : LsO w w0.heap.size hv vs
  str : w.ownsRow w0.heap.size 9 1 sv D.length (D.map fun b => .string (strOfNums (nums b)))
  chg : Chg (fun _ => False) w0 w
theorem Ph.new {w0 w w' : World} {hv sv : Value} {vs : List Value} {D : List (List Nat)} (h : Ph w0 w hv sv vs D) (hc : Chg (fun _ => False) w w') : Ph w0 w' hv sv vs D :=
  ⟨h.len, h.pcs.new hc, h.inj, h.own.new hc, ownsRow_keep h.str hc (fun _ _ f => f), chg_then h.chg hc⟩
theorem ph_nil (w : World) : Ph w w (.slice none 0 0) (.slice none 0 0) [] [] :=
  ⟨rfl, fun i v e => by simp at e, fun i j v u g e => by simp at e, World.ownsRow_nil _ _ _ _, World.ownsRow_nil _ _ _ _, Chg.refl _ _⟩
/-- One more: behind the append to the list of lists. -/
theorem Ph.one {w0 w w2 w3 : World} {hv hv' sv ov : Value} {vs : List Value} {D : List (List Nat)} {b : List Nat} (h : Ph w0 w hv sv vs D) (hc : Chg (fun _ => False) w w2) (hb : ByO w2 w.heap.size ov b)
    (ho : w3.ownsRow w0.heap.size 22 1 hv' (D.length + 1) (vs ++ [ov])) (hg : w2.grownBy w3 hv.ownBlock) :
    (Pcs w0.heap.size w3 (vs ++ [ov]) (fun i => (D ++ [b]).getD i []) ∧ Inj (vs ++ [ov]) ∧ LsO w3 w0.heap.size hv' (vs ++ [ov]) ∧ w3.ownsRow w0.heap.size 9 1 sv D.length (D.map fun b => .string (strOfNums (nums b))) ∧ Chg (fun _ => False) w0 w3) ∧ ByO w3 w.heap.size ov b := by
  have hp := h.new hc
  have hC : Chg (fun g => hv.ownBlock = some g) w2 w3 := (Chg.refl _ w2).grown hg (fun g e => .inl e)
  have hb3 : ByO w3 w.heap.size ov b := byO_cross hb hp.own (by decide) hC
  refine ⟨⟨fun i v e => ?_, fun i j v u g e1 e2 g1 g2 => ?_, ?_, own_cross hp.str hp.own (by decide) hC, hp.chg.trans hC (fun g e => .inr (hp.own.lt g e).1)⟩, hb3⟩
  · rcases snoc_cases e with ⟨hi, e⟩ | ⟨hi, rfl⟩
    · have := hp.pcs.cross hp.own (by decide) hC i v e
      rw [h.len] at hi
      simp only [List.getD_eq_getElem?_getD, List.getElem?_append_left hi] at this ⊢
      exact this
    · rw [h.len] at hi
      subst hi
      simp only [List.getD_eq_getElem?_getD]
      simp
      exact owns_base hb3 h.chg.size
  · rcases snoc_cases e1 with ⟨hi, f1⟩ | ⟨hi, f1⟩ <;> rcases snoc_cases e2 with ⟨hj, f2⟩ | ⟨hj, f2⟩
    · exact h.inj i j v u g f1 f2 g1 g2
    · rw [f2] at g2
      have := h.pcs.lt f1 g1
      have := (hb.lt g g2).1
      omega
    · rw [f1] at g1
      have := h.pcs.lt f2 g2
      have := (hb.lt g g1).1
      omega
    · omega
  · unfold LsO
    rw [List.length_append, h.len]
    exact ho
theorem Ph.two {w0 w3 w4 : World} {hv sv sv' : Value} {vs : List Value} {D : List (List Nat)} {b : List Nat} (hl : vs.length = D.length + 1)
    (h : Pcs w0.heap.size w3 vs (fun i => (D ++ [b]).getD i []) ∧ Inj vs ∧ LsO w3 w0.heap.size hv vs ∧ w3.ownsRow w0.heap.size 9 1 sv D.length (D.map fun b => .string (strOfNums (nums b))) ∧ Chg (fun _ => False) w0 w3)
    (ho : w4.ownsRow w0.heap.size 9 1 sv' (D.length + 1) ((D.map fun b => .string (strOfNums (nums b))) ++ [.string (strOfNums (nums b))])) (hg : w3.grownBy w4 sv.ownBlock) : Ph w0 w4 hv sv' vs (D ++ [b]) := by
  obtain ⟨h1, h2, h3, h4, h5⟩ := h
  have hC : Chg (fun g => sv.ownBlock = some g) w3 w4 := (Chg.refl _ w3).grown hg (fun g e => .inl e)
  refine ⟨by simp [hl], h1.cross h4 (by decide) hC, h2, own_cross h3 h4 (by decide) hC, ?_, h5.trans hC (fun g e => .inr (h4.lt g e).1)⟩
  rw [List.map_append, List.length_append]
  exact ho
theorem ph_free {w0 w w' : World} {hv sv : Value} {vs : List Value} {D : List (List Nat)} {b : List Nat}
    (h : Pcs w0.heap.size w vs (fun i => (D ++ [b]).getD i []) ∧ Inj vs ∧ LsO w w0.heap.size hv vs ∧ w.ownsRow w0.heap.size 9 1 sv D.length (D.map fun b => .string (strOfNums (nums b))) ∧ Chg (fun _ => False) w0 w) (hc : Chg (fun _ => False) w w') :
    Pcs w0.heap.size w' vs (fun i => (D ++ [b]).getD i []) ∧ Inj vs ∧ LsO w' w0.heap.size hv vs ∧ w'.ownsRow w0.heap.size 9 1 sv D.length (D.map fun b => .string (strOfNums (nums b))) ∧ Chg (fun _ => False) w0 w' :=
  ⟨h.1.new hc, h.2.1, h.2.2.1.new hc, ownsRow_keep h.2.2.2.1 hc (fun _ _ f => f), chg_then h.2.2.2.2 hc⟩
/-- A cell of the list of lists. -/
theorem lso_at {w : World} {B : Nat} {hv v : Value} {vs : List Value} (h : LsO w B hv vs) {k : Nat} (e : vs[k]? = some v) : ∃ g c, hv = .slice (some ⟨g, 0, none⟩) vs.length c ∧ vs.length ≤ c ∧ w.cell? ⟨g, k, none⟩ = some v := by
  have hk : k < vs.length := (List.getElem?_eq_some_iff.1 e).1
  obtain ⟨g, c, rfl, hc, _⟩ := own_some h (by omega)
  exact ⟨g, c, rfl, hc, by rw [h.cellAt k (by omega)]; exact e⟩
/-- One byte is written. -/
theorem byO_set {w : World} {B g n c : Nat} {bs : List Nat} (h : ByO w B (.slice (some ⟨g, 0, none⟩) n c) bs) {q : Nat} (hq : q < n) (x : Nat) : ByO (w.setCell ⟨g, q, none⟩ (.int .u8 (x : Int))) B (.slice (some ⟨g, 0, none⟩) n c) (bs.set q x) := by
  obtain ⟨_, hl, _⟩ := byO_row h
  unfold ByO at h ⊢
  rw [List.length_set]
  rw [hl] at h ⊢
  have := own_set h q (.int .u8 (x : Int)) hq
  rw [ins_set] at this
  rw [show nums (bs.set q x) = (nums bs).set q (x : Int) by simp [nums, List.map_set]]
  exact this
/-- The mark of the list number i, and that of its tail. -/
def mkB (i : Nat) : Nat := i % 256
def tmB (i : Nat) : Nat := (i + 100) % 256
/-- Behind k lists that are written full. -/
def Mk1 (w0 : World) (vs : List Value) (hv : Value) (N : Nat → Nat) (k : Nat) (w : World) : Prop :=
  ∃ F, Pcs w0.heap.size w vs F ∧ (∀ j, j < vs.length → (F j).length = N j) ∧ (∀ j, j < k → j < vs.length → F j = List.replicate (N j) (mkB j)) ∧ LsO w w0.heap.size hv vs ∧ Chg (fun _ => False) w0 w
/-- Behind q bytes of the list number k. -/
def Mk2 (w0 : World) (vs : List Value) (hv : Value) (N : Nat → Nat) (k q : Nat) (w : World) : Prop :=
  ∃ F, Pcs w0.heap.size w vs F ∧ (∀ j, j < vs.length → (F j).length = N j) ∧ (∀ j, j < k → j < vs.length → F j = List.replicate (N j) (mkB j)) ∧ (∀ t, t < q → (F k)[t]? = some (mkB k)) ∧ LsO w w0.heap.size hv vs ∧ Chg (fun _ => False) w0 w
theorem Mk1.start {w0 w : World} {vs : List Value} {hv : Value} {N : Nat → Nat} {k : Nat} (h : Mk1 w0 vs hv N k w) : Mk2 w0 vs hv N k 0 w := by
  obtain ⟨F, a, b, c, d, e⟩ := h
  exact ⟨F, a, b, c, fun t ht => by omega, d, e⟩
theorem Mk2.step {w0 w : World} {vs : List Value} {hv : Value} {N : Nat → Nat} {k q g n c : Nat} (h : Mk2 w0 vs hv N k q w) (hj : Inj vs) (e : vs[k]? = some (.slice (some ⟨g, 0, none⟩) n c)) (hq : q < n) :
    Mk2 w0 vs hv N k (q + 1) (w.setCell ⟨g, q, none⟩ (.int .u8 ((mkB k : Nat) : Int))) := by
  obtain ⟨F, a, b, cc, d, f, z⟩ := h
  have hbk := a k _ e
  have hlen : (F k).length = n := (byO_row hbk).2.1
  have hgl := (hbk.lt g rfl).1
  have hC : Chg (fun x => x = g) w (w.setCell ⟨g, q, none⟩ (.int .u8 ((mkB k : Nat) : Int))) := Chg.setCell (S := fun x => x = g) (Chg.refl _ w) (p := ⟨g, q, none⟩) (.inl rfl) _
  refine ⟨fun j => if j = k then (F k).set q (mkB k) else F j, fun i v ei => ?_, fun j hj => ?_, fun j hjk hjl => ?_, fun t ht => ?_, ?_, z.trans hC (fun x ex => .inr (by omega))⟩
  · by_cases hik : i = k
    · subst hik
      rw [e] at ei
      injection ei with ei
      subst ei
      dsimp only
      rw [if_pos rfl]
      exact byO_set hbk hq _
    · dsimp only
      rw [if_neg hik]
      exact ownsRow_keep (a i v ei) hC (fun x hx ex => by subst ex; exact hik (hj i k _ _ x ei e hx rfl))
  · by_cases hik : j = k
    · subst hik; dsimp only; rw [if_pos rfl, List.length_set]; exact b j hj
    · dsimp only; rw [if_neg hik]; exact b j hj
  · dsimp only; rw [if_neg (by omega)]; exact cc j hjk hjl
  · dsimp only
    rw [if_pos rfl]
    by_cases et : q = t
    · subst et; rw [List.getElem?_set_self (by omega)]
    · rw [List.getElem?_set_ne et]; exact d t (by omega)
  · refine ownsRow_keep f hC (fun x hx ex => ?_)
    subst ex
    obtain ⟨c1, h1⟩ := ownsRow_blk f hx
    obtain ⟨c2, h2⟩ := blk_own hbk (g := x) rfl
    exact ty_ne h1 h2 (by decide)
theorem Mk2.done {w0 w : World} {vs : List Value} {hv : Value} {N : Nat → Nat} {k : Nat} (h : Mk2 w0 vs hv N k (N k) w) : Mk1 w0 vs hv N (k + 1) w := by
  obtain ⟨F, a, b, c, d, e, f⟩ := h
  refine ⟨F, a, b, fun j hj hjl => ?_, e, f⟩
  by_cases ejk : j = k
  · subst ejk
    have hl := b j hjl
    apply List.ext_getElem?
    intro t
    by_cases ht : t < N j
    · rw [d t ht]; simp [ht]
    · rw [List.getElem?_eq_none (by omega), List.getElem?_eq_none (by simp; omega)]
  · exact c j (by omega) hjl
/-- What the walk reads and writes at one byte. -/
theorem Mk2.at {w0 w : World} {vs : List Value} {hv : Value} {N : Nat → Nat} {k q g n c : Nat} (h : Mk2 w0 vs hv N k q w) (e : vs[k]? = some (.slice (some ⟨g, 0, none⟩) n c)) (hq : q < n) :
    (∃ ga ca, hv = .slice (some ⟨ga, 0, none⟩) vs.length ca ∧ w.cell? ⟨ga, k, none⟩ = some (.slice (some ⟨g, 0, none⟩) n c)) ∧ (∃ u, w.cell? ⟨g, q, none⟩ = some (.int .u8 u)) ∧ w.frozen? ⟨g, q, none⟩ = false := by
  obtain ⟨F, a, b, cc, d, f, z⟩ := h
  obtain ⟨ga, ca, e1, _, e2⟩ := lso_at f e
  have hbk := a k _ e
  obtain ⟨_, hl, _⟩ := byO_row hbk
  have hbk2 := hbk
  unfold ByO at hbk2
  rw [hl] at hbk2
  obtain ⟨g', c', e3, _, _, _, _, hfr, hce⟩ := own_some hbk2 (by omega)
  simp only [Value.slice.injEq, Option.some.injEq, Addr.mk.injEq] at e3
  obtain ⟨⟨rfl, _⟩, _, rfl⟩ := e3
  refine ⟨⟨ga, ca, e1, e2⟩, ⟨(((F k)[q]'(by omega) : Nat) : Int), ?_⟩, hfr q⟩
  rw [hbk2.cellAt q (by omega), ins_at _ _ _ (by rw [nums_len]; omega)]
  simp [nums]
theorem Mk1.all {w0 w : World} {vs : List Value} {hv : Value} {N : Nat → Nat} (h : Mk1 w0 vs hv N vs.length w) : Pcs w0.heap.size w vs (fun j => List.replicate (N j) (mkB j)) ∧ LsO w w0.heap.size hv vs ∧ Chg (fun _ => False) w0 w := by
  obtain ⟨F, a, b, c, d, e⟩ := h
  refine ⟨fun i v ei => ?_, d, e⟩
  have hk : i < vs.length := (List.getElem?_eq_some_iff.1 ei).1
  dsimp only
  rw [← c i hk hk]
  exact a i v ei
/-- 'append' leaves what was appended to as it was, where it lay. -/
theorem run_append_keep {P : Program} (w : World) (B : Nat) (t ty e : TypeId) (i : TypeInfo) (z : Value) (bytes : Nat) (ht : P.underlying t = some (.slice e)) (hi : P.info? e = some i) (hz : i.zero = some z)
    (hsize : i.size = 1) (hby : i.bytes = bytes) (hzs : z.cells.size = 1)
    (v : Value) (n : Nat) (xs : List Value) (hown : w.ownsRow B e 1 v n xs) (ad : Option Addr) (m c : Nat) (news : List Value) (hsrc : From w ad m c 1 news) (h1 : ∀ u ∈ news, u.oneCell' = true)
    (h63 : n + m ≤ maxLen) (hbytes : (n + m) * bytes ≤ 140737488355328) (hB : B ≤ w.heap.size) :
    ∃ v' w', (Builtin.append_ #[t, t] ty #[v, .slice ad m c]).run P w = .ok v' w' ∧ w'.ownsRow B e 1 v' (n + m) (xs ++ news) ∧ w.grownBy w' v.ownBlock ∧ Moved w v v' ∧ w'.ownsRow B e 1 v n xs := by
  obtain ⟨v', w', hr, h2, h3, h4⟩ := run_append_moved (P := P) w B t ty e i z 1 bytes ht hi hz hsize hby hzs (by decide) v n xs hown ad m c news hsrc h1 h63 hbytes hB
  refine ⟨v', w', hr, h2, h3, h4, ?_⟩
  rcases hown.2 with ⟨rfl, rfl⟩ | ⟨g, cap, cur, rfl, hbg, hg, hnc, hcm, hcs, htake⟩
  · exact ⟨hown.1, .inl ⟨rfl, rfl⟩⟩
  · obtain ⟨hl, hs⟩ := hsrc
    rcases hs with ⟨rfl, rfl, rfl⟩ | ⟨x, rfl, hnews⟩
    · have hn : news = [] := List.eq_nil_of_length_eq_zero (by simpa using hl)
      subst hn
      have hr2 := run_append_owned_none (P := P) w B t ty e i 1 ht hi _ n xs hown
      rw [hr] at hr2
      simp only [Result.ok.injEq] at hr2
      rw [hr2.2]
      exact hown
    · by_cases hroom : n + m ≤ cap
      · have hfit : n * i.size + news.length ≤ cur.size := by rw [hl, hcs, hsize]; omega
        have hr2 := run_append_room (P := P) w t ty e i ht hi g n cap cur hg x m c news (by rw [hsize]; exact hl) hnews h1 hroom hfit
        rw [hr] at hr2
        simp only [Result.ok.injEq] at hr2
        obtain ⟨rfl, _⟩ := hr2
        rcases h2.2 with ⟨e0, _⟩ | ⟨g', cap', cur', e0, hb', hg', hnc', hcm', hcs', ht'⟩
        · cases e0
        · simp only [Value.slice.injEq, Option.some.injEq, Addr.mk.injEq] at e0
          obtain ⟨⟨rfl, _⟩, _, rfl⟩ := e0
          refine ⟨hown.1, .inr ⟨g, cap, cur', rfl, hb', hg', hnc, hcm, hcs', ?_⟩⟩
          have hxl : xs.length = n * 1 := hown.1
          have h9 := congrArg (List.take (n * 1)) ht'
          rw [List.take_take, Nat.min_eq_left (by omega), List.take_left' hxl] at h9
          exact h9
      · have holds : ∀ j u, xs[j]? = some u → w.cell? ((⟨g, 0, none⟩ : Addr).add j) = some u := hown.cells (g := g) rfl
        have hr2 := run_append_grow (P := P) w t ty e i z ht hi hz ⟨g, 0, none⟩ n cap xs (by rw [hsize]; exact hown.1) holds x m c news (by rw [hsize]; exact hl) hnews (by omega) (by simp only [maxLen] at h63; omega) (growslice_fits (by omega) (by rw [hby]; exact hbytes))
        rw [hr] at hr2
        simp only [Result.ok.injEq] at hr2
        rw [hr2.2]
        exact ownsRow_keep hown (((Chg.refl (fun _ => False) w).drew).alloc _) (fun _ _ f => f)
theorem step_append_keep {P : Program} {ops : Array Oper} {o : Oper} {a : Act} {w : World} {K : Act → World → Prop} {Q : Exit → Act → World → Prop} {E : Prop} (hgd : o.guard = none) (s x : Operand) (t : TypeId)
    (ho : o.op = .call { callee := .builtin .append, args := #[s, x], argTypes := #[t, t] })
    (B : Nat) (e : TypeId) (i : TypeInfo) (z : Value) (bytes : Nat) (ht : P.underlying t = some (.slice e)) (hi : P.info? e = some i) (hz : i.zero = some z)
    (hsize : i.size = 1) (hby : i.bytes = bytes) (hzs : z.cells.size = 1)
    (v : Value) (n : Nat) (xs : List Value) (hs : a.eval s = v) (ad : Option Addr) (m c : Nat) (hx : a.eval x = .slice ad m c) (news : List Value)
    (hown : w.ownsRow B e 1 v n xs) (hsrc : From w ad m c 1 news) (h1 : ∀ u ∈ news, u.oneCell' = true)
    (h63 : n + m ≤ maxLen) (hbytes : (n + m) * bytes ≤ 140737488355328) (hB : B ≤ w.heap.size)
    (h : ∀ v' w', w'.ownsRow B e 1 v' (n + m) (xs ++ news) → w.grownBy w' v.ownBlock → Moved w v v' → w'.ownsRow B e 1 v n xs → K (a.put o.dst v') w') :
    if Region.wanted o (yielded ops a.tmps) = true then Oper.wp P o a w K Q else E := by
  have hw : Region.wanted o (yielded ops a.tmps) = true := by simp [Region.wanted, hgd]
  rw [if_pos hw]
  obtain ⟨v', w', hr, h2, h3, h4, h5⟩ := run_append_keep (P := P) w B t o.type e i z bytes ht hi hz hsize hby hzs v n xs hown ad m c news hsrc h1 h63 hbytes hB
  unfold Oper.wp
  simp [execOp, ho, resolve, invoke, builtin, hs, hx, hr, Result.andThen]
  exact h v' w' h2 h3 h4 h5
/-- The longer lists, behind k of them. -/
structure Lg (w0 w : World) (hv : Value) (vs : List Value) (N : Nat → Nat) (lv : Value) (ls : List Value) (k : Nat) : Prop where
  pcs : Pcs w0.heap.size w vs (fun j => List.replicate (N j) (mkB j))
  inj : Inj vs
  own : LsO w w0.heap.size hv vs
  llen : ls.length = k
  lown : LsO w w0.heap.size lv ls
  lpc : Pcs w0.heap.size w ls (fun j => List.replicate (N j) (mkB j) ++ List.replicate 70 (tmB j))
  sep : ∀ (i j : Nat) (l v : Value) (g : Nat), ls[i]? = some l → vs[j]? = some v → l.ownBlock = some g → v.ownBlock = some g → i = j
  lsep : ∀ g, hv.ownBlock = some g → lv.ownBlock ≠ some g
  chg : Chg (fun _ => False) w0 w
/-- One that is made, not yet in the list. -/
def Nw (w0 w : World) (vs : List Value) (N : Nat → Nat) (k : Nat) (l : Value) : Prop := ByO w w0.heap.size l (List.replicate (N k) (mkB k) ++ List.replicate 70 (tmB k)) ∧ ∀ (j : Nat) (v : Value) (g : Nat), vs[j]? = some v → l.ownBlock = some g → v.ownBlock = some g → j = k
theorem Lg.new {w0 w w' : World} {hv lv : Value} {vs ls : List Value} {N : Nat → Nat} {k : Nat} (h : Lg w0 w hv vs N lv ls k) (hc : Chg (fun _ => False) w w') : Lg w0 w' hv vs N lv ls k :=
  ⟨h.pcs.new hc, h.inj, h.own.new hc, h.llen, h.lown.new hc, h.lpc.new hc, h.sep, h.lsep, chg_then h.chg hc⟩
theorem Nw.new {w0 w w' : World} {vs : List Value} {N : Nat → Nat} {k : Nat} {l : Value} (h : Nw w0 w vs N k l) (hc : Chg (fun _ => False) w w') : Nw w0 w' vs N k l := ⟨h.1.new hc, h.2⟩
theorem Lg.app {w0 w w' : World} {hv lv v l : Value} {vs ls : List Value} {N : Nat → Nat} {k : Nat} (h : Lg w0 w hv vs N lv ls k) (e : vs[k]? = some v) (hl : ByO w' w0.heap.size l (List.replicate (N k) (mkB k) ++ List.replicate 70 (tmB k))) (hg : w.grownBy w' v.ownBlock) (hm : Moved w v l) (hk : ByO w' w0.heap.size v (List.replicate (N k) (mkB k))) :
    Lg w0 w' hv vs N lv ls k ∧ Nw w0 w' vs N k l := by
  have hC : Chg (fun g => v.ownBlock = some g) w w' := (Chg.refl _ w).grown hg (fun g e => .inl e)
  have hv0 := h.pcs k v e
  refine ⟨⟨fun i u ei => ?_, h.inj, ?_, h.llen, ?_, fun i u ei => ?_, h.sep, h.lsep, h.chg.trans hC (fun g eg => .inr (hv0.lt g eg).1)⟩, hl, fun j u g ej gl gu => ?_⟩
  · by_cases hik : i = k
    · subst hik
      rw [e] at ei
      injection ei with ei
      subst ei
      exact hk
    · exact ownsRow_keep (h.pcs i u ei) hC (fun g gu gv => hik (h.inj i k u v g ei e gu gv))
  · exact ownsRow_keep h.own hC (fun g e1 e2 => by
      obtain ⟨c1, h1⟩ := ownsRow_blk h.own e1
      obtain ⟨c2, h2⟩ := blk_own hv0 e2
      exact ty_ne h1 h2 (by decide))
  · exact ownsRow_keep h.lown hC (fun g e1 e2 => by
      obtain ⟨c1, h1⟩ := ownsRow_blk h.lown e1
      obtain ⟨c2, h2⟩ := blk_own hv0 e2
      exact ty_ne h1 h2 (by decide))
  · refine ownsRow_keep (h.lpc i u ei) hC (fun g gu gv => ?_)
    have := h.sep i k u v g ei e gu gv
    have h9 := (List.getElem?_eq_some_iff.1 ei).1
    rw [h.llen] at h9
    omega
  · rcases hm g gl with gv | gn
    · exact h.inj j k u v g ej e gu gv
    · have := h.pcs.lt ej gu
      omega
theorem Lg.push {w0 w w' : World} {hv lv lv' l : Value} {vs ls : List Value} {N : Nat → Nat} {k : Nat} (h : Lg w0 w hv vs N lv ls k) (hn : Nw w0 w vs N k l) (ho : w'.ownsRow w0.heap.size 22 1 lv' (k + 1) (ls ++ [l])) (hg : w.grownBy w' lv.ownBlock) (hm : Moved w lv lv') : Lg w0 w' hv vs N lv' (ls ++ [l]) (k + 1) := by
  have hC : Chg (fun g => lv.ownBlock = some g) w w' := (Chg.refl _ w).grown hg (fun g e => .inl e)
  refine ⟨h.pcs.cross h.lown (by decide) hC, h.inj, ?_, by simp [h.llen], ?_, fun i u ei => ?_, fun i j u v g ei ej gu gv => ?_, fun g e1 e2 => ?_, h.chg.trans hC (fun g eg => .inr (h.lown.lt g eg).1)⟩
  · exact ownsRow_keep h.own hC (fun g e1 e2 => h.lsep g e1 e2)
  · unfold LsO; rw [List.length_append, h.llen]; exact ho
  · rcases snoc_cases ei with ⟨hi, ei⟩ | ⟨hi, rfl⟩
    · exact h.lpc.cross h.lown (by decide) hC i u ei
    · rw [h.llen] at hi
      subst hi
      exact byO_cross hn.1 h.lown (by decide) hC
  · rcases snoc_cases ei with ⟨hi, ei⟩ | ⟨hi, rfl⟩
    · exact h.sep i j u v g ei ej gu gv
    · rw [h.llen] at hi
      rw [hi]
      exact (hn.2 j v g ej gu gv).symm
  · rcases hm g e2 with e3 | e3
    · exact h.lsep g e1 e3
    · have := (h.own.lt g e1).2
      omega
/-- Where the longer lists begin. -/
theorem lg_nil {w0 w : World} {hv : Value} {vs : List Value} {N : Nat → Nat} (hp : Pcs w0.heap.size w vs (fun j => List.replicate (N j) (mkB j))) (hj : Inj vs) (ho : LsO w w0.heap.size hv vs) (hc : Chg (fun _ => False) w0 w) : Lg w0 w hv vs N (.slice none 0 0) [] 0 :=
  ⟨hp, hj, ho, rfl, World.ownsRow_nil _ _ _ _, fun i v e => by simp at e, fun i j l v g e => by simp at e, fun g e f => by simp [Value.ownBlock] at f, hc⟩
end Go.Proofs.YtikokgngkagieaaDoor
