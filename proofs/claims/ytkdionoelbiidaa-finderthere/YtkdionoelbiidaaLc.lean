/- The finder's form: its data, its lists of places by their three bytes; of no statement by itself. -/
import Derived.Test.YtkdionoelbiidaaLa
import Derived.Test.YtkdionoelbiidaaLb
import Derived.Test.YtkdionoelbiidaaFe
namespace Go.Proofs.Ytkdionoelbiidaa
open Go.RowKit
open Go.Maps (Keyed)
set_option linter.unusedVariables false

/-- Where it lies: its own block, the map's, its data, the lists by their keys, what lies in each block that ever held one, a bound of the entries, the places. -/
structure Gh where
  at_ : Nat
  mp : Nat
  da : Option Addr
  dc : Nat
  F : Lit → Option Value
  R : Nat → Option (List Value)
  n : Nat
  T : Lit → List Nat
def gle (γ γ' : Gh) : Prop := γ'.at_ = γ.at_ ∧ γ'.mp = γ.mp ∧ γ'.da = γ.da ∧ γ'.dc = γ.dc ∧ Rle γ.R γ'.R
def gfoot (γ : Gh) (z : Nat) : Prop := z = γ.at_ ∨ lfoot γ.mp γ.R z ∨ γ.da = some ⟨z, 0, none⟩
theorem gle.refl (γ : Gh) : gle γ γ := ⟨rfl, rfl, rfl, rfl, Rle.refl _⟩
theorem gle.trans {a b c : Gh} (h : gle a b) (k : gle b c) : gle a c := ⟨k.1.trans h.1, k.2.1.trans h.2.1, k.2.2.1.trans h.2.2.1, k.2.2.2.1.trans h.2.2.2.1, h.2.2.2.2.trans k.2.2.2.2⟩
theorem Fwd.trans {a b c : Gh} {w w1 w2 : World} (h : Fwd gle gfoot a b w w1) (k : Fwd gle gfoot b c w1 w2) : Fwd gle gfoot a c w w2 :=
  ⟨h.le.trans k.le, h.chg.trans k.chg (fun z f => h.grow z f), fun z f => by
    rcases k.grow z f with e | e
    · exact h.grow z e
    · have := h.chg.size; exact .inr (by omega)⟩
theorem Fwd.new {a : Gh} {w w1 : World} (h : Chg (fun _ => False) w w1) : Fwd gle gfoot a a w w1 := ⟨gle.refl a, h.mono (fun _ f => f.elim), fun z f => .inl f⟩
theorem Fwd.fresh {a b : Gh} {w w1 w2 : World} (h : Fwd gle gfoot a b w1 w2) (hc : Chg (fun _ => False) w w1) : Fwd gle gfoot a b w w2 := (Fwd.new hc).trans h
/-- Three bytes as one number; as a key. -/
def keyN (d : List Nat) (q : Nat) : Nat := d.getD q 0 * 65536 + d.getD (q + 1) 0 * 256 + d.getD (q + 2) 0
def klT (d : List Nat) (q : Nat) : Lit := .int .u32 (keyN d q : Int)
theorem keyedU : Keyed Try.prog 69 := Maps.int_keyed Try.underlying69
theorem dig_getD {d : List Nat} (h : Rc.Dig d) (q : Nat) : d.getD q 0 < 256 := by
  rw [List.getD_eq_getElem?_getD]
  cases e : d[q]? with
  | none => simp
  | some b => exact h b (List.mem_of_getElem? e)
theorem key_of {d : List Nat} (h : Rc.Dig d) (q : Nat) : keyOf Try.prog 69 (.int .u32 (keyN d q : Int)) = some (klT d q) := by
  refine Maps.keyOf_int_mk Try.underlying69 ?_
  have h0 := dig_getD h q
  have h1 := dig_getD h (q + 1)
  have h2 := dig_getD h (q + 2)
  unfold keyN
  generalize d.getD q 0 = x0 at *
  generalize d.getD (q + 1) 0 = x1 at *
  generalize d.getD (q + 2) 0 = x2 at *
  simp [Lit.wf, IntKind.min, IntKind.max, IntKind.signed, IntKind.bits]
  omega
theorem key_iff {d : List Nat} (h : Rc.Dig d) {p q : Nat} (hp : p + 3 ≤ d.length) (hq : q < p) : klT d q = klT d p ↔ runN d p q 3 = 3 := by
  have h3 : runN d p q 3 = 3 ↔ ∀ j, j < 3 → okAt d p q j := by
    constructor
    · intro e j hj
      exact runN_ok d p q 3 j (by omega)
    · intro e
      exact runN_is (Nat.le_refl _) e (.inl rfl)
  have a0 := dig_getD h q
  have a1 := dig_getD h (q + 1)
  have a2 := dig_getD h (q + 2)
  have b0 := dig_getD h p
  have b1 := dig_getD h (p + 1)
  have b2 := dig_getD h (p + 2)
  rw [h3]
  have hk : klT d q = klT d p ↔ keyN d q = keyN d p := by
    unfold klT
    constructor
    · intro e
      simp only [Lit.int.injEq, true_and] at e
      omega
    · intro e; rw [e]
  rw [hk]
  unfold keyN
  constructor
  · intro e j hj
    refine ⟨by omega, ?_⟩
    rcases j with _ | _ | _ | j
    · simpa using (by omega : d.getD q 0 = d.getD p 0)
    · exact (by omega : d.getD (q + 1) 0 = d.getD (p + 1) 0)
    · exact (by omega : d.getD (q + 2) 0 = d.getD (p + 2) 0)
    · omega
  · intro e
    have e0 := (e 0 (by omega)).2
    have e1 := (e 1 (by omega)).2
    have e2 := (e 2 (by omega)).2
    simp only [Nat.add_zero] at e0
    rw [e0, e1, e2]
def CsT (γ : Gh) (L n p : Nat) : Array Value := #[.slice γ.da L γ.dc, .int .i64 (n : Int), .int .i64 (p : Int), .map (some γ.mp)]
def pvT (q : Nat) : Value := .int .i64 (q : Int)
open Classical in
/-- A finder that stands at p, while the places ahead of q are in its lists (those from lo on). -/
structure FinC (γ : Gh) (w : World) (B a : Nat) (d : List Nat) (n p lo q : Nat) : Prop where
  ata : γ.at_ = a
  base : B ≤ a
  blk : w.heap[a]? = some (.cells (CsT γ d.length n p) 60 (0, 0))
  own : w.ownsRow B 5 1 (.slice γ.da d.length γ.dc) d.length (ins .u8 (nums d))
  lists : Cuts w Try.prog 69 3 γ.mp γ.n B γ.F γ.R (fun l => (γ.T l).map pvT)
  a1 : ¬ lfoot γ.mp γ.R a
  a2 : ∀ g, γ.da = some ⟨g, 0, none⟩ → g ≠ a ∧ ¬ lfoot γ.mp γ.R g
  dig : Rc.Dig d
  cnt : γ.n ≤ q
  num : 1 ≤ n ∧ n ≤ 4294967295 ∧ p ≤ d.length ∧ d.length ≤ 140737488355328
  tok : Tok d (klT d) lo q γ.T
/-- The finder at p. -/
abbrev Fi (γ : Gh) (w : World) (B a : Nat) (d : List Nat) (n p : Nat) : Prop := FinC γ w B a d n p (p - n) p
section
variable {γ γ' : Gh} {w w' : World} {B B' a : Nat} {d : List Nat} {n p lo q : Nat}
theorem FinC.lt (h : FinC γ w B a d n p lo q) : ∀ z, gfoot γ z → B ≤ z ∧ z < w.heap.size := fun z hz => by
  rcases hz with e | e | e
  · rw [e, h.ata]; exact ⟨h.base, lt_of_blk h.blk⟩
  · exact h.lists.lt e
  · exact h.own.lt z (by rw [e]; rfl)
theorem FinC.mpLt (h : FinC γ w B a d n p lo q) : B ≤ γ.mp ∧ γ.mp < w.heap.size := h.lists.lt (.inl rfl)
theorem FinC.cel (h : FinC γ w B a d n p lo q) : ∀ z, gfoot γ z → z = γ.mp ∨ ∃ cs t fz, w.heap[z]? = some (.cells cs t fz) := fun z hz => by
  rcases hz with e | e | e
  · rw [e, h.ata]; exact .inr ⟨_, _, _, h.blk⟩
  · exact h.lists.cel e
  · obtain ⟨cur, hc⟩ := owns_blk h.own (g := z) (by rw [e]; rfl)
    exact .inr ⟨_, _, _, hc⟩
theorem FinC.daf (h : FinC γ w B a d n p lo q) : ∀ gb, (Value.slice γ.da d.length γ.dc).ownBlock = some gb → γ.da = some ⟨gb, 0, none⟩ := fun gb e => by
  rcases h.own.2 with ⟨e0, _⟩ | ⟨g0, cap, cur, e0, _⟩
  · rw [e0] at e; simp [Value.ownBlock] at e
  · simp only [Value.slice.injEq] at e0
    rw [e0.1] at e ⊢
    simp only [Value.ownBlock, Option.some.injEq] at e
    rw [e]
theorem FinC.keep {S : Nat → Prop} (h : FinC γ w B a d n p lo q) (hc : Chg S w w') (hS : ∀ z, gfoot γ z → ¬ S z) : FinC γ w' B a d n p lo q :=
  ⟨h.ata, h.base, blk_keep h.blk hc (hS a (.inl h.ata.symm)), ownsRow_keepN h.own hc (fun g e => hS g (.inr (.inr (h.daf g e)))), h.lists.keep hc (fun z f => hS z (.inr (.inl f))), h.a1, h.a2, h.dig, h.cnt, h.num, h.tok⟩
theorem FinC.down (h : FinC γ w B a d n p lo q) (hB : B' ≤ B) : FinC γ w B' a d n p lo q := ⟨h.ata, Nat.le_trans hB h.base, h.blk, owns_base h.own hB, h.lists.down hB, h.a1, h.a2, h.dig, h.cnt, h.num, h.tok⟩
theorem FinC.row (h : FinC γ w B a d n p lo q) : Row8 w γ.da d.length γ.dc (nums d) := by
  refine ⟨nums_len d, ?_⟩
  rcases h.own.2 with ⟨e0, e1⟩ | ⟨g0, cap, cur, e0, _⟩
  · simp only [Value.slice.injEq] at e0
    exact .inl ⟨e0.1, e0.2.1, e0.2.2⟩
  · simp only [Value.slice.injEq] at e0
    exact .inr ⟨⟨g0, 0, none⟩, e0.1, fun j u hu => h.own.cells (g := g0) (by rw [e0.1]; rfl) j u hu⟩
theorem FinC.own_form (h : FinC γ w B a d n p lo q) (hd : 0 < d.length) : ∃ g, γ.da = some ⟨g, 0, none⟩ ∧ d.length ≤ γ.dc ∧ ∀ i, w.cell? ⟨g, i, none⟩ = some (.int .u8 (d.getD i 0 : Int)) ∨ d.length ≤ i := by
  rcases h.own.2 with ⟨e0, e1⟩ | ⟨g0, cap, cur, e0, _, _, hc, _⟩
  · omega
  · simp only [Value.slice.injEq, true_and] at e0
    refine ⟨g0, e0.1, by omega, fun i => ?_⟩
    by_cases hi : i < d.length
    · left
      have := h.own.cells (g := g0) (by rw [e0.1]; rfl) i (.int .u8 (d.getD i 0 : Int)) (by
        simp only [ins, nums, List.getElem?_map]
        rw [List.getD_eq_getElem?_getD, List.getElem?_eq_getElem hi]
        rfl)
      rwa [add_at] at this
    · right; omega
/-- What was looked up earlier still reads as it did, whatever was skipped since. -/
theorem FinC.still {w0 : World} {p0 lo0 q0 : Nat} (h0 : FinC γ w0 B a d n p0 lo0 q0) (hl : gle γ γ') (h : FinC γ' w B a d n p lo q) (l : Lit) : ((γ.F l).getD (.slice none 0 0) = .slice none 0 0 ∧ γ.T l = []) ∨ ∃ g o c, (γ.F l).getD (.slice none 0 0) = .slice (some ⟨g, o, none⟩) (γ.T l).length c ∧ (γ.T l).length ≤ c ∧ ∀ i x : Nat, (γ.T l)[i]? = some x → w.cell? ⟨g, o + i, none⟩ = some (.int .i64 (x : Int)) := by
  rcases h0.lists.here l with ⟨e1, e2⟩ | ⟨v, g, o, all, e1, e2, e3⟩
  · exact .inl ⟨by rw [e1]; rfl, by simpa using e2⟩
  · obtain ⟨c, cur, c1, c2, c3, c4, c5, c6, c7, c8⟩ := e2
    simp only [List.length_map] at c1 c4 c6
    refine .inr ⟨g, o, c, by rw [e1, c1]; rfl, c4, fun i x hx => ?_⟩
    obtain ⟨ys, h5⟩ := hl.2.2.2.2 g _ e3
    obtain ⟨_, cur2, h6, h7⟩ := h.lists.old g _ h5
    have h8 : all[o + i]? = some (.int .i64 (x : Int)) := by
      rw [← List.getElem?_drop, c7, List.getElem?_map, hx]
      rfl
    have hi := (List.getElem?_eq_some_iff.1 h8).1
    have h9 : (all ++ ys)[o + i]? = some (.int .i64 (x : Int)) := by rw [List.getElem?_append_left hi]; exact h8
    rw [← h7, List.getElem?_take] at h9
    split at h9
    · simp only [World.cell?, h6]
      simpa using h9
    · cases h9
open Classical in
/-- One place more: behind the append (to w1) and the store into the map (to w2). -/
theorem FinC.next {w1 w2 : World} {v' : Value} {g o : Nat} {all : List Value} (h : FinC γ w B a d n p lo q) (hq : q + 3 ≤ d.length) (hlo : lo ≤ q) (hr : CutRow w1 B 3 v' ((lastN 32 (γ.T (klT d q) ++ [q])).map pvT) g o (all ++ [pvT q]))
    (hw : (∃ o', CutRow w B 3 ((γ.F (klT d q)).getD (.slice none 0 0)) ((γ.T (klT d q)).map pvT) g o' all) ∨ w.heap.size ≤ g) (c1 : Chg (fun z => z = g) w w1) (hm : MapF w2 Try.prog 69 γ.mp (γ.n + 1) (putF γ.F (klT d q) v')) (hc2 : Chg (fun z => z = γ.mp) w1 w2) :
    ∃ γ', FinC γ' w2 B a d n p lo (q + 1) ∧ Fwd gle gfoot γ γ' w w2 := by
  obtain ⟨hL, hR⟩ := h.lists.push (klT d q) v' _ g o all (pvT q) hr hw c1 hm hc2
  have hgl : lfoot γ.mp γ.R g ∨ w.heap.size ≤ g := by
    rcases hw with ⟨o', e⟩ | e
    · rcases h.lists.here (klT d q) with ⟨e1, _⟩ | ⟨v, g1, o1, all1, e1, e2, e3⟩
      · rw [e1] at e; obtain ⟨_, _, f, _⟩ := e; simp at f
      · rw [e1] at e
        have e4 := e2.own
        have e5 : v.ownBlock = some g := e.own
        rw [e5] at e4
        obtain rfl := Option.some.inj e4
        exact .inl (.inr ⟨_, e3⟩)
    · exact .inr e
  have hga : g ≠ a := by
    rintro rfl
    rcases hgl with e | e
    · exact h.a1 e
    · have := lt_of_blk h.blk; omega
  have hma : γ.mp ≠ a := fun e => h.a1 (.inl e.symm)
  have hlf : ∀ z, lfoot γ.mp (putR γ.R g (all ++ [pvT q])) z → lfoot γ.mp γ.R z ∨ z = g := fun z hz => by
    rcases hz with e | ⟨xs, e⟩
    · exact .inl (.inl e)
    · by_cases e2 : z = g
      · exact .inr e2
      · exact .inl (.inr ⟨xs, by simpa [putR, e2] using e⟩)
  have hd : ∀ g', γ.da = some ⟨g', 0, none⟩ → g' ≠ g := fun g' e1 e2 => by
    subst e2
    rcases hgl with e | e
    · exact (h.a2 g' e1).2 e
    · have := (h.own.lt g' (by rw [e1]; rfl)).2; omega
  have hT : putT (fun l => (γ.T l).map pvT) (klT d q) ((lastN 32 (γ.T (klT d q) ++ [q])).map pvT) = fun l => (putN γ.T (klT d q) (lastN 32 (γ.T (klT d q) ++ [q])) l).map pvT := by
    funext x
    unfold putT putN
    by_cases e : x = klT d q <;> simp [e]
  rw [hT] at hL
  have cA : Chg (gfoot γ) w w2 := by
    have x1 : Chg (gfoot γ) w w1 := c1.mono (fun z ez => by
      subst ez
      exact hgl.imp (fun f => .inr (.inl f)) id)
    exact x1.trans hc2 (fun z ez => .inl (by subst ez; exact .inr (.inl (.inl rfl))))
  refine ⟨{ γ with F := putF γ.F (klT d q) v', R := putR γ.R g (all ++ [pvT q]), n := γ.n + 1, T := putN γ.T (klT d q) (lastN 32 (γ.T (klT d q) ++ [q])) }, ⟨h.ata, h.base, ?_, ?_, hL, fun f => ?_, fun g' e => ⟨(h.a2 g' e).1, fun f => ?_⟩, h.dig, by have := h.cnt; show γ.n + 1 ≤ q + 1; omega, h.num, h.tok.put hq hlo⟩, ⟨rfl, rfl, rfl, rfl, hR⟩, cA, fun z f => ?_⟩
  · exact blk_keep (blk_keep h.blk c1 (fun e => hga e.symm)) hc2 (fun e => hma e.symm)
  · refine ownsRow_keepN (ownsRow_keepN h.own c1 (fun gb e => hd gb (h.daf gb e))) hc2 (fun gb e => ?_)
    rintro rfl
    exact (h.a2 _ (h.daf _ e)).2 (.inl rfl)
  · rcases hlf _ f with f | f
    · exact h.a1 f
    · exact hga f.symm
  · rcases hlf _ f with f | f
    · exact (h.a2 g' e).2 f
    · exact hd g' e f
  · rcases f with f | f | f
    · exact .inl (.inl f)
    · rcases hlf _ f with f | f
      · exact .inl (.inr (.inl f))
      · rw [f]
        exact hgl.imp (fun e => .inr (.inl e)) id
    · exact .inl (.inr (.inr f))
open Classical in
/-- One place more, from which fewer than three bytes are left. -/
theorem FinC.over (h : FinC γ w B a d n p lo q) (hq : ¬ q + 3 ≤ d.length) : FinC γ w B a d n p lo (q + 1) := ⟨h.ata, h.base, h.blk, h.own, h.lists, h.a1, h.a2, h.dig, Nat.le_succ_of_le h.cnt, h.num, h.tok.over hq⟩
open Classical in
/-- It goes on to notice places up to p' alone. -/
theorem FinC.begin {p' : Nat} (h : Fi γ w B a d n p) (hp : p ≤ p') : FinC γ w B a d n p (p' - n) (max p (p' - n)) := ⟨h.ata, h.base, h.blk, h.own, h.lists, h.a1, h.a2, h.dig, by have := h.cnt; omega, h.num, h.tok.go (by omega)⟩
open Classical in
/-- It stands at p'. -/
theorem FinC.settle {p' : Nat} (h : FinC γ w B a d n p (p' - n) p') (hp : p' ≤ d.length) (hb : w'.heap[a]? = some (.cells (CsT γ d.length n p') 60 (0, 0))) (hc : Chg (fun z => z = a) w w') : Fi γ w' B a d n p' ∧ Fwd gle gfoot γ γ w w' :=
  ⟨⟨h.ata, h.base, hb, ownsRow_keepN h.own hc (fun gb e => (h.a2 gb (h.daf gb e)).1), h.lists.keep hc (fun z f e => h.a1 (by rw [← e]; exact f)), h.a1, h.a2, h.dig, h.cnt, ⟨h.num.1, h.num.2.1, hp, h.num.2.2.2⟩, h.tok⟩, gle.refl γ, hc.mono (fun z e => .inl (.inl (by rw [e, h.ata]))), fun z f => .inl f⟩
end
end Go.Proofs.Ytkdionoelbiidaa
