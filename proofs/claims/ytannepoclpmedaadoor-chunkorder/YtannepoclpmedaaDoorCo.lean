/- Two rows in turns: the walk of ChunkOrder; of no statement by itself. -/
import Derived.Test.YtannepoclpmedaaDoorCn
namespace Go.Proofs.YtannepoclpmedaaDoor
open Go.RowKit
open St12
set_option linter.unusedVariables false
set_option linter.unusedSimpArgs false
variable {Tab : World → Prop} {Od : World → Nat → Nat → (Nat → Prop) → List Int → Prop}
theorem infoInt : (Tryd.prog.info? 3).map (fun i => (i.zero, i.size, i.bytes)) = some (some (.int .i64 0), 1, 8) := by kernel_rfl
/-- Two orders (a, b) in the list ob, two rows that came in the box cb, all made since w0. -/
structure Ords (Tab : World → Prop) (Od : World → Nat → Nat → (Nat → Prop) → List Int → Prop) (w0 w : World) (a b ob cb : Nat) (u v : Value) (l m : List Int) : Prop where
  od : ∃ F G, Od w w0.heap.size a F l ∧ Od w w0.heap.size b G m ∧ ∀ z, F z → ¬ G z
  obk : w.heap[ob]? = some (.cells #[.pointer (some ⟨a, 0, none⟩), .pointer (some ⟨b, 0, none⟩)] 46 (0, 0))
  cbk : w.heap[cb]? = some (.cells #[u, v] 49 (0, 0))
  own1 : w.ownsRow w0.heap.size 3 1 u l.length (ins .i64 l)
  own2 : w.ownsRow w0.heap.size 3 1 v m.length (ins .i64 m)
  ne : ∀ g, u.ownBlock = some g → v.ownBlock ≠ some g
  hob : w0.heap.size ≤ ob
  hcb : w0.heap.size ≤ cb
  c1 : Ck17.Came l
  c2 : Ck17.Came m
  tb : Tab w
  ch : Chg (fun _ => False) w0 w
theorem Ords.new (S : OrderSpec Tab Od) {w0 w w' : World} {a b ob cb : Nat} {u v : Value} {l m : List Int} (h : Ords Tab Od w0 w a b ob cb u v l m) (h0 : Tab w0) (hc : Chg (fun _ => False) w w') : Ords Tab Od w0 w' a b ob cb u v l m := by
  obtain ⟨F, G, h1, h2, h3⟩ := h.od
  exact ⟨⟨F, G, S.keep h1 hc (fun _ _ f => f), S.keep h2 hc (fun _ _ f => f), h3⟩, blk_keep h.obk hc (fun f => f), blk_keep h.cbk hc (fun f => f), ownsRow_keep h.own1 hc (fun _ _ f => f), ownsRow_keep h.own2 hc (fun _ _ f => f), h.ne, h.hob, h.hcb, h.c1, h.c2, S.tab h0 h.tb hc (fun _ f => f.elim), chg_then h.ch hc⟩
/-- The blocks of an order are none of the walk's own. -/
theorem od_off (S : OrderSpec Tab Od) {w : World} {F : Nat → Prop} {B a g : Nat} {l : List Int} {cs : Array Value} {t : TypeId} (h : Od w B a F l) (hg : w.heap[g]? = some (.cells cs t (0, 0))) (ht : t = 3 ∨ t = 49 ∨ t = 46) : ¬ F g := fun f => by
  obtain ⟨cs', t', hb, n1, n2, n3⟩ := S.ty h g f
  rcases ht with rfl | rfl | rfl
  · exact ty_ne hb hg n1
  · exact ty_ne hb hg n2
  · exact ty_ne hb hg n3
/-- What a call on the first order leaves. -/
structure Mid (Tab : World → Prop) (Od : World → Nat → Nat → (Nat → Prop) → List Int → Prop) (w0 w : World) (a b ob cb : Nat) (u v : Value) (l' l m m' : List Int) : Prop where
  od : ∃ F G, Od w w0.heap.size a F l' ∧ Od w w0.heap.size b G m' ∧ ∀ z, F z → ¬ G z
  obk : w.heap[ob]? = some (.cells #[.pointer (some ⟨a, 0, none⟩), .pointer (some ⟨b, 0, none⟩)] 46 (0, 0))
  cbk : w.heap[cb]? = some (.cells #[u, v] 49 (0, 0))
  own1 : w.ownsRow w0.heap.size 3 1 u l.length (ins .i64 l)
  own2 : w.ownsRow w0.heap.size 3 1 v m.length (ins .i64 m)
  ne : ∀ g, u.ownBlock = some g → v.ownBlock ≠ some g
  hob : w0.heap.size ≤ ob
  hcb : w0.heap.size ≤ cb
  c1 : Ck17.Came l'
  c2 : Ck17.Came m'
  tb : Tab w
  ch : Chg (fun _ => False) w0 w
theorem Mid.done {w0 w : World} {a b ob cb : Nat} {u v : Value} {l m : List Int} (h : Mid Tab Od w0 w a b ob cb u v l l m m) : Ords Tab Od w0 w a b ob cb u v l m := ⟨h.od, h.obk, h.cbk, h.own1, h.own2, h.ne, h.hob, h.hcb, h.c1, h.c2, h.tb, h.ch⟩
theorem Ords.next1 (S : OrderSpec Tab Od) {w0 w : World} {a b ob cb : Nat} {u v : Value} {l m : List Int} (h : Ords Tab Od w0 w a b ob cb u v l m) (h0 : Tab w0) (k : Int) (hk : I64 k) : Calls Tryd.prog 18 #[.pointer (some ⟨a, 0, none⟩), .int .i64 k] w fun e w' => e = .returned (.int .i64 (Ck17.nextA l k)) ∧ Mid Tab Od w0 w' a b ob cb u v (Ck17.rowA l k) l m m := by
  obtain ⟨F, G, h1, h2, h3⟩ := h.od
  refine (S.next _ a F l k w h.tb h1 h.ch.size hk).mono fun e w' ⟨he, F', k1, k2, k3⟩ => ⟨he, ⟨F', G, k1, S.keep h2 k2 (fun z g f => h3 z f g), fun z f g => ?_⟩, blk_keep h.obk k2 (od_off S h1 h.obk (.inr (.inr rfl))), blk_keep h.cbk k2 (od_off S h1 h.cbk (.inr (.inl rfl))), ownsRow_keep h.own1 k2 (fun g e => ?_), ownsRow_keep h.own2 k2 (fun g e => ?_), h.ne, h.hob, h.hcb, Ck17.came_row h.c1 k, h.c2, S.tab h0 h.tb k2 (fun z f => (S.lt h1 z f).1), h.ch.trans k2 (fun z f => .inr (S.lt h1 z f).1)⟩
  · rcases k3 z f with q | q
    · exact h3 z q g
    · have := (S.lt h2 z g).2; omega
  · obtain ⟨cur, hc⟩ := owns_blk h.own1 e
    exact od_off S h1 hc (.inl rfl)
  · obtain ⟨cur, hc⟩ := owns_blk h.own2 e
    exact od_off S h1 hc (.inl rfl)
theorem Ords.next2 (S : OrderSpec Tab Od) {w0 w : World} {a b ob cb : Nat} {u v : Value} {l m : List Int} (h : Ords Tab Od w0 w a b ob cb u v l m) (h0 : Tab w0) (k : Int) (hk : I64 k) : Calls Tryd.prog 18 #[.pointer (some ⟨b, 0, none⟩), .int .i64 k] w fun e w' => e = .returned (.int .i64 (Ck17.nextA m k)) ∧ Mid Tab Od w0 w' a b ob cb u v l l m (Ck17.rowA m k) := by
  obtain ⟨F, G, h1, h2, h3⟩ := h.od
  refine (S.next _ b G m k w h.tb h2 h.ch.size hk).mono fun e w' ⟨he, G', k1, k2, k3⟩ => ⟨he, ⟨F, G', S.keep h1 k2 (fun z f g => h3 z f g), k1, fun z f g => ?_⟩, blk_keep h.obk k2 (od_off S h2 h.obk (.inr (.inr rfl))), blk_keep h.cbk k2 (od_off S h2 h.cbk (.inr (.inl rfl))), ownsRow_keep h.own1 k2 (fun g e => ?_), ownsRow_keep h.own2 k2 (fun g e => ?_), h.ne, h.hob, h.hcb, h.c1, Ck17.came_row h.c2 k, S.tab h0 h.tb k2 (fun z f => (S.lt h2 z f).1), h.ch.trans k2 (fun z f => .inr (S.lt h2 z f).1)⟩
  · rcases k3 z g with q | q
    · exact h3 z f q
    · have := (S.lt h1 z f).2; omega
  · obtain ⟨cur, hc⟩ := owns_blk h.own1 e
    exact od_off S h2 hc (.inl rfl)
  · obtain ⟨cur, hc⟩ := owns_blk h.own2 e
    exact od_off S h2 hc (.inl rfl)
theorem Ords.ended1 (S : OrderSpec Tab Od) {w0 w : World} {a b ob cb : Nat} {u v : Value} {l m : List Int} (h : Ords Tab Od w0 w a b ob cb u v l m) (h0 : Tab w0) : Calls Tryd.prog 19 #[.pointer (some ⟨a, 0, none⟩)] w fun e w' => e = .returned (.bool (decide ((0 : Int) ∈ l))) ∧ Chg (fun _ => False) w w' := by
  obtain ⟨F, G, h1, h2, h3⟩ := h.od
  exact S.ended _ a F l w h.tb h1
theorem Ords.ended2 (S : OrderSpec Tab Od) {w0 w : World} {a b ob cb : Nat} {u v : Value} {l m : List Int} (h : Ords Tab Od w0 w a b ob cb u v l m) (h0 : Tab w0) : Calls Tryd.prog 19 #[.pointer (some ⟨b, 0, none⟩)] w fun e w' => e = .returned (.bool (decide ((0 : Int) ∈ m))) ∧ Chg (fun _ => False) w w' := by
  obtain ⟨F, G, h1, h2, h3⟩ := h.od
  exact S.ended _ b G m w h.tb h2
theorem from_int (w : World) (k : Int) (t : TypeId) : From (w.alloc (.cells #[.int .i64 k] t)) (some ⟨w.heap.size, 0, none⟩) 1 1 1 (ins .i64 [k]) := by
  refine ⟨rfl, .inr ⟨_, rfl, fun j u hu => ?_⟩⟩
  rw [addk, Nat.zero_add, World.cell?, heap_alloc_new]
  simpa [ins] using hu
theorem one_int (l : List Int) : ∀ u ∈ ins .i64 l, u.oneCell' = true := ins_one .i64 l
/-- A kind has come in the first row. -/
theorem Mid.app1 (S : OrderSpec Tab Od) {w0 w w2 : World} {a b ob cb : Nat} {u u' v : Value} {l m : List Int} {k : Int} (h : Mid Tab Od w0 w a b ob cb u v (l ++ [k]) l m m) (h0 : Tab w0) {o : Obj} (ho : w2.ownsRow w0.heap.size 3 1 u' (l.length + 1) (ins .i64 l ++ ins .i64 [k])) (hg : (w.alloc o).grownBy w2 u.ownBlock) (hm : Moved (w.alloc o) u u') : Ords Tab Od w0 (w2.setCell ⟨cb, 0, none⟩ u') a b ob cb u' v (l ++ [k]) m ∧ w2.heap[cb]? = some (.cells #[u, v] 49 (0, 0)) := by
  have cA := chg_one w o
  have c2 : Chg (fun z => u.ownBlock = some z) w w2 := (cA.mono (fun z f => f.elim)).grown hg (fun z e => .inl e)
  have own1 := h.own1
  have nb : ∀ {g : Nat} {cs : Array Value} {t : TypeId}, w.heap[g]? = some (.cells cs t (0, 0)) → t ≠ 3 → u.ownBlock ≠ some g := fun hg ht e => by
    obtain ⟨cur, hc⟩ := owns_blk own1 e
    exact ty_ne hg hc ht
  obtain ⟨F, G, h1, h2, h3⟩ := h.od
  have hcb2 := blk_keep h.cbk c2 (nb h.cbk (by decide))
  have hob2 := blk_keep h.obk c2 (nb h.obk (by decide))
  have c3 : Chg (fun z => z = cb) w2 (w2.setCell ⟨cb, 0, none⟩ u') := Chg.setCell (S := fun z => z = cb) (Chg.refl _ w2) (p := ⟨cb, 0, none⟩) (.inl rfl) _
  have f1 : ∀ z, F z → ¬ (u.ownBlock = some z) := fun z f e => by
    obtain ⟨cur, hc⟩ := owns_blk own1 e
    exact od_off S h1 hc (.inl rfl) f
  have g1 : ∀ z, G z → ¬ (u.ownBlock = some z) := fun z f e => by
    obtain ⟨cur, hc⟩ := owns_blk own1 e
    exact od_off S h2 hc (.inl rfl) f
  have k1 := S.keep h1 c2 f1
  have k2 := S.keep h2 c2 g1
  have n2 := ownsRow_keep h.own2 c2 (fun g e f => h.ne g f e)
  refine ⟨⟨⟨F, G, S.keep k1 c3 (fun z f e => od_off S k1 (e ▸ hcb2) (.inr (.inl rfl)) (e ▸ f)), S.keep k2 c3 (fun z f e => od_off S k2 (e ▸ hcb2) (.inr (.inl rfl)) (e ▸ f)), h3⟩, blk_keep hob2 c3 (fun e => by subst e; exact ty_ne hob2 hcb2 (by decide)), blk_set0 hcb2, ?_, ownsRow_keep n2 c3 (fun g e f => ?_), fun g e f => ?_, h.hob, h.hcb, h.c1, h.c2, S.tab h0 (S.tab h0 h.tb c2 (fun z e => (own1.lt z e).1)) c3 (fun z e => by subst e; exact h.hcb), ?_⟩, hcb2⟩
  · have h9 : w2.ownsRow w0.heap.size 3 1 u' (l ++ [k]).length (ins .i64 (l ++ [k])) := by
      rw [List.length_append, List.length_singleton, show ins .i64 (l ++ [k]) = ins .i64 l ++ ins .i64 [k] by simp [ins]]
      exact ho
    refine ownsRow_keep h9 c3 (fun g e f => ?_)
    subst f
    obtain ⟨cur, hc⟩ := owns_blk h9 e
    exact ty_ne hcb2 hc (by decide)
  · subst f
    obtain ⟨cur, hc⟩ := owns_blk n2 e
    exact ty_ne hcb2 hc (by decide)
  · rcases hm g e with q | q
    · exact h.ne g q f
    · have := (h.own2.lt g f).2
      have := cA.size
      omega
  · exact (h.ch.trans c2 (fun z e => .inr (own1.lt z e).1)).trans c3 (fun z e => .inr (by subst e; exact h.hcb))
theorem Mid.app2 (S : OrderSpec Tab Od) {w0 w w2 : World} {a b ob cb : Nat} {u v v' : Value} {l m : List Int} {k : Int} (h : Mid Tab Od w0 w a b ob cb u v l l m (m ++ [k])) (h0 : Tab w0) {o : Obj} (ho : w2.ownsRow w0.heap.size 3 1 v' (m.length + 1) (ins .i64 m ++ ins .i64 [k])) (hg : (w.alloc o).grownBy w2 v.ownBlock) (hm : Moved (w.alloc o) v v') : Ords Tab Od w0 (w2.setCell ⟨cb, 1, none⟩ v') a b ob cb u v' l (m ++ [k]) ∧ w2.heap[cb]? = some (.cells #[u, v] 49 (0, 0)) := by
  have cA := chg_one w o
  have c2 : Chg (fun z => v.ownBlock = some z) w w2 := (cA.mono (fun z f => f.elim)).grown hg (fun z e => .inl e)
  have own2 := h.own2
  have nb : ∀ {g : Nat} {cs : Array Value} {t : TypeId}, w.heap[g]? = some (.cells cs t (0, 0)) → t ≠ 3 → v.ownBlock ≠ some g := fun hg ht e => by
    obtain ⟨cur, hc⟩ := owns_blk own2 e
    exact ty_ne hg hc ht
  obtain ⟨F, G, h1, h2, h3⟩ := h.od
  have hcb2 := blk_keep h.cbk c2 (nb h.cbk (by decide))
  have hob2 := blk_keep h.obk c2 (nb h.obk (by decide))
  have c3 : Chg (fun z => z = cb) w2 (w2.setCell ⟨cb, 1, none⟩ v') := Chg.setCell (S := fun z => z = cb) (Chg.refl _ w2) (p := ⟨cb, 1, none⟩) (.inl rfl) _
  have f1 : ∀ z, F z → ¬ (v.ownBlock = some z) := fun z f e => by
    obtain ⟨cur, hc⟩ := owns_blk own2 e
    exact od_off S h1 hc (.inl rfl) f
  have g1 : ∀ z, G z → ¬ (v.ownBlock = some z) := fun z f e => by
    obtain ⟨cur, hc⟩ := owns_blk own2 e
    exact od_off S h2 hc (.inl rfl) f
  have k1 := S.keep h1 c2 f1
  have k2 := S.keep h2 c2 g1
  have n1 := ownsRow_keep h.own1 c2 (fun g e f => h.ne g e f)
  refine ⟨⟨⟨F, G, S.keep k1 c3 (fun z f e => od_off S k1 (e ▸ hcb2) (.inr (.inl rfl)) (e ▸ f)), S.keep k2 c3 (fun z f e => od_off S k2 (e ▸ hcb2) (.inr (.inl rfl)) (e ▸ f)), h3⟩, blk_keep hob2 c3 (fun e => by subst e; exact ty_ne hob2 hcb2 (by decide)), blk_set1 hcb2, ownsRow_keep n1 c3 (fun g e f => ?_), ?_, fun g e f => ?_, h.hob, h.hcb, h.c1, h.c2, S.tab h0 (S.tab h0 h.tb c2 (fun z e => (own2.lt z e).1)) c3 (fun z e => by subst e; exact h.hcb), ?_⟩, hcb2⟩
  · subst f
    obtain ⟨cur, hc⟩ := owns_blk n1 e
    exact ty_ne hcb2 hc (by decide)
  · have h9 : w2.ownsRow w0.heap.size 3 1 v' (m ++ [k]).length (ins .i64 (m ++ [k])) := by
      rw [List.length_append, List.length_singleton, show ins .i64 (m ++ [k]) = ins .i64 m ++ ins .i64 [k] by simp [ins]]
      exact ho
    refine ownsRow_keep h9 c3 (fun g e f => ?_)
    subst f
    obtain ⟨cur, hc⟩ := owns_blk h9 e
    exact ty_ne hcb2 hc (by decide)
  · rcases hm g f with q | q
    · exact h.ne g e q
    · have := (h.own1.lt g e).2
      have := cA.size
      omega
  · exact (h.ch.trans c2 (fun z e => .inr (own2.lt z e).1)).trans c3 (fun z e => .inr (by subst e; exact h.hcb))
end Go.Proofs.YtannepoclpmedaaDoor
