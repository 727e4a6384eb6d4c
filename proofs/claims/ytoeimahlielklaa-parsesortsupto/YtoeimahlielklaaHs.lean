/- What is asked of the program's heaps ('HeapSpec'); a heap of the program beside the document's; of no statement by itself. -/
import Derived.Test.YtoeimahlielklaaHb
import Derived.Test.YtoeimahlielklaaLastQ
namespace Go.Proofs.Ytoeimahlielklaa
open Go.RowKit
open Hp16
set_option linter.unusedVariables false
set_option linter.unusedSimpArgs false

/-- Hp w B a F L: a heap at a, in the blocks F, all from B on; its pairs, in order, are L. -/
structure HeapSpec (Hp : World → Nat → Nat → (Nat → Prop) → List Pr → Prop) : Prop where
  zero : ∀ w : World, Hp (w.alloc (.cells #[.nilFunc, .slice none 0 0] 29)) w.heap.size w.heap.size (fun z => z = w.heap.size) []
  keep : ∀ {w w' : World} {S F : Nat → Prop} {B a : Nat} {L : List Pr}, Hp w B a F L → Chg S w w' → (∀ z, F z → ¬ S z) → Hp w' B a F L
  lt : ∀ {w : World} {F : Nat → Prop} {B a : Nat} {L : List Pr}, Hp w B a F L → ∀ z, F z → B ≤ z ∧ z < w.heap.size
  ty : ∀ {w : World} {F : Nat → Prop} {B a : Nat} {L : List Pr}, Hp w B a F L → ∀ z, F z → ∃ cs t, w.heap[z]? = some (.cells cs t (0, 0)) ∧ t ≠ 40 ∧ t ≠ 53 ∧ t ≠ 4
  down : ∀ {w : World} {F : Nat → Prop} {B B' a : Nat} {L : List Pr}, Hp w B a F L → B' ≤ B → Hp w B' a F L
  srt : ∀ {w : World} {F : Nat → Prop} {B a : Nat} {L : List Pr}, Hp w B a F L → Srt L
  push : ∀ (B a : Nat) (F : Nat → Prop) (L : List Pr) (x y : Int) (w : World), Hp w B a F L → B ≤ w.heap.size → L.length < 8796093022208 → Calls Try.prog 5 #[.pointer (some ⟨a, 0, none⟩), .int .i64 x, .int .i64 y] w fun e w' => e = .returned (.tuple #[]) ∧ ∃ F', Hp w' B a F' (Hp16.ins (x, y) L) ∧ Chg F w w' ∧ ∀ z, F' z → F z ∨ w.heap.size ≤ z
  popN : ∀ (B a : Nat) (F : Nat → Prop) (w : World), Hp w B a F [] → B ≤ w.heap.size → Calls Try.prog 7 #[.pointer (some ⟨a, 0, none⟩)] w fun e w' => e = .returned (.tuple #[.int .i64 0, .int .i64 0, .bool false]) ∧ ∃ F', Hp w' B a F' [] ∧ Chg F w w' ∧ ∀ z, F' z → F z ∨ w.heap.size ≤ z
  pop : ∀ (B a : Nat) (F : Nat → Prop) (x : Pr) (t : List Pr) (w : World), Hp w B a F (x :: t) → B ≤ w.heap.size → t.length < 8796093022208 → Calls Try.prog 7 #[.pointer (some ⟨a, 0, none⟩)] w fun e w' => e = .returned (.tuple #[.int .i64 x.1, .int .i64 x.2, .bool true]) ∧ ∃ F', Hp w' B a F' t ∧ Chg F w w' ∧ ∀ z, F' z → F z ∨ w.heap.size ≤ z
  len : ∀ (B a : Nat) (F : Nat → Prop) (L : List Pr) (w : World), Hp w B a F L → L.length ≤ 8796093022208 → Calls Try.prog 6 #[.pointer (some ⟨a, 0, none⟩)] w fun e w' => e = .returned (.int .i64 (L.length : Int)) ∧ Chg (fun _ => False) w w'
variable {Hp : World → Nat → Nat → (Nat → Prop) → List Pr → Prop}
theorem HeapSpec.new (S : HeapSpec Hp) {w w' : World} {F : Nat → Prop} {B a : Nat} {L : List Pr} (h : Hp w B a F L) (hc : Chg (fun _ => False) w w') : Hp w' B a F L := S.keep h hc (fun _ _ f => f)
/-- A heap of the program's (a) and one of the document's (r) with the same pairs; G: their blocks. -/
structure HP (Hp : World → Nat → Nat → (Nat → Prop) → List Pr → Prop) (w : World) (B a r : Nat) (L : List Pr) (G : Nat → Prop) : Prop where
  ex : ∃ F v l, Hp w B a F L ∧ Rh w B r v l ∧ l.Perm L ∧ ∀ z, G z ↔ F z ∨ Foot r v z
theorem HP.keep (S : HeapSpec Hp) {w w' : World} {T G : Nat → Prop} {B a r : Nat} {L : List Pr} (h : HP Hp w B a r L G) (hc : Chg T w w') (hS : ∀ z, G z → ¬ T z) : HP Hp w' B a r L G := by
  obtain ⟨F, v, l, h1, h2, h3, h4⟩ := h.ex
  exact ⟨F, v, l, S.keep h1 hc (fun z f => hS z ((h4 z).2 (.inl f))), h2.keep hc (fun z f => hS z ((h4 z).2 (.inr f))), h3, h4⟩
theorem HP.new (S : HeapSpec Hp) {w w' : World} {G : Nat → Prop} {B a r : Nat} {L : List Pr} (h : HP Hp w B a r L G) (hc : Chg (fun _ => False) w w') : HP Hp w' B a r L G := h.keep S hc (fun _ _ f => f)
theorem HP.lt (S : HeapSpec Hp) {w : World} {G : Nat → Prop} {B a r : Nat} {L : List Pr} (h : HP Hp w B a r L G) (z : Nat) (hz : G z) : B ≤ z ∧ z < w.heap.size := by
  obtain ⟨F, v, l, h1, h2, h3, h4⟩ := h.ex
  rcases (h4 z).1 hz with f | f
  · exact S.lt h1 z f
  · exact h2.lt f
theorem heaps_off (S : HeapSpec Hp) {w : World} {F : Nat → Prop} {B a r : Nat} {L : List Pr} {v : Value} {l : List Pr} (h1 : Hp w B a F L) (h2 : Rh w B r v l) : ∀ z, F z → ¬ Foot r v z := fun z f k => by
  obtain ⟨cs, t, hb, n1, n2, _⟩ := S.ty h1 z f
  rcases k with k | k
  · subst k
    exact ty_ne hb h2.blk n1
  · obtain ⟨cur, hc⟩ := owns_blk h2.own k
    exact ty_ne hb hc n2
/-- Behind a call on the program's and one on the document's. -/
theorem HP.mk2 (S : HeapSpec Hp) {w w1 w2 : World} {B a r : Nat} {L' : List Pr} {F F' : Nat → Prop} {v v' : Value} {l l' : List Pr} {G : Nat → Prop} (hG : ∀ z, G z ↔ F z ∨ Foot r v z) (h0 : Rh w B r v l) (k1 : Hp w1 B a F' L') (c1 : Chg F w w1) (f1 : ∀ z, F' z → F z ∨ w.heap.size ≤ z) (hoff : ∀ z, F z → ¬ Foot r v z)
    (k2 : Rh w2 B r v' l') (c2 : Chg (Foot r v) w1 w2) (f2 : Moved w1 v v') (hp : l'.Perm L') : ∃ G', HP Hp w2 B a r L' G' ∧ Chg G w w2 ∧ ∀ z, G' z → G z ∨ w.heap.size ≤ z := by
  refine ⟨fun z => F' z ∨ Foot r v' z, ⟨F', v', l', S.keep k1 c2 (fun z f k => ?_), k2, hp, fun z => Iff.rfl⟩, ?_, ?_⟩
  · have hlt := h0.lt k
    rcases f1 z f with e | e
    · exact hoff z e k
    · omega
  · refine (c1.mono (fun z f => .inl ((hG z).2 (.inl f)))).trans c2 (fun z f => .inl ((hG z).2 (.inr f)))
  · rintro z (f | f)
    · rcases f1 z f with e | e
      · exact .inl ((hG z).2 (.inl e))
      · exact .inr e
    · rcases f2.foot r z f with e | e
      · exact .inl ((hG z).2 (.inr e))
      · exact .inr (Nat.le_trans c1.size e)
/-- A move. -/
structure Mv where
  k : Int
  t : Bool
  x : Int
  y : Int
def Mv.val (m : Mv) : Value := .agg #[.int .i64 m.k, .bool m.t, .int .i64 m.x, .int .i64 m.y]
theorem cells4m {w : World} {a : Nat} {x y z u : Value} {t : TypeId} (h : w.heap[a]? = some (.cells #[x, y, z, u] t (0, 0))) : w.cell? ⟨a, 0, none⟩ = some x ∧ w.cell? ⟨a, 1, none⟩ = some y ∧ w.cell? ⟨a, 2, none⟩ = some z ∧ w.cell? ⟨a, 3, none⟩ = some u :=
  ⟨by simp [World.cell?, h], by simp [World.cell?, h], by simp [World.cell?, h], by simp [World.cell?, h]⟩
set_option maxHeartbeats 4000000 in
set_option maxRecDepth 100000 in
theorem heaped_any (S : HeapSpec Hp) (B a r : Nat) (L : List Pr) (G : Nat → Prop) (k : Int) (tw : Bool) (x y : Int) (w : World) (h : HP Hp w B a r L G) (hB : B ≤ w.heap.size) (hL : L.length < 8796093022208) : Calls Try.prog 8 #[.pointer (some ⟨a, 0, none⟩), .pointer (some ⟨r, 0, none⟩), .agg #[.int .i64 k, .bool tw, .int .i64 x, .int .i64 y]] w fun e w' => e = .returned (.bool true) ∧ ∃ L' G', HP Hp w' B a r L' G' ∧ Chg G w w' ∧ (∀ z, G' z → G z ∨ w.heap.size ≤ z) ∧ L'.length ≤ L.length + 1 ∧ (k = 1 → L'.length = L.length - 1) := by
  have cA := chg_one w (.cells #[.int .i64 k, .bool tw, .int .i64 x, .int .i64 y] 42)
  have hA := h.new S cA
  obtain ⟨m0, m1, m2, m3⟩ := cells4m (heap_alloc_last w (.cells #[.int .i64 k, .bool tw, .int .i64 x, .int .i64 y] 42))
  have HMB : Hid ((w.alloc (.cells #[.int .i64 k, .bool tw, .int .i64 x, .int .i64 y] 42)).heap[w.heap.size]? = some (.cells #[.int .i64 k, .bool tw, .int .i64 x, .int .i64 y] 42 (0, 0))) := heap_alloc_last _ _
  have HGL : Hid (∀ z, G z → z < w.heap.size) := fun z f => (h.lt S z f).2
  have HCA : Hid (Chg (fun _ => False) w (w.alloc (.cells #[.int .i64 k, .bool tw, .int .i64 x, .int .i64 y] 42))) := cA
  obtain ⟨F, v, l, h1, h2, h3, h4⟩ := hA.ex
  have hBA := Nat.le_trans hB cA.size
  have HF : Hid (∀ z, F z → ¬ Foot r v z) := heaps_off S h1 h2
  have H4 : Hid (∀ z, G z ↔ F z ∨ Foot r v z) := h4
  have H3 : Hid (l.Perm L) := h3
  have H2 : Hid (Rh (w.alloc (.cells #[.int .i64 k, .bool tw, .int .i64 x, .int .i64 y] 42)) B r v l) := h2
  have H1 : Hid (Hp (w.alloc (.cells #[.int .i64 k, .bool tw, .int .i64 x, .int .i64 y] 42)) B a F L) := h1
  have HA : Hid (HP Hp (w.alloc (.cells #[.int .i64 k, .bool tw, .int .i64 x, .int .i64 y] 42)) B a r L G) := hA
  have HBA : Hid (B ≤ (w.alloc (.cells #[.int .i64 k, .bool tw, .int .i64 x, .int .i64 y] 42)).heap.size) := hBA
  have HL : Hid (L.length < 8796093022208) := hL
  have HLl : Hid (l.length < 8796093022208) := by show _ < _; rw [h3.length_eq]; exact hL
  clear h cA hA h1 h2 h3 h4 hBA hB hL
  go_enter Try.func8, Try.ntmps8
  by_cases k0 : k = 0
  · subst k0
    have HP1 : Hid _ := S.push B a F L x y _ H1.out HBA.out HL.out
    go_upto_region 3 with fail
    generalize hWA : w.alloc (.cells #[.int .i64 0, .bool tw, .int .i64 x, .int .i64 y] 42) = WA at *
    go_wp2_with fail
    refine Calls.mono HP1.out ?_
    rintro z w1 ⟨rfl, F', hp', c1, f1⟩
    have hR1 := H2.out.keep c1 (fun z f k => HF.out z k f)
    have HMB1 : Hid (w1.heap[w.heap.size]? = some (.cells #[.int .i64 0, .bool tw, .int .i64 x, .int .i64 y] 42 (0, 0))) := blk_keep HMB.out c1 (fun f => by have := HGL.out _ ((H4.out _).2 (.inl f)); omega)
    have HR : Hid _ := rhpush_any B r v l x y w1 hR1 (Nat.le_trans HBA.out c1.size) HLl.out
    have HX : Hid (Hp w1 B a F' (Hp16.ins (x, y) L) ∧ Chg F WA w1 ∧ ∀ z, F' z → F z ∨ WA.heap.size ≤ z) := ⟨hp', c1, f1⟩
    obtain ⟨n0, n1, n2, n3⟩ := cells4m HMB1.out
    clear HP1 hp' c1 f1 hR1 m0 m1 m2 m3
    go_wp2_with fail
    refine Calls.mono HR.out ?_
    rintro z w2 ⟨rfl, v', k2, c2, f2⟩
    have HE : Hid (∃ G', HP Hp w2 B a r (Hp16.ins (x, y) L) G' ∧ Chg G WA w2 ∧ ∀ z, G' z → G z ∨ WA.heap.size ≤ z) := HP.mk2 S H4.out H2.out HX.out.1 HX.out.2.1 HX.out.2.2 HF.out k2 c2 f2 (by
      refine (List.perm_append_comm.trans ?_).trans (ins_perm (x, y) L).symm
      exact H3.out.cons _)
    clear k2 c2 f2 HR
    go_wp2
    go_ret
    obtain ⟨G', e1, e2, e3⟩ := HE.out
    refine ⟨rfl, _, G', e1, (HCA.out.mono (fun z f => f.elim)).trans e2 (fun z f => .inl f), fun z f => (e3 z f).imp (fun q => q) (fun q => Nat.le_trans HCA.out.size q), by rw [Hp16.ins_len]; omega, fun f => by omega⟩
  · have d0 : (k == 0) = false := by simp [k0]
    by_cases k1 : k = 1
    · subst k1
      by_cases hE : L = []
      · subst hE
        obtain rfl : l = [] := List.Perm.eq_nil H3.out
        have HP1 : Hid _ := S.popN B a F _ H1.out HBA.out
        go_upto_region 6 with fail
        generalize hWA : w.alloc (.cells #[.int .i64 1, .bool tw, .int .i64 x, .int .i64 y] 42) = WA at *
        clear m0 m1 m2 m3
        go_wp2_with fail
        refine Calls.mono HP1.out ?_
        rintro z w1 ⟨rfl, F', hp', c1, f1⟩
        have hR1 := H2.out.keep c1 (fun z f k => HF.out z k f)
        have HR : Hid _ := rhpop_none B r v w1 hR1
        have HX : Hid (Hp w1 B a F' [] ∧ Chg F WA w1 ∧ ∀ z, F' z → F z ∨ WA.heap.size ≤ z) := ⟨hp', c1, f1⟩
        have HR1 : Hid (Rh w1 B r v []) := hR1
        clear HP1 hp' c1 f1 hR1
        go_wp2_with fail
        refine Calls.mono HR.out ?_
        rintro z w2 ⟨rfl, rfl⟩
        have HE : Hid (∃ G', HP Hp w2 B a r [] G' ∧ Chg G WA w2 ∧ ∀ z, G' z → G z ∨ WA.heap.size ≤ z) := HP.mk2 S H4.out H2.out HX.out.1 HX.out.2.1 HX.out.2.2 HF.out HR1.out (Chg.refl _ _) (Moved.refl _ _) (List.Perm.refl _)
        clear HR
        go_wp2
        go_ret
        obtain ⟨G', e1, e2, e3⟩ := HE.out
        refine ⟨rfl, _, G', e1, (HCA.out.mono (fun z f => f.elim)).trans e2 (fun z f => .inl f), fun z f => (e3 z f).imp (fun q => q) (fun q => Nat.le_trans HCA.out.size q), by first | omega | (constructor <;> simp) | simp⟩
      · obtain ⟨p, t, rfl⟩ := List.exists_cons_of_ne_nil hE
        have HP1 : Hid _ := S.pop B a F p t _ H1.out HBA.out (by have := HL.out; simp at this; omega)
        go_upto_region 6 with fail
        generalize hWA : w.alloc (.cells #[.int .i64 1, .bool tw, .int .i64 x, .int .i64 y] 42) = WA at *
        clear m0 m1 m2 m3 hE
        go_wp2_with fail
        refine Calls.mono HP1.out ?_
        rintro z w1 ⟨rfl, F', hp', c1, f1⟩
        have hR1 := H2.out.keep c1 (fun z f k => HF.out z k f)
        have HR : Hid _ := rhpop_any B r v l p t w1 hR1 H3.out (S.srt H1.out) (Nat.le_trans HBA.out c1.size) HLl.out
        have HX : Hid (Hp w1 B a F' t ∧ Chg F WA w1 ∧ ∀ z, F' z → F z ∨ WA.heap.size ≤ z) := ⟨hp', c1, f1⟩
        clear HP1 hp' c1 f1 hR1
        go_wp2_with fail
        refine Calls.mono HR.out ?_
        rintro z w2 ⟨rfl, v', l', k2, k3, c2, f2⟩
        have HE : Hid (∃ G', HP Hp w2 B a r t G' ∧ Chg G WA w2 ∧ ∀ z, G' z → G z ∨ WA.heap.size ≤ z) := HP.mk2 S H4.out H2.out HX.out.1 HX.out.2.1 HX.out.2.2 HF.out k2 c2 f2 k3
        clear k2 k3 c2 f2 HR
        obtain ⟨p1, p2⟩ := p
        simp only
        go_wp2
        go_ret
        obtain ⟨G', e1, e2, e3⟩ := HE.out
        refine ⟨rfl, _, G', e1, (HCA.out.mono (fun z f => f.elim)).trans e2 (fun z f => .inl f), fun z f => (e3 z f).imp (fun q => q) (fun q => Nat.le_trans HCA.out.size q), by first | omega | (constructor <;> simp <;> omega) | (simp; omega)⟩
    · have d1 : (k == 1) = false := by simp [k1]
      by_cases k2 : k = 2
      · subst k2
        have HP1 : Hid (∀ ww, Chg (fun _ => False) (w.alloc (.cells #[.int .i64 2, .bool tw, .int .i64 x, .int .i64 y] 42)) ww → Calls Try.prog 6 #[.pointer (some ⟨a, 0, none⟩)] ww fun e w' => e = .returned (.int .i64 (L.length : Int)) ∧ Chg (fun _ => False) ww w') := fun ww hc => S.len B a F L ww (S.new H1.out hc) (by have := HL.out; omega)
        obtain ⟨ad, c, hv⟩ := formP H2.out.own
        have hk := cell00 H2.out.blk
        rw [hv, H3.out.length_eq] at hk
        clear k0 k1 d0 d1
        have hLi : (L.length : Int) < 8796093022208 := by have := HL.out; omega
        go_upto_region 10 with fail
        generalize hWA : w.alloc (.cells #[.int .i64 2, .bool tw, .int .i64 x, .int .i64 y] 42) = WA at *
        generalize L.length = n at *
        clear m0 m1 m2 m3
        refine wp_region_last (mk := fun u => #[_, _, _, _, _, _, _, _, _, _, _, _, _, _, _, _, _, _, _, _, _, _, _, _, _, _, _, _, _, _, _, _, _, _, _, _, _, _, _, _, _, _, _, _, _, _, _, _, _, _, _, _, _, _, _, _, _, _, u 58, u 59, u 60, u 61, u 62, u 63, u 64, u 65]) (F := fun slot vv ww => (look [(58, .val (.pointer (some ⟨a, 0, none⟩))), (59, .val (.int .i64 (n : Int))), (60, .val (.pointer (some ⟨r, 0, none⟩))), (61, .val (.pointer (some ⟨r, 0, none⟩))), (62, .val (.pointer (some ⟨r, 0, none⟩))), (63, .val (.slice ad n c)), (64, .val (.int .i64 (n : Int))), (65, .val (.bool true))] slot).holds vv ww) (fun _ => undef) rfl (by kernel_rfl) 8 _ rfl rfl (by kernel_rfl) ?_ (fun _ v w w' hc h => Fact.stays _ v w w' hc h) ?_ ?_
        · repeat (refine ⟨⟨_, rfl, fun _ _ => rfl⟩, ?_⟩)
          exact trivial
        · refine ⟨?_, ?_, ?_, ?_, ?_, ?_, ?_, ?_, trivial⟩
          · intro u w hc hd K hK -- 58
            clear hd
            go_simp
            exact hK.out (.pointer (some ⟨a, 0, none⟩)) w (Chg.refl _ _) rfl
          · intro u w hc hd K hK -- 59
            have h58 : (Fact.val (.pointer (some ⟨a, 0, none⟩))).holds (u 58) w := hd.get 0 (by kernel_rfl)
            simp only [Fact.holds] at h58
            clear hd
            simp only [h58] at hK
            go_simp
            refine Calls.mono (HP1.out w hc) ?_
            rintro z w1 ⟨rfl, c1⟩
            exact hK.out _ w1 c1 rfl
          · intro u w hc hd K hK -- 60
            clear hd
            go_simp
            exact hK.out (.pointer (some ⟨r, 0, none⟩)) w (Chg.refl _ _) rfl
          · intro u w hc hd K hK -- 61
            have h60 : (Fact.val (.pointer (some ⟨r, 0, none⟩))).holds (u 60) w := hd.get 2 (by kernel_rfl)
            simp only [Fact.holds] at h60
            clear hd
            simp only [h60] at hK
            go_simp
            exact hK.out (.pointer (some ⟨r, 0, none⟩)) w (Chg.refl _ _) rfl
          · intro u w hc hd K hK -- 62
            have h61 : (Fact.val (.pointer (some ⟨r, 0, none⟩))).holds (u 61) w := hd.get 3 (by kernel_rfl)
            simp only [Fact.holds] at h61
            clear hd
            simp only [h61] at hK
            go_simp
            exact hK.out (.pointer (some ⟨r, 0, none⟩)) w (Chg.refl _ _) rfl
          · intro u w hc hd K hK -- 63
            have h62 : (Fact.val (.pointer (some ⟨r, 0, none⟩))).holds (u 62) w := hd.get 4 (by kernel_rfl)
            simp only [Fact.holds] at h62
            clear hd
            simp only [h62] at hK
            have x0 := cell_chg hk hc
            go_simp
            exact hK.out _ w (Chg.refl _ _) rfl
          · intro u w hc hd K hK -- 64
            have h63 : (Fact.val (.slice ad n c)).holds (u 63) w := hd.get 5 (by kernel_rfl)
            simp only [Fact.holds] at h63
            clear hd
            simp only [h63] at hK
            go_simp
            exact hK.out (.int .i64 (n : Int)) w (Chg.refl _ _) rfl
          · intro u w hc hd K hK -- 65
            have h59 : (Fact.val (.int .i64 (n : Int))).holds (u 59) w := hd.get 1 (by kernel_rfl)
            simp only [Fact.holds] at h59
            have h64 : (Fact.val (.int .i64 (n : Int))).holds (u 64) w := hd.get 6 (by kernel_rfl)
            simp only [Fact.holds] at h64
            clear hd
            simp only [h59, h64] at hK
            have hnn : ((n : Int) == (n : Int)) = true := by simp
            go_simp
            exact hK.out (.bool true) w (Chg.refl _ _) (by first | rfl | simp [Fact.holds, look])
        · intro u w_ hc hA K hK
          obtain ⟨_, _, _, _, _, _, _, h65, _⟩ := hA
          have h65 : u 65 = .bool true := h65
          simp only [h65]
          refine hK.out _ _ ?_
          clear hK
          have HC : Hid (Chg (fun _ => False) WA w_) := hc
          clear hc
          go_wp2
          go_ret
          exact ⟨rfl, L, G, HA.out.new S HC.out, (chg_then HCA.out HC.out).mono (fun z f => f.elim), fun z f => .inl f, by omega⟩
      · have d2 : (k == 2) = false := by simp [k2]
        have HK1 : Hid (k = 1 → L.length = L.length - 1) := fun f => absurd f k1
        clear k0 k1 k2
        go_wp2
        go_ret
        exact ⟨rfl, L, G, HA.out, HCA.out.mono (fun z f => f.elim), fun z f => .inl f, by omega, HK1.out⟩
end Go.Proofs.Ytoeimahlielklaa
